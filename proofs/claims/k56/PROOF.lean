import PyProof.Rows.All
import Wide.All
import OpenK.AllK
import Wide.FinOn
import HandS.ForMost
import HandS.Wide
import HandS.Gcd
import HandS.IsInst
import HandS.Evl
import HandS.TupAny
import HandS.TupMul
import KE.GoesEnum
import KE.GoesMore
import KE.KRevSl
import HandS.Style
import HandS.Conv
import KE.GoesZip
import HandS.Zip
import HandS.Iter
import HandS.Dict
import HandS.ExcInit
import HandS.ExcValue
import HandS.ExcIs
import KE.KExcIs
import KE.KMathGC
import PyProof.SumWalkG
import PyProof.WalkInts
import KE.KDictZip
import PyProof.TupleOfGen
import PySem.Challenge.RW_daywatches_k56_firsts_judged
set_option Elab.async false
set_option linter.all false
set_option maxRecDepth 100000
set_option maxHeartbeats 4000000
/-! DWLib: what the proofs over daywatches share: defs as they stand, readings step by step, more rules for built-ins. -/
namespace DW
open PySem PySem.Spec PyProof.Rows L2

/-! ### defs, called where no repr is under way -/
section
variable {P : Program} {w : World} {K : PySem.W.Frag} {mg : Str → Option Value} {base : Heap}
/-- the promise of a def, asked only where no guard is known to be set -/
structure FnG (P : Program) (w : World) (K : PySem.W.Frag) (mg : Str → Option Value) (base : Heap)
    (CX : CXT) (k : Nat) (f : Addr) (fd : FuncData) (ps : List Str) (sp : Sp) : Prop where
  len : ∀ vs H Q E, sp vs H Q E → vs.length = ps.length
  go : ∀ (B : Around) (out : List Env) (s : Shared) (H : Hp) (gs : Args) (us : List Value) (vs : List V) (Q : VK) (E : XK),
    B.guards = some [] → Room k B → Env0 P w K mg base B out s H → BindsTo s fd gs (ps.zip us) → Vals vs us → sp vs H Q E →
    codeAny (model P w) B (.call (.ref f) gs) (CR CX out P w H s Q E) s
theorem FnG.mono {CX : CXT} {j k : Nat} {f : Addr} {fd : FuncData} {ps : List Str} {sp : Sp} (G : FnG P w K mg base CX j f fd ps sp) (h : j ≤ k) : FnG P w K mg base CX k f fd ps sp :=
  ⟨G.len, fun B out s H gs us vs Q E hg hr => G.go B out s H gs us vs Q E hg (Room.mono hr h)⟩
/-- a def that stands at the top under its name and keeps its promise, by at most level k -/
structure Def (P : Program) (w : World) (K : PySem.W.Frag) (mg : Str → Option Value) (base : Heap)
    (x : Str) (ps : List Str) (k : Nat) (sp : Sp) : Prop where
  ex : ∃ (f : Addr) (fd : FuncData), FnG P w K mg base CX0 k f fd ps sp ∧ mg x = some (.ref f) ∧
    PySem.W.keepIn K (.ref f) = true ∧ Binds K fd ps []
theorem Def.mono {x : Str} {ps : List Str} {j k : Nat} {sp : Sp} (G : Def P w K mg base x ps j sp) (h : j ≤ k) : Def P w K mg base x ps k sp := by
  obtain ⟨f, fd, F, r⟩ := G.ex
  exact ⟨f, fd, F.mono h, r⟩
/-- a def as the top has left it -/
structure FnAt (K : PySem.W.Frag) (mg : Str → Option Value) (x : Str) (st : Stmt) (ps : List Str) (f : Addr) (fd : FuncData) : Prop where
  F : Fun K x x st f fd
  mg : mg x = some (.ref f)
  ba : ∀ us : List Value, us.length = ps.length → bindArgs fd ⟨us, []⟩ = pure (ps.zip us)
theorem FnAt.b {x : Str} {st : Stmt} {ps : List Str} {f : Addr} {fd : FuncData} (T : FnAt K mg x st ps f fd) : Binds K fd ps [] := .all T.ba
def Top (K : PySem.W.Frag) (mg : Str → Option Value) (x : Str) (st : Stmt) (ps : List Str) : Prop := ∃ f fd, FnAt K mg x st ps f fd
theorem top_mk {h : Heap} {x : Str} {st : Stmt} {ps : List Str} {f : Addr} {oc kV doc pm cdv ct : Value} {od an : Option Addr} {osl : Array (Option Value)} (X : K.In h) (G : h.Ns mainGlobals mg)
    (hb : ∀ (kV doc pm : Value) (an : Option Addr) (cdv ct : Value) (us : List Value), us.length = ps.length →
      bindArgs (PySem.W.fnOf x x (defArgs st) (defBody st) (defScope st) .none kV doc pm an cdv ct) ⟨us, []⟩ = pure (ps.zip us))
    (a : PySem.W.nsIn K mainGlobals x = some (some (.ref f)))
    (l : K.lookup f = some ⟨oc, od, .func (PySem.W.fnOf x x (defArgs st) (defBody st) (defScope st) .none kV doc pm an cdv ct), osl⟩)
    (c : PySem.W.codeIn K cdv x = true) (k : PySem.W.keepIn K (.ref f) = true) : Top K mg x st ps :=
  ⟨f, _, ⟨fun_mk l c k, PySem.W.mg_of X G a, hb kV doc pm an cdv ct⟩⟩
/-- a def's promise from its body -/
theorem FnAt.keeps {x : Str} {st : Stmt} {ps N : List Str} {f : Addr} {fd : FuncData} {k : Nat} {sp : Sp} {CX : CXT} (T : FnAt K mg x st ps f fd) (S : FnScope N ps (defScope st))
    (len : ∀ vs H Q E, sp vs H Q E → vs.length = ps.length)
    (hbody : ∀ (cdv : Value) (B : Around) (out : List Env) (s : Shared) (H : Hp) (vs : List V) (Q : VK) (E : XK), B.guards = some [] →
      Room k (B.deeper (envOfC x (defScope st) s.heap.objs.size f cdv)) → sp vs H Q E →
      ∃ t, PSs (cxOf CX P w K mg base N x (defScope st) f cdv B out s H E) (defBody st) t ∧
        t { nx := fun _ H' => Q .non H', rt := Q } (start N vs) H) : FnG P w K mg base CX (k + 1) f fd ps sp := by
  obtain ⟨oc, od, kV, doc, pm, an, cdv, ct, osl, rfl, look, code⟩ := T.F.ex
  constructor
  · exact len
  intro B out s H gs us vs Q E hg hr e0 hb rv hs
  have hlen := len _ _ _ _ hs
  have inK : K.In s.heap := e0.mod.kin.keeps fun b o q => (e0.bs b o q).1
  have free : s.heap.NoLimit := e0.mod.nolimit.keeps fun b o q => (e0.bs b o q).1
  refine codeAny_call_function hr.depth (inK _ _ look) rfl S.co S.gen rfl (PySem.W.codeRec_of inK code) (hb _ _ _ _ ?_)
  refine wpAny_newFunctionEnv_cells S.kind (fun y hy => ?_) fun env he s1 x1 => ?_
  · have hp := S.par y.1 (List.of_mem_zip (show (y.1, y.2) ∈ _ from hy)).1
    cases hp with
    | inl q => exact Or.inl q
    | inr q => exact Or.inr ⟨q, PySem.W.cellsFrom_some _ _ _ (.inl q)⟩
  subst he
  refine ⟨free.keeps x1.toInCall.keep, codeAny_func ?_⟩
  obtain ⟨t, run, start⟩ := hbody cdv B out s H vs Q E hg (hr.deeper _) hs
  refine wpAny_mono (run.run [] s1 _ H _ (inv_start S hr.hd e0 hlen rv x1) start) ?_ fun e s' q => q
  intro fl s' q
  cases fl with
  | brk => exact (let ⟨_, _, _, z⟩ := q; z : False).elim
  | cont => exact (let ⟨_, _, _, z⟩ := q; z : False).elim
  | next =>
    obtain ⟨σ', H', J, z⟩ := q
    exact ⟨V.non, H', J.os, J.bare, J.base, J.hok, rfl, z⟩
  | ret u =>
    obtain ⟨v, σ', H', J, r, z⟩ := q
    exact ⟨v, H', J.os, J.bare, J.base, J.hok, r, z⟩
theorem FnAt.def {x : Str} {st : Stmt} {ps N : List Str} {f : Addr} {fd : FuncData} {k : Nat} {sp : Sp} (T : FnAt K mg x st ps f fd) (S : FnScope N ps (defScope st))
    (len : ∀ vs H Q E, sp vs H Q E → vs.length = ps.length)
    (hbody : ∀ (cdv : Value) (B : Around) (out : List Env) (s : Shared) (H : Hp) (vs : List V) (Q : VK) (E : XK), B.guards = some [] →
      Room k (B.deeper (envOfC x (defScope st) s.heap.objs.size f cdv)) → sp vs H Q E →
      ∃ t, PSs (cxOf CX0 P w K mg base N x (defScope st) f cdv B out s H E).nox (defBody st) t ∧
        t { nx := fun _ H' => Q .non H', rt := Q } (start N vs) H) : Def P w K mg base x ps (k + 1) sp := by
  refine ⟨f, fd, T.keeps S len fun cdv B out s H vs Q E hg hr hs => ?_, T.mg, T.F.kp, T.b⟩
  obtain ⟨t, r, q⟩ := hbody cdv B out s H vs Q E hg hr hs
  exact ⟨t, r.nox, q⟩
end
section
variable {X : Cx} {x : Str} {ps : List Str} {k : Nat} {sp : Sp} {e : Expr} {es : List Expr} {p pos : Pos} {t : TA}
theorem call_go {pins : List (Addr × Obj)} {σ : L2.St} {H : Hp} {s : Shared} {Q : VK} {us ds : List Value} {vs dvs : List V} {f : Addr} {fd : FuncData} {CX : CXT} {E : XK} (G : FnG X.prog X.w X.K X.mg X.base CX k f fd ps sp)
    (hg : X.A.guards = some []) (hr : Room k X.A) (hb : Binds X.K fd ps ds) (hd : Vals dvs ds) (hx : Passes CX X E) (I : Inv X pins σ H s) (rv : Vals vs us) (h : sp (vs ++ dvs) H Q E) :
    wpAny (model X.prog X.w) X.A (call (.ref f) us) (EP X pins σ Q) X.xe s := by
  have both : Vals (vs ++ dvs) (us ++ ds) := rv.append hd
  have n : (us ++ ds).length = ps.length := both.length.symm.trans (G.len _ _ _ _ h)
  refine wpAny_call (codeAny_mono (G.go X.A X.stack s H ⟨us, []⟩ _ _ Q E hg hr I.env0 (hb s us I.kIn n) both h) ?_)
  intro r s' q
  match r, q with
  | .error e, q => exact hx pins σ H s e s' I q
  | .ok (.ret u), q => exact I.after q
theorem pe_def (G : Def X.prog X.w X.K X.mg X.base x ps k sp) (hgu : X.A.guards = some []) (hr : Room k X.A) (hg : Gl X x)
    (ha : PA X (e :: es) t) (hdb : (x == ("__debug__" : Str)) = false := by decide)
    (he : starEach (e :: es) X.env = (false, eval e X.env) :: starEach es X.env := by rfl)
    (hpl : (backTo pos (starEach es X.env)).any (·.1) = false := by rfl) :
    PE X (.Call (.Name x p) (e :: es) [] pos) (tCall sp [] E0 t) := by
  obtain ⟨f, fd, F, hm, hk, hb⟩ := G.ex
  constructor
  intro pins s σ H Q I h
  refine wpAny_Call_Name_kw (ld_glob I hg hm ?_ hdb)
  refine PySem.W.callWith_K (h₀ := X.base) I.ok.mod.kin hk ?_ he hpl
  exact thn (ha.run pos pins s σ H _ I h) fun us s1 ⟨vs, H1, I1, r, q⟩ => ⟨I1.kIn, call_go F hgu hr hb .nil pass0 I1 r q⟩
theorem pe_def0 (G : Def X.prog X.w X.K X.mg X.base x ps k sp) (hgu : X.A.guards = some []) (hr : Room k X.A) (hg : Gl X x) (hdb : (x == ("__debug__" : Str)) = false := by decide) :
    PE X (.Call (.Name x p) [] [] pos) (tCall sp [] E0 tNil) := by
  obtain ⟨f, fd, F, hm, hk, hb⟩ := G.ex
  constructor
  intro pins s σ H Q I h
  exact wpAny_Call_Name_kw (ld_glob I hg hm (PySem.W.callWith_K0 I.kIn hk (call_go (us := []) F hgu hr hb .nil pass0 I .nil h)) hdb)
end

/-! ### the law's own call -/
section
variable {P : Program} {w : World} {K : PySem.W.Frag} {mg mb : Str → Option Value} {k : Nat} {fa a : Addr} {fd : FuncData} {x : Str} {sp : Sp} {s₁ : Shared} {us : List Value} {ns : List Int}
/-- where at most the script is tracked -/
theorem law_at (H : Hp) (KX : K.In s₁.heap) (hns : s₁.heap.Ns mainGlobals mg) (hb : s₁.heap.Ns builtinsNs mb) (hbb : ∀ x : Str, x ≠ "__name__" → mb x = bootBuiltins x) (hlim : s₁.heap.NoLimit) (hgen : s₁.gens = #[])
    (hobj : s₁.heap.get? a = some { cls := .type "list", data := .seq us.toArray }) (hr : Room k callerA)
    (F : ∀ base : Heap, K.In base → base.Ns mainGlobals mg → FnG P w K mg base CX0 k fa fd [x] sp) (hbind : ∀ (s : Shared) (u : Value), BindsTo s fd ⟨[u], []⟩ [(x, u)])
    (hfr : ∀ b o, H b = some o → b = a ∧ K.lookup a = none ∧ ∃ ob xs, o = .frz ob (.lst xs)) (hok : HOk P w H s₁.heap)
    (h : sp [.ref a] H (fun v _ => v = .bl true) fun _ _ _ => False) :
    codeAny (model P w) callerA (.call (.ref fa) ⟨[.ref a], []⟩)
      (fun r s' => r = .ok (.ret (.bool true)) ∧ OldK s₁.heap s'.heap ∧ s'.os = s₁.os ∧ AllBare s'.gens) s₁ := by
  have keepK : K.In (hidT s₁.heap H) := by
    intro b o q
    refine hidT_get (KX b o q) ?_
    cases z : H b with
    | none => rfl
    | some u =>
      obtain ⟨rfl, n, _⟩ := hfr b u z
      rw [n] at q
      cases q
  have keepN : ∀ {b : Addr} {m : Str → Option Value}, s₁.heap.Ns b m → (hidT s₁.heap H).Ns b m := by
    rintro b m ⟨o, es, ep, q, d, r⟩
    refine ⟨o, es, ep, hidT_get q ?_, d, r⟩
    cases z : H b with
    | none => rfl
    | some u =>
      obtain ⟨rfl, _, _⟩ := hfr b u z
      rw [hobj] at q
      cases q
      have d2 : Data.seq us.toArray _ = Data.dict es ep := d
      cases d2
  obtain ⟨mc, l1, l2⟩ := hlim
  have e0 : Env0 P w K mg (hidT s₁.heap H) callerA [] s₁ H :=
    { frames := rfl, mod := ⟨keepK, keepN hns, ⟨mb, keepN hb, hbb⟩, mc, keepN l1, l2⟩, bs := fun _ _ q => of_hidT q, bsz := Nat.le_of_eq (hidT_size _ _)
      funs := trivial, frf := fun _ z => (List.not_mem_nil z).elim, hok := hok, bare := .of_eq hgen }
  have run := (F _ keepK (keepN hns)).go callerA [] s₁ H ⟨[.ref a], []⟩ [.ref a] [.ref a] _ _ rfl hr e0 (hbind s₁ (.ref a)) (.cons rfl .nil) h
  refine codeAny_mono run ?_
  intro r s' q
  match r, q with
  | .ok (.ret u), q =>
    obtain ⟨v, H', os, bare, un, hok', rel, hv⟩ := q
    have hv' : v = V.bl true := hv
    subst hv'
    cases (show u = Value.bool true from rel)
    refine ⟨rfl, OldK.of_keep fun b o q => ?_, os, bare⟩
    cases z : H b with
    | none => exact un.keep b o q z (fun y => (List.not_mem_nil y).elim) List.not_mem_nil
    | some u =>
      obtain ⟨_, _, ob, xs, rfl⟩ := hfr b u z
      have q1 := (hok b _ z).1
      have q2 := (hok' b _ (un.frzs b ob _ z)).1
      rw [q] at q1
      cases q1
      exact q2
theorem law_go (KX : K.In s₁.heap) (hns : s₁.heap.Ns mainGlobals mg) (hb : s₁.heap.Ns builtinsNs mb) (hbb : ∀ x : Str, x ≠ "__name__" → mb x = bootBuiltins x) (hlim : s₁.heap.NoLimit) (hgen : s₁.gens = #[])
    (hobj : s₁.heap.get? a = some { cls := .type "list", data := .seq us.toArray }) (hi : IntsAre us ns) (hl : ns.length ≤ sizeLine) (hr : Room k callerA)
    (F : ∀ base : Heap, K.In base → base.Ns mainGlobals mg → FnG P w K mg base CX0 k fa fd [x] sp) (hbind : ∀ (s : Shared) (u : Value), BindsTo s fd ⟨[u], []⟩ [(x, u)])
    (hsp : ∀ H : Hp, SqL K H a (ns.map V.int) → sp [.ref a] H (fun v _ => v = .bl true) fun _ _ _ => False) :
    codeAny (model P w) callerA (.call (.ref fa) ⟨[.ref a], []⟩)
      (fun r s' => r = .ok (.ret (.bool true)) ∧ OldK s₁.heap s'.heap ∧ s'.os = s₁.os ∧ AllBare s'.gens) s₁ := by
  have vals : Vals (ns.map V.int) us := vals_of_ints hi
  cases hk : K.lookup a with
  | some o =>
    have q := KX a o hk
    rw [hobj] at q
    cases q
    refine law_at (fun _ => none) KX hns hb hbb hlim hgen hobj hr F hbind (fun _ _ z => nomatch z) (fun _ _ z => nomatch z) (hsp _ ?_)
    refine Or.inr ⟨_, us.toArray, _, hk, rfl, rfl, rfl, ?_, vals⟩
    rw [List.size_toArray, ← vals.length, List.length_map]
    exact hl
  | none =>
    have look : ∀ {b : Addr} {u : HO}, (if b = a then some (HO.frz { cls := .type "list", data := .seq us.toArray } (.lst (ns.map V.int))) else none) = some u →
        b = a ∧ u = HO.frz { cls := .type "list", data := .seq us.toArray } (.lst (ns.map V.int)) := by
      intro b u z
      by_cases e : b = a
      · rw [if_pos e] at z
        exact ⟨e, (Option.some.inj z).symm⟩
      · rw [if_neg e] at z
        cases z
    refine law_at (fun b => if b = a then some (HO.frz { cls := .type "list", data := .seq us.toArray } (.lst (ns.map V.int))) else none) KX hns hb hbb hlim hgen hobj hr F hbind (fun b u z => ?_) (fun b u z => ?_)
      (hsp _ (Or.inl (Or.inr ⟨{ cls := .type "list", data := .seq us.toArray }, if_pos rfl⟩)))
    · obtain ⟨e1, e2⟩ := look z
      exact ⟨e1, hk, _, _, e2⟩
    · obtain ⟨rfl, rfl⟩ := look z
      refine ⟨hobj, ?_, us, _, vals, hobj⟩
      rw [List.length_map]
      exact hl
end
/-- what is left of the law's row behind its head -/
theorem walk_go {l : PySem.W.OpenLaw} {n k : Nat} {q : Program} {loose : List Str} {XP : (Str → Option Value) → Heap → Prop} {YP : World → Heap → Prop} {d : DefRec} {K : Params → PySem.W.Frag} {sp : PySem.W.Frag → Sp} {x : Str}
    (hn : l.most = some n) (hn2 : n ≤ sizeLine) (hdf : d.params.defaults = []) (hr : Room k callerA)
    (hY : ∀ (w : World) (h : Heap), YP w h → (K w.params).In h)
    (F : ∀ (w : World) (mg : Str → Option Value) (fa : Addr) (h : Heap), (K w.params).In h → h.Ns mainGlobals mg → mg d.name = some (.ref fa) →
      ∃ fd : FuncData, (∀ (s : Shared) (u : Value), BindsTo s fd ⟨[u], []⟩ [(x, u)]) ∧
        ∀ base : Heap, (K w.params).In base → base.Ns mainGlobals mg → FnG l.prog w (K w.params) mg base CX0 k fa fd [x] (sp (K w.params)))
    (hsp : ∀ (K : PySem.W.Frag) (H : Hp) (a : Addr) (ns : List Int), ns.length ≤ n → SqL K H a (ns.map V.int) → sp K [.ref a] H (fun v _ => v = .bl true) fun _ _ _ => False) :
    PySem.W.WalkO q loose XP YP l.row.toRowW d [] (fun f vs => PySem.call f vs) := by
  apply Att.attach_call hn hdf
  intro w s₀ s₁ mg mb fa o pm cd doc a us ns G Y ho hd hcd hmg hobj hints hlen hgen
  obtain ⟨fd, bind, keep⟩ := F w mg fa _ (hY w _ Y) G.T.g hmg
  exact law_go (hY w _ Y) G.T.g G.T.b G.T.builtins G.T.nolimit hgen hobj hints (Nat.le_trans hlen hn2) hr keep bind fun H hS => hsp _ H a ns hlen hS

/-! ### more built-ins -/
section
variable {X : Cx}
/-- repr of data -/
def rRepr (K : PySem.W.Frag) : List V → Hp → VK → Prop := fun vs H Q => ∃ v d, vs = [v] ∧ Dp K H v d ∧ d.showable = true ∧ d.depth ≤ 60 ∧ d.shown.length ≤ sizeLine ∧ Q (.str d.shown) H
mutual
theorem dp_noDict {K : PySem.W.Frag} {H : Hp} : ∀ (d : PyData) (v : V), Dp K H v d → d.hasDict = false
  | .none, _, _ => by simp only [PyData.hasDict]
  | .bool _, _, _ => by simp only [PyData.hasDict]
  | .int _, _, _ => by simp only [PyData.hasDict]
  | .str _, _, _ => by simp only [PyData.hasDict]
  | .list ds, _, h => by
    simp only [PyData.hasDict]
    cases h with
    | lst _ h => exact dp_noDictAll ds _ h
  | .tuple ds, _, h => by
    simp only [PyData.hasDict]
    cases h with
    | tup _ h => exact dp_noDictAll ds _ h
  | .dict _, _, h => by cases h
theorem dp_noDictAll {K : PySem.W.Frag} {H : Hp} : ∀ (ds : List PyData) (vs : List V), DpAll K H vs ds → PyData.hasDictAll ds = false
  | [], _, _ => by simp only [PyData.hasDictAll]
  | d :: ds, _, h => by
    cases h with
    | cons h1 h2 => simp only [PyData.hasDictAll, dp_noDict d _ h1, dp_noDictAll ds _ h2, Bool.or_self]
end
theorem call_repr (hg : X.A.guards = some []) (hu : X.A.units + 64 < cLine) : CallR X (.builtin "repr") (rRepr X.K) := by
  intro pins s σ H vs us Q I r h
  obtain ⟨v, d, rfl, hd, hs, hdp, hz, q⟩ := h
  obtain ⟨u, rfl, rv⟩ := vals1 r
  have hn := dp_noDict d v hd
  obtain ⟨as, rd⟩ := Dp.reads I d v u hd rv
  have leaf : ∀ {a : Addr}, u = .ref a → wpAny (model X.prog X.w) X.A (call (.builtin "repr") [u]) (EP X pins σ Q) X.xe s := by
    rintro a rfl
    exact repr_of_reads' rd hs (PyData.noDict_hsm hn) hg (by omega) (fun _ _ e => e) (fun h' t tk hk => ⟨.str _, H, I.kept (t' := tk) hk, ⟨t, rfl⟩, q⟩) hz
  cases hd with
  | non => cases (show u = Value.none from rv); exact PySem.P.repr_of_none ⟨.str _, H, I.tok _, ⟨_, rfl⟩, by simpa only [PyData.shown] using q⟩
  | bl b =>
    cases (show u = Value.bool b from rv)
    exact PySem.P.repr_of_bool ⟨.str _, H, I.tok _, ⟨_, rfl⟩, by simpa only [PyData.shown] using q⟩
  | int i =>
    obtain ⟨t, rfl⟩ := (show ∃ t, u = Value.int i t from rv)
    have hs' : i.natAbs.log2 < 1920 := by simpa only [PyData.showable, decide_eq_true_eq] using hs
    exact PySem.P.repr_of_int hs' ⟨.str _, H, I.tok _, ⟨_, rfl⟩, by simpa only [PyData.shown] using q⟩
  | str x =>
    obtain ⟨t, rfl⟩ := (show ∃ t, u = Value.str x t from rv)
    have hz' : (reprText x).length ≤ sizeLine := by simpa only [PyData.shown] using hz
    exact PySem.P.repr_of_str ⟨.str _, H, I.tok _, ⟨_, rfl⟩, by simpa only [PyData.shown] using q⟩ hz'
  | lst _ _ => exact leaf rv
  | tup _ _ => exact leaf rv
theorem cr_lcm : CallR X (.builtin "math.lcm") (fun vs H Q => ∃ a b : Int, vs = [.int a, .int b] ∧ a.natAbs.log2 < 13000 ∧ b.natAbs.log2 < 13000 ∧ Q (.int ((Nat.lcm a.natAbs b.natAbs : Nat) : Int)) H) := by
  intro pins s σ H vs us Q I r h
  obtain ⟨a, b, rfl, ha, hb, q⟩ := h
  obtain ⟨t, u, rfl⟩ := Vals.int2 r
  have e1 : Nat.lcm 1 a.natAbs = a.natAbs := by simp [Nat.lcm]
  have hm : (max 1 a.natAbs).log2 < 13000 := by
    by_cases h : 1 ≤ a.natAbs
    · rw [Nat.max_eq_right h]
      exact ha
    · rw [Nat.max_eq_left (by omega)]
      decide
  have hm2 : (max a.natAbs b.natAbs).log2 < 13000 := by
    by_cases h : a.natAbs ≤ b.natAbs
    · rw [Nat.max_eq_right h]
      exact hb
    · rw [Nat.max_eq_left (by omega)]
      exact ha
  have lt : ∀ {n : Nat}, n.log2 < 13000 → n < 2 ^ 13000 := by
    intro n h
    by_cases h0 : n = 0
    · subst h0
      exact Nat.pow_pos (by decide)
    · exact (Nat.log2_lt h0).mp h
  have le : Nat.lcm a.natAbs b.natAbs < 2 ^ 26000 := by
    have h1 : Nat.lcm a.natAbs b.natAbs ≤ a.natAbs * b.natAbs := by
      unfold Nat.lcm
      exact Nat.div_le_self _ _
    have h2 : a.natAbs * b.natAbs < 2 ^ 13000 * 2 ^ 13000 := Nat.mul_lt_mul'' (lt ha) (lt hb)
    rw [← Nat.pow_add] at h2
    exact Nat.lt_of_le_of_lt h1 h2
  have sz : ((((Nat.lcm 1 a.natAbs).lcm b.natAbs : Nat) : Int)).natAbs.log2 < bitsLine := by
    rw [e1, Int.natAbs_natCast]
    refine Nat.lt_trans (PySem.Flt.log2_lt_of (by decide) le) ?_
    decide
  have g := PySem.W.mg_run_lcm a t b u (by omega) (by omega) sz
  rw [e1] at g
  exact call_function_meets PySem.W.MGF.kind_lcm PySem.W.MGF.plain_lcm PySem.W.MGF.entry_lcm (PySem.W.MGF.args_lcm _ _) g.meets ⟨.int _, H, I.tok _, ⟨_, rfl⟩, q⟩
end

/-! ### readings, a step at a time -/
section
variable {D : Ends} {σ : L2.St} {H : Hp} {Q : VK} {te ta tb : TE} {t u : TS} {c d : TT} {g : TG} {i : Nat} {v : V} {tr : TA}
theorem g_seq (h : t { D with nx := u D } σ H) : tSeq t u D σ H := h
theorem g_asg (h : te σ H fun x H1 => g x σ H1 D.nx) : tAsg te g D σ H := h
theorem g_name {Q : L2.St → Hp → Prop} (h : Q (σ.set i (some v)) H) : gName i v σ H Q := h
theorem g_ret (h : te σ H D.rt) : tRet te D σ H := h
theorem g_retN (h : D.rt .non H) : tRetN D σ H := h
theorem g_drop (h : te σ H fun _ H1 => D.nx σ H1) : tDrop te D σ H := h
theorem g_if (h : c σ H fun b H1 => if b = true then t D σ H1 else u D σ H1) : tIfS c t u D σ H := h
theorem g_next (h : D.nx σ H) : tNext D σ H := h
theorem g_c (q : Q v H) : tC v σ H Q := q
theorem g_op {r : R2} (h : ta σ H fun x H1 => tb σ H1 fun y H2 => r x y H2 Q) : tOp r ta tb σ H Q := h
theorem g_un {r : V → Hp → VK → Prop} (h : ta σ H fun x H1 => r x H1 Q) : tUn r ta σ H Q := h
theorem g_I0 {f : Int → Int → V} {a b : Int} (q : Q (f a b) H) : rI0 f (.int a) (.int b) H Q := ⟨a, b, rfl, rfl, q⟩
theorem g_I {C : Int → Int → Prop} {f : Int → Int → V} {a b : Int} (hc : C a b) (q : Q (f a b) H) : rI C f (.int a) (.int b) H Q := ⟨a, b, rfl, rfl, hc, q⟩
theorem g_U {f : Int → V} {a : Int} (q : Q (f a) H) : rU f (.int a) H Q := ⟨a, rfl, q⟩
theorem g_eqI {a b : Int} (q : Q (.bl (decide (a = b))) H) : rEq (.int a) (.int b) H Q := by
  refine ⟨rfl, ?_⟩
  have e : decide (V.int a = V.int b) = decide (a = b) := by simp
  rw [e]
  exact q
theorem g_neI {a b : Int} (q : Q (.bl (!decide (a = b))) H) : rNe (.int a) (.int b) H Q := by
  refine ⟨rfl, ?_⟩
  have e : decide (V.int a = V.int b) = decide (a = b) := by simp
  rw [e]
  exact q
theorem g_eqS {a b : Str} (q : Q (.bl (decide (a = b))) H) : rEq (.str a) (.str b) H Q := by
  refine ⟨rfl, ?_⟩
  have e : decide (V.str a = V.str b) = decide (a = b) := by simp
  rw [e]
  exact q
theorem g_neS {a b : Str} (q : Q (.bl (!decide (a = b))) H) : rNe (.str a) (.str b) H Q := by
  refine ⟨rfl, ?_⟩
  have e : decide (V.str a = V.str b) = decide (a = b) := by simp
  rw [e]
  exact q
theorem g_tup (h : tr σ H fun xs H1 => xs.length ≤ sizeLine ∧ ∀ p, H1 p = none → Q (.ref p) (upd H1 p (.tup xs))) : tTup tr σ H Q := h
theorem g_lst (h : tr σ H fun xs H1 => xs.length ≤ sizeLine ∧ ∀ p, H1 p = none → Q (.ref p) (upd H1 p (.lst xs))) : tLst tr σ H Q := h
theorem g_nil {Q : List V → Hp → Prop} (h : Q [] H) : tNil σ H Q := h
theorem g_cons {Q : List V → Hp → Prop} (h : te σ H fun x H1 => tr σ H1 fun xs H2 => Q (x :: xs) H2) : tCons te tr σ H Q := h
theorem g_call {sp : Sp} {dvs : List V} {E : XK} (h : tr σ H fun vs H1 => sp (vs ++ dvs) H1 Q E) : tCall sp dvs E tr σ H Q := h
theorem g_cb {r : List V → Hp → VK → Prop} (h : tr σ H fun vs H1 => r vs H1 Q) : tCB r tr σ H Q := h
theorem g_test {Q : Bool → Hp → Prop} (h : te σ H fun x H' => ∃ k, x = .bl k ∧ Q k H') : tTest te σ H Q := h
theorem g_B {Q : Bool → Hp → Prop} (h : te σ H fun x H' => ∃ k, x = .bl k ∧ Q k H') : tB te σ H Q := h
theorem g_and {Q : Bool → Hp → Prop} (h : c σ H fun b H1 => if b = true then d σ H1 Q else Q false H1) : tAnd c d σ H Q := h
theorem g_or {Q : Bool → Hp → Prop} (h : c σ H fun b H1 => if b = true then Q true H1 else d σ H1 Q) : tOr c d σ H Q := h
theorem g_not {Q : Bool → Hp → Prop} (h : c σ H fun b H1 => Q (!b) H1) : tNot c σ H Q := h
theorem g_ifE (h : c σ H fun b H1 => if b = true then ta σ H1 Q else tb σ H1 Q) : tIf c ta tb σ H Q := h
theorem g_andV (h : ta σ H fun x H1 => ∃ c, x = .bl c ∧ if c = true then tb σ H1 Q else Q (.bl false) H1) : tAndV ta tb σ H Q := h
theorem g_orV (h : ta σ H fun x H1 => ∃ c, x = .bl c ∧ if c = true then Q (.bl true) H1 else tb σ H1 Q) : tOrV ta tb σ H Q := h
theorem g_notV (h : ta σ H fun x H1 => ∃ c, x = .bl c ∧ Q (.bl (!c)) H1) : tNotV ta σ H Q := h
theorem g_chain {r r' : R2} {tc : TE} (h : ta σ H fun x H1 => tb σ H1 fun y H2 => r x y H2 fun z H3 => ∃ k, z = .bl k ∧ (if k = true then tc σ H3 fun w' H4 => r' y w' H4 Q else Q (.bl false) H3)) : tChain r r' ta tb tc σ H Q := h
theorem g_chainT {r r' : R2} {tc : TE} {Q : Bool → Hp → Prop} (h : tChain r r' ta tb tc σ H fun x H' => ∃ k, x = .bl k ∧ Q k H') : tTest (tChain r r' ta tb tc) σ H Q := h
theorem g_var (h : σ[i]? = some (some v)) (q : Q v H) : tVar i σ H Q := ⟨v, h, q⟩
theorem g_no {Q : Option Int → Hp → Prop} (q : Q none H) : tNoPart σ H Q := q
theorem g_part {Q : Option Int → Hp → Prop} (h : te σ H fun x H1 => ∃ i, x = .int i ∧ Q (some i) H1) : tPart te σ H Q := h
theorem g_sl {r : V → Option Int → Option Int → Hp → VK → Prop} {tl th : TO} (h : te σ H fun x H1 => tl σ H1 fun l H2 => th σ H2 fun u H3 => r x l u H3 Q) : tSl r te tl th σ H Q := h
theorem g_bm {K : PySem.W.Frag} {T : String} {r : V → List V → Hp → VK → Prop} (h : te σ H fun x H1 => tyV K T x H1 ∧ tr σ H1 fun xs H2 => r x xs H2 Q) : tBM K T r te tr σ H Q := h
theorem g_bm0 {K : PySem.W.Frag} {T : String} {r : V → List V → Hp → VK → Prop} (h : te σ H fun x H1 => tyV K T x H1 ∧ r x [] H1 Q) : tBM0 K T r te σ H Q := h
theorem g_par {i j : Nat} {ta : TA} (h : ta σ H fun vs H1 => ∃ v w, vs = [v, w] ∧ D.nx ((σ.set i (some v)).set j (some w)) H1) : tPar i j ta D σ H := h
theorem g_sub {to ti : TE} {s : TSet} {Q : L2.St → Hp → Prop} (h : to σ H fun o H1 => ti σ H1 fun i H2 => s o i v H2 fun H3 => Q σ H3) : gSub to ti s v σ H Q := h
theorem g_ixL {K : PySem.W.Frag} {p : Addr} {xs : List V} {i : Int} (h : H p = some (.lst xs)) (e : atI xs i = some v) (q : Q v H) : rIxL K (.ref p) (.int i) H Q := ⟨p, xs, i, v, rfl, rfl, SqL.of h, e, q⟩
theorem g_ixT {K : PySem.W.Frag} {p : Addr} {xs : List V} {i : Int} (h : H p = some (.tup xs)) (e : atI xs i = some v) (q : Q v H) : rIxT K (.ref p) (.int i) H Q := ⟨p, xs, i, v, rfl, rfl, SqT.of h, e, q⟩
theorem g_gTup {K : PySem.W.Frag} {p : Addr} {xs : List V} {n : Nat} {ts : TGs} {Q : L2.St → Hp → Prop} (h : H p = some (.tup xs)) (hn : xs.length = n) (q : ts xs σ H Q) : gTup K n ts (.ref p) σ H Q := ⟨p, xs, rfl, SqT.of h, hn, q⟩
theorem g_gCons {t : TG} {u : TGs} {v : V} {r : List V} {Q : L2.St → Hp → Prop} (h : t v σ H fun σ' H' => u r σ' H' Q) : gCons t u (v :: r) σ H Q := ⟨v, r, rfl, h⟩
theorem g_gNil {Q : L2.St → Hp → Prop} (h : Q σ H) : gNil [] σ H Q := ⟨rfl, h⟩
theorem g_lenL {K : PySem.W.Frag} {p : Addr} {xs : List V} (h : H p = some (.lst xs)) (q : Q (.int xs.length) H) : (fun (vs : List V) (H : Hp) (Q : VK) => ∃ p ys, vs = [.ref p] ∧ (SqL K H p ys ∨ SqT K H p ys) ∧ Q (.int ys.length) H) [.ref p] H Q := ⟨p, xs, rfl, .inl (SqL.of h), q⟩
end
/-! ### loops and comprehensions -/
section
variable {K : PySem.W.Frag} {ta : TA} {tl : TE} {g : TG} {tb : TS} {D : Ends} {σ : L2.St} {H : Hp} {tt : TT} {te : TE} {vs : List Nat} {Q : VK} {a : Addr} {xs : List V} {lo : Int} {n : Nat}
theorem g_for1 (h : ta σ H fun vs H1 => ∃ j : Int, vs = [.int j] ∧ -(2 ^ 62) ≤ j ∧ j < 2 ^ 62 ∧ tFor (fun _ H R => R (Itr 0 j.toNat) H) g tb D σ H1) : tFor (iRng1 ta) g tb D σ H := h
theorem g_for2 (h : ta σ H fun vs H1 => ∃ i j : Int, vs = [.int i, .int j] ∧ (-(2 ^ 62) ≤ i ∧ i < 2 ^ 62 ∧ -(2 ^ 62) ≤ j ∧ j < 2 ^ 62) ∧ tFor (fun _ H R => R (Itr i (j - i).toNat) H) g tb D σ H1) : tFor (iRng2 ta) g tb D σ H := h
theorem g_forL (h : tl σ H fun x H1 => ∃ a, x = .ref a ∧ (∃ xs, SqL K H1 a xs) ∧ tFor (fun _ H R => R (Itl K a) H) g tb D σ H1) : tFor (iList K tl) g tb D σ H := h
theorem g_forT (h : tl σ H fun x H1 => ∃ a, x = .ref a ∧ (∃ xs, SqT K H1 a xs) ∧ tFor (fun _ H R => R (Itt K a) H) g tb D σ H1) : tFor (iTup K tl) g tb D σ H := h
theorem f_range (Pv : Nat → L2.St → Hp → Prop) (h0 : Pv 0 σ H)
    (hs : ∀ i σ H, i < n → Pv i σ H → g (.int (lo + i)) σ H fun σ2 H2 => tb { D with nx := Pv (i + 1), ct := Pv (i + 1), bk := D.nx } σ2 H2)
    (hd : ∀ σ H, Pv n σ H → D.nx σ H) : tFor (fun _ H R => R (Itr lo n) H) g tb D σ H := for_range Pv h0 hs hd
theorem f_list (Pv : Nat → L2.St → Hp → Prop) (h0 : Pv 0 σ H) (hl : ∀ i σ H, Pv i σ H → H a = some (.lst xs))
    (hs : ∀ i x σ H, xs[i]? = some x → Pv i σ H → g x σ H fun σ2 H2 => tb { D with nx := Pv (i + 1), ct := Pv (i + 1), bk := D.nx } σ2 H2)
    (hd : ∀ σ H, Pv xs.length σ H → D.nx σ H) : tFor (fun _ H R => R (Itl K a) H) g tb D σ H := for_list Pv h0 (fun i σ H _ p => SqL.of (hl i σ H p)) hs hd
theorem f_tup (Pv : Nat → L2.St → Hp → Prop) (h0 : Pv 0 σ H) (hl : ∀ i σ H, Pv i σ H → H a = some (.tup xs))
    (hs : ∀ i x σ H, xs[i]? = some x → Pv i σ H → g x σ H fun σ2 H2 => tb { D with nx := Pv (i + 1), ct := Pv (i + 1), bk := D.nx } σ2 H2)
    (hd : ∀ σ H, Pv xs.length σ H → D.nx σ H) : tFor (fun _ H R => R (Itt K a) H) g tb D σ H := for_tup Pv h0 (fun i σ H _ p => SqT.of (hl i σ H p)) hs hd
theorem g_lc1 (h : ta σ H fun us H1 => ∃ j : Int, us = [.int j] ∧ -(2 ^ 62) ≤ j ∧ j < 2 ^ 62 ∧ tLc (fun _ H R => R (Itr 0 j.toNat) H) g tt te vs σ H1 Q) : tLc (iRng1 ta) g tt te vs σ H Q := h
theorem g_lc2 (h : ta σ H fun us H1 => ∃ i j : Int, us = [.int i, .int j] ∧ (-(2 ^ 62) ≤ i ∧ i < 2 ^ 62 ∧ -(2 ^ 62) ≤ j ∧ j < 2 ^ 62) ∧ tLc (fun _ H R => R (Itr i (j - i).toNat) H) g tt te vs σ H1 Q) : tLc (iRng2 ta) g tt te vs σ H Q := h
theorem g_lcL (h : tl σ H fun x H1 => ∃ a, x = .ref a ∧ (∃ xs, SqL K H1 a xs) ∧ tLc (fun _ H R => R (Itl K a) H) g tt te vs σ H1 Q) : tLc (iList K tl) g tt te vs σ H Q := h
theorem g_lcT (h : tl σ H fun x H1 => ∃ a, x = .ref a ∧ (∃ xs, SqT K H1 a xs) ∧ tLc (fun _ H R => R (Itt K a) H) g tt te vs σ H1 Q) : tLc (iTup K tl) g tt te vs σ H Q := h
theorem g_yes {Q : Bool → Hp → Prop} (h : Q true H) : tYes σ H Q := h
theorem c_range (Pv : Addr → Nat → Hp → Prop) (h0 : ∀ D, H D = none → Pv D 0 (upd H D (.lst [])))
    (hs : ∀ D i H, i < n → Pv D i H → g (.int (lo + i)) (wipe σ vs) H fun σ2 H2 => wipe σ2 vs = wipe σ vs ∧ tt σ2 H2 fun b H3 =>
      if b = true then te σ2 H3 fun y H4 => ∃ acc, H4 D = some (.lst acc) ∧ acc.length < sizeLine ∧ Pv D (i + 1) (upd H4 D (.lst (acc ++ [y]))) else Pv D (i + 1) H3)
    (hd : ∀ D H, Pv D n H → Q (.ref D) H) : tLc (fun _ H R => R (Itr lo n) H) g tt te vs σ H Q := fun D hD => lc_range (Pv D) (h0 D hD) (hs D) (hd D)
theorem c_list (Pv : Addr → Nat → Hp → Prop) (h0 : ∀ D, H D = none → Pv D 0 (upd H D (.lst []))) (hl : ∀ D i H, Pv D i H → SqL K H a xs)
    (hs : ∀ D i x H, xs[i]? = some x → Pv D i H → g x (wipe σ vs) H fun σ2 H2 => wipe σ2 vs = wipe σ vs ∧ tt σ2 H2 fun b H3 =>
      if b = true then te σ2 H3 fun y H4 => ∃ acc, H4 D = some (.lst acc) ∧ acc.length < sizeLine ∧ Pv D (i + 1) (upd H4 D (.lst (acc ++ [y]))) else Pv D (i + 1) H3)
    (hd : ∀ D H, Pv D xs.length H → Q (.ref D) H) : tLc (fun _ H R => R (Itl K a) H) g tt te vs σ H Q := fun D hD => lc_list (Pv D) (h0 D hD) (fun i H _ p => hl D i H p) (hs D) (hd D)
theorem c_tup (Pv : Addr → Nat → Hp → Prop) (h0 : ∀ D, H D = none → Pv D 0 (upd H D (.lst []))) (hl : ∀ D i H, Pv D i H → SqT K H a xs)
    (hs : ∀ D i x H, xs[i]? = some x → Pv D i H → g x (wipe σ vs) H fun σ2 H2 => wipe σ2 vs = wipe σ vs ∧ tt σ2 H2 fun b H3 =>
      if b = true then te σ2 H3 fun y H4 => ∃ acc, H4 D = some (.lst acc) ∧ acc.length < sizeLine ∧ Pv D (i + 1) (upd H4 D (.lst (acc ++ [y]))) else Pv D (i + 1) H3)
    (hd : ∀ D H, Pv D xs.length H → Q (.ref D) H) : tLc (fun _ H R => R (Itt K a) H) g tt te vs σ H Q := fun D hD => lc_tup (Pv D) (h0 D hD) (fun i H _ p => hl D i H p) (hs D) (hd D)
/-- a while, by what holds of turns left, slots, heap -/
theorem w_by {c : TT} (W : Nat → L2.St → Hp → Prop) (m : Nat) (h0 : W m σ H)
    (hs : ∀ m σ H, W m σ H → c σ H fun b H1 => if b = true then tb { D with nx := fun σ' H' => ∃ m', m' < m ∧ W m' σ' H', ct := fun σ' H' => ∃ m', m' < m ∧ W m' σ' H', bk := D.nx } σ H1 else D.nx σ H1)
    (mono : ∀ σ H (Q Q' : Bool → Hp → Prop), (∀ b H1, Q b H1 → Q' b H1) → c σ H Q → c σ H Q') : tWhile c tb D σ H := by
  refine ⟨W, ⟨m, h0⟩, fun m σ H w => mono _ _ _ _ (fun b H1 q => ?_) (hs m σ H w)⟩
  cases b with
  | true => exact ⟨_, fun σ' H' z => z, q⟩
  | false => exact q
end
theorem ixn {n j : Nat} (h : j < n) : ixN n (j : Int) = some j := by
  unfold ixN
  rw [if_pos (by omega), if_pos (by omega)]
  rfl
theorem sqx {n j : Nat} (h : j < n) : seqIndex? (j : Int) n = some j := (ixN_seq (ixn h)).1
theorem atI_some {xs : List V} {i : Int} (h0 : 0 ≤ i) (h1 : i < xs.length) : ∃ v, atI xs i = some v ∧ v ∈ xs := by
  obtain ⟨j, rfl⟩ : ∃ j : Nat, i = (j : Int) := ⟨i.toNat, by omega⟩
  have hj : j < xs.length := by omega
  exact ⟨xs[j], atI_nat (List.getElem?_eq_getElem hj), List.getElem_mem hj⟩
theorem atI_int {cs : List Int} {i : Int} (h0 : 0 ≤ i) (h1 : i < cs.length) : ∃ z, atI (cs.map V.int) i = some (.int z) ∧ z ∈ cs := by
  obtain ⟨v, h, m⟩ := atI_some (xs := cs.map V.int) h0 (by rw [List.length_map]; exact h1)
  obtain ⟨z, hz, rfl⟩ := List.mem_map.mp m
  exact ⟨z, h, hz⟩
theorem g_setL {p : Addr} {xs : List V} {i : Int} {j : Nat} {v : V} {H : Hp} {Q : Hp → Prop} (h : H p = some (.lst xs)) (e : ixN xs.length i = some j) (q : Q (upd H p (.lst (xs.set j v)))) : rSetL (.ref p) (.int i) v H Q := ⟨p, xs, i, j, rfl, rfl, h, e, q⟩
theorem g_tyL {K : PySem.W.Frag} {H : Hp} {l : Addr} {xs : List V} {P : Prop} (h : H l = some (.lst xs)) (q : P) : tyV K "list" (.ref l) H ∧ P := ⟨.inl ⟨rfl, _, SqL.of h⟩, q⟩
theorem small {n : Nat} (h : n ≤ 1000000) : n < sizeLine := Nat.lt_of_le_of_lt h (by decide)
theorem g_app {H : Hp} {l : Addr} {xs : List V} {y : V} {Q : VK} (h : H l = some (.lst xs)) (hz : xs.length ≤ 1000000) (q : Q .non (upd H l (.lst (xs ++ [y])))) : rAppend (.ref l) [y] H Q := ⟨l, xs, y, rfl, rfl, h, small hz, q⟩
theorem g_popAt {H : Hp} {l : Addr} {xs : List V} {y : V} {i : Int} {j : Nat} {Q : VK} (h : H l = some (.lst xs)) (e : i = (j : Int)) (hj : xs[j]? = some y) (hz : xs.length ≤ 1000000) (q : Q y (upd H l (.lst (xs.eraseIdx j)))) : rPopAt (.ref l) [.int i] H Q := by
  have hl := (List.getElem?_eq_some_iff.mp hj).1
  subst e
  exact ⟨l, xs, _, j, y, rfl, rfl, h, by omega, by omega, sqx hl, hj, q⟩
theorem g_cat {H : Hp} {l b : Addr} {xs ys : List V} {Q : VK} (h : H l = some (.lst xs)) (h' : H b = some (.lst ys)) (hz : xs.length + ys.length ≤ 1000000) (q : ∀ p, H p = none → Q (.ref p) (upd H p (.lst (xs ++ ys)))) : rCat (.ref l) (.ref b) H Q := ⟨l, b, xs, ys, rfl, rfl, h, h', Nat.le_of_lt (small hz), q⟩
theorem of_upd_none {H : Hp} {r q : Addr} {o : HO} (h : upd H r o q = none) : q ≠ r ∧ H q = none := by
  by_cases e : q = r
  · subst e
    rw [upd_same] at h
    cases h
  · rw [upd_ne e] at h
    exact ⟨e, h⟩
theorem same_new {H : Hp} {p : Addr} {o : HO} (h : H p = none) : Same H (upd H p o) := fun b u e => by
  rw [upd_ne (ne_of_none e h)]
  exact e
theorem same_mut {H H1 : Hp} {p : Addr} {o : HO} (s : Same H H1) (h : H p = none) : Same H (upd H1 p o) := fun b u e => by
  rw [upd_ne (ne_of_none e h)]
  exact s b u e
theorem cut_all (xs : List V) {n : Nat} (h : xs.length ≤ n) : cutV xs none (some (n : Int)) = xs := by
  unfold cutV
  rw [HT.sIx_nat, HT.sIx_none, Nat.min_eq_right h, Nat.sub_zero, List.drop_zero]
  exact List.take_length
theorem take_step {α : Type} {xs : List α} {i : Nat} {x : α} (h : xs[i]? = some x) : xs.take (i + 1) = xs.take i ++ [x] := by
  rw [List.take_add_one, h]
  rfl
theorem g_cut {t u : TS} {D : Ends} {σ : L2.St} {H : Hp} (M : L2.St → Hp → Prop) (h : t { D with nx := M } σ H) (k : ∀ σ' H', M σ' H' → u D σ' H') : Evl.tCut t u D σ H := Evl.q_cut h k
theorem w_raw {c : TT} {tb : TS} {D : Ends} {σ : L2.St} {H : Hp} (W : Nat → L2.St → Hp → Prop) (m : Nat) (h0 : W m σ H)
    (hs : ∀ m σ H, W m σ H → c σ H fun b H1 => if b = true then ∃ N : L2.St → Hp → Prop, (∀ σ' H', N σ' H' → ∃ m', m' < m ∧ W m' σ' H') ∧ tb { D with nx := N, ct := N, bk := D.nx } σ H1 else D.nx σ H1) : tWhile c tb D σ H := ⟨W, ⟨m, h0⟩, hs⟩
theorem cut_take (xs : List V) (j : Nat) : cutV xs none (some (j : Int)) = xs.take j := by
  unfold cutV
  rw [HT.sIx_nat, HT.sIx_none, List.drop_zero, Nat.sub_zero]
  by_cases h : j ≤ xs.length
  · rw [Nat.min_eq_left h]
  · rw [Nat.min_eq_right (by omega), List.take_of_length_le (Nat.le_refl _), List.take_of_length_le (by omega)]
theorem cut_drop (xs : List V) (j : Nat) : cutV xs (some (j : Int)) none = xs.drop j := by
  unfold cutV
  rw [HT.sIx_nat, HT.sIx_none]
  by_cases h : j ≤ xs.length
  · rw [Nat.min_eq_left h, List.take_of_length_le (by rw [List.length_drop]; exact Nat.le_refl _)]
  · rw [Nat.min_eq_right (by omega), List.drop_of_length_le (Nat.le_refl _), List.drop_of_length_le (by omega), List.take_nil]
theorem g_repr {K : PySem.W.Frag} {H : Hp} {v : V} {Q : VK} (d : PyData) (h : Dp K H v d) (hs : d.showable = true) (hd : d.depth ≤ 60) (hz : d.shown.length ≤ sizeLine) (q : Q (.str d.shown) H) : rRepr K [v] H Q := ⟨v, d, rfl, h, hs, hd, hz, q⟩
theorem shown_int_len {i : Int} (h : i.natAbs.log2 < 1920) : (PyData.int i).shown.length ≤ 1921 := by
  simp only [PyData.shown]
  exact PyProof.Rows.int_text_len_1921 h
/-- how long a text of data may be, by its numbers and places -/
theorem shown_pair_len {x y : Int} (hx : x.natAbs.log2 < 1920) (hy : y.natAbs.log2 < 1920) : (PyData.tuple [.int x, .int y]).shown.length ≤ 4000 := by
  have h := tupleText_len_le [(PyData.int x).shown, (PyData.int y).shown]
  have h1 := shown_int_len hx
  have h2 := shown_int_len hy
  simp only [List.map_cons, List.map_nil, List.sum_cons, List.sum_nil, List.length_cons, List.length_nil] at h
  have e : (PyData.tuple [.int x, .int y]).shown = tupleText [(PyData.int x).shown, (PyData.int y).shown] := by simp only [PyData.shown, PyData.shownAll]
  rw [e]
  omega
theorem g_reprI {K : PySem.W.Frag} {H : Hp} {i : Int} {Q : VK} (h : i.natAbs.log2 < 1920) (q : Q (.str (PyData.int i).shown) H) : rRepr K [.int i] H Q :=
  g_repr (.int i) (.int i) (by simp only [PyData.showable, h, decide_true]) (by simp only [PyData.depth]; omega) (Nat.le_trans (shown_int_len h) (by decide)) q
theorem g_repr2 {K : PySem.W.Frag} {H : Hp} {a : Addr} {x y : Int} {Q : VK} (ha : H a = some (.tup [.int x, .int y])) (hx : x.natAbs.log2 < 1920) (hy : y.natAbs.log2 < 1920) (q : Q (.str (PyData.tuple [.int x, .int y]).shown) H) : rRepr K [.ref a] H Q :=
  g_repr (.tuple [.int x, .int y]) (.tup (SqT.of ha) (.cons (.int x) (.cons (.int y) .nil))) (by simp only [PyData.showable, PyData.showableAll, hx, hy, decide_true, Bool.and_self]) (by simp [PyData.depth, PyData.depthAll]) (Nat.le_trans (shown_pair_len hx hy) (by decide)) q
theorem ne_same {α : Type} [DecidableEq α] {x y : α} (h : x = y) : (!decide (x = y)) = false := by simp [h]
theorem g_ifNT {A B : Prop} (h : B) : if (!true) = true then A else B := h
theorem g_ifNF {A B : Prop} (h : A) : if (!false) = true then A else B := h
theorem g_ifC {b : Bool} {A B : Prop} (e : b = false) (h : B) : if b = true then A else B := by
  subst e
  exact h
theorem g_ifD {b : Bool} {A B : Prop} (e : b = true) (h : A) : if b = true then A else B := by
  subst e
  exact h
/-- the readings, until a question is met -/
local macro_rules | `(tactic| walk_at "g") => `(tactic| repeat (first
  | with_reducible refine g_seq ?_
  | with_reducible refine g_asg ?_
  | with_reducible refine g_name ?_
  | with_reducible refine g_op ?_
  | with_reducible refine g_cons ?_
  | with_reducible refine g_c ?_
  | ((with_reducible refine' g_var ?hv ?_); (case hv => exact rfl))
  | with_reducible refine g_nil ?_
  | with_reducible refine g_I0 ?_
  | with_reducible refine g_cb ?_
  | with_reducible refine g_call ?_
  | with_reducible refine g_ret ?_
  | with_reducible refine g_retN ?_
  | with_reducible refine g_drop ?_
  | with_reducible refine g_if ?_
  | with_reducible refine g_next ?_
  | with_reducible refine g_un ?_
  | with_reducible refine g_U ?_
  | with_reducible refine g_eqI ?_
  | with_reducible refine g_neI ?_
  | with_reducible refine g_eqS ?_
  | with_reducible refine g_neS ?_
  | with_reducible refine g_tup ?_
  | with_reducible refine g_lst ?_
  | with_reducible refine g_test ?_
  | with_reducible refine g_B ?_
  | with_reducible refine g_and ?_
  | with_reducible refine g_or ?_
  | with_reducible refine g_not ?_
  | with_reducible refine g_ifE ?_
  | with_reducible refine g_andV ?_
  | with_reducible refine g_orV ?_
  | with_reducible refine g_notV ?_
  | with_reducible refine g_chain ?_
  | with_reducible refine g_chainT ?_
  | with_reducible refine g_no ?_
  | with_reducible refine g_part ?_
  | with_reducible refine g_sl ?_
  | with_reducible refine g_bm ?_
  | with_reducible refine g_bm0 ?_
  | with_reducible refine g_par ?_
  | with_reducible refine g_sub ?_
  | with_reducible refine g_gCons ?_
  | with_reducible refine g_gNil ?_
  | ((with_reducible refine' g_ixL ?hv ?he ?_); (case hv => first | assumption | exact upd_same); (case he => first | exact rfl | exact atI_nat (j := 0) rfl | exact atI_nat (j := 1) rfl | exact atI_nat (j := 2) rfl))
  | ((with_reducible refine' g_ixT ?hv ?he ?_); (case hv => first | assumption | exact upd_same); (case he => first | exact rfl | exact atI_nat (j := 0) rfl | exact atI_nat (j := 1) rfl | exact atI_nat (j := 2) rfl))
  | ((with_reducible refine' g_gTup ?hv ?he ?_); (case hv => first | assumption | exact upd_same); (case he => exact rfl))
  | ((with_reducible refine' g_tyL ?hv ?_); (case hv => first | assumption | exact upd_same))
  | with_reducible refine g_for1 ?_
  | with_reducible refine g_for2 ?_
  | with_reducible refine g_forL ?_
  | with_reducible refine g_forT ?_
  | with_reducible refine g_lc1 ?_
  | with_reducible refine g_lc2 ?_
  | with_reducible refine g_lcL ?_
  | with_reducible refine g_lcT ?_
  | with_reducible refine g_yes ?_
  | with_reducible refine iteT ?_
  | with_reducible refine iteF ?_
  | with_reducible refine g_ifNT ?_
  | with_reducible refine g_ifNF ?_
  | ((with_reducible refine' g_ifC ?hc ?_); (case hc => exact rfl))
  | ((with_reducible refine' g_ifD ?hc ?_); (case hc => exact rfl))
  | (with_reducible refine ⟨(show List.length _ ≤ sizeLine from Nat.le_of_ble_eq_true (by with_unfolding_all rfl)), ?_⟩)
  | (with_reducible refine ⟨_, rfl, ?_⟩)
  | (with_reducible refine Or.inl ⟨_, rfl, ?_⟩)
  | ((with_reducible refine' ⟨_, _, rfl, Or.inl (SqL.of ?hv), ?_⟩); (case hv => first | assumption | exact upd_same))
  | ((with_reducible refine' ⟨_, _, rfl, Or.inr (SqT.of ?hv), ?_⟩); (case hv => first | assumption | exact upd_same))
  | ((with_reducible refine' g_I ?hc ?_); (case hc => first | (show (0 : Int) < _; omega) | exact Or.inl ⟨by decide, by decide⟩ | exact Or.inr ⟨by decide, by decide⟩ | exact ⟨by decide, by decide +kernel⟩))
  | (with_reducible refine ⟨_, _, rfl, ?_⟩)))
end DW
/-! DWDeck: the laws' deck, what stays while it is drawn from; data of watches. -/
namespace DW
open PySem PySem.Spec PyProof.Rows L2

/-- the built-in names that a law calls, as the module leaves them -/
structure NoB (mg : Str → Option Value) : Prop where
  len : mg "len" = none
  abs : mg "abs" = none
  int : mg "int" = none
  tuple : mg "tuple" = none
  list : mg "list" = none
  range : mg "range" = none
  repr : mg "repr" = none
  isinstance : mg "isinstance" = none
  bool : mg "bool" = none
  sum : mg "sum" = none
  str : mg "str" = none
  enumerate : mg "enumerate" = none
  min : mg "min" = none
  max : mg "max" = none
  zip : mg "zip" = none
  sorted : mg "sorted" = none
  set : mg "set" = none
  any : mg "any" = none
  all : mg "all" = none
  reversed : mg "reversed" = none
  dict : mg "dict" = none

/-- what the module has of math -/
structure Mth (mg : Str → Option Value) : Prop where
  gcd : mg "gcd" = some (.builtin "math.gcd")
  lcm : mg "lcm" = some (.builtin "math.lcm")

/-! ### the deck -/
/-- where a deck lies: itself, its list of great cells, its list of all cells -/
structure Dk where
  dk : Addr
  d0 : Addr
  d1 : Addr
  no : Addr → Prop
/-- a deck as it stands -/
structure DeckAt (D : Dk) (H : Hp) : Prop where
  ex : ∃ (bs cs : List Int) (c : Int), H D.dk = some (.lst [.ref D.d0, .ref D.d1, .int c]) ∧ H D.d0 = some (.lst (bs.map V.int)) ∧ H D.d1 = some (.lst (cs.map V.int)) ∧ cs ≠ []
  n0 : D.dk ≠ D.d0
  n1 : D.dk ≠ D.d1
  n2 : D.d0 ≠ D.d1
  nx : ∀ b, D.no b → ∃ ys, H b = some (.lst ys)
/-- what stands beside the deck's changing lists -/
def Off (D : Dk) (H : Hp) (b : Addr) (o : HO) : Prop := H b = some o ∧ b ≠ D.dk ∧ b ≠ D.d0 ∧ ¬ D.no b
/-- the deck is drawn from, all else stays -/
structure Gr (D : Dk) (H H' : Hp) : Prop where
  at_ : DeckAt D H'
  keep : ∀ b o, H b = some o → b ≠ D.dk → b ≠ D.d0 → H' b = some o
section
variable {D : Dk} {H H' H1 H2 : Hp} {a b p : Addr} {o : HO} {xs : List V}
theorem Gr.refl (h : DeckAt D H) : Gr D H H := ⟨h, fun _ _ e _ _ => e⟩
theorem Gr.trans (x : Gr D H H1) (y : Gr D H1 H2) : Gr D H H2 := ⟨y.at_, fun b o e n m => y.keep b o (x.keep b o e n m) n m⟩
theorem DeckAt.ne (d : DeckAt D H) (hp : H p = none) : p ≠ D.dk ∧ p ≠ D.d0 ∧ p ≠ D.d1 := by
  obtain ⟨bs, cs, c, h0, h1, h2, _⟩ := d.ex
  exact ⟨(ne_of_none h0 hp).symm, (ne_of_none h1 hp).symm, (ne_of_none h2 hp).symm⟩
theorem DeckAt.isno (d : DeckAt D H) (hp : H p = none) : ¬ D.no p := fun z => by
  obtain ⟨ys, e⟩ := d.nx p z
  rw [hp] at e
  cases e
theorem nx_lst {no : Addr → Prop} (h : ∀ b, no b → ∃ ys, H b = some (.lst ys)) : ∀ b, no b → ∃ ys, L2.upd H p (.lst xs) b = some (.lst ys) := fun b z => by
  by_cases e : b = p
  · subst e
    exact ⟨_, upd_same⟩
  · rw [upd_ne e]
    exact h b z
theorem DeckAt.upd (d : DeckAt D H) (n0 : p ≠ D.dk) (n1 : p ≠ D.d0) (n2 : p ≠ D.d1) (nn : ¬ D.no p) : DeckAt D (upd H p o) := by
  obtain ⟨bs, cs, c, h0, h1, h2, h3⟩ := d.ex
  exact ⟨⟨bs, cs, c, by rw [upd_ne n0.symm]; exact h0, by rw [upd_ne n1.symm]; exact h1, by rw [upd_ne n2.symm]; exact h2, h3⟩, d.n0, d.n1, d.n2, fun b z => by rw [upd_ne (fun e : b = p => nn (by rw [← e]; exact z))]; exact d.nx b z⟩
/-- something new is laid -/
theorem Gr.new (x : Gr D H H1) (hp : H1 p = none) : Gr D H (L2.upd H1 p o) := by
  obtain ⟨n0, n1, n2⟩ := x.at_.ne hp
  exact ⟨x.at_.upd n0 n1 n2 (x.at_.isno hp), fun b u e n m => by rw [upd_ne (ne_of_none (x.keep b u e n m) hp)]; exact x.keep b u e n m⟩
theorem Gr.free (x : Gr D H H') (d : DeckAt D H) (h : H' p = none) : H p = none := by
  cases q : H p with
  | none => rfl
  | some u =>
    obtain ⟨n0, n1, _⟩ := x.at_.ne h
    rw [x.keep p u q n0 n1] at h
    cases h
/-- what is not of the deck, and was not there at first, is changed -/
theorem Gr.mut (x : Gr D H H1) (d : DeckAt D H) (hp : H p = none) : Gr D H (L2.upd H1 p o) := by
  obtain ⟨n0, n1, n2⟩ := d.ne hp
  exact ⟨x.at_.upd n0 n1 n2 (d.isno hp), fun b u e n m => by rw [upd_ne (ne_of_none e hp)]; exact x.keep b u e n m⟩
theorem DeckAt.same (d : DeckAt D H) (s : Same H H') : DeckAt D H' := by
  obtain ⟨bs, cs, c, h0, h1, h2, h3⟩ := d.ex
  exact ⟨⟨bs, cs, c, s _ _ h0, s _ _ h1, s _ _ h2, h3⟩, d.n0, d.n1, d.n2, fun b z => (d.nx b z).imp fun _ e => s _ _ e⟩
theorem Gr.same (g : Gr D H H1) (s : Same H1 H2) : Gr D H H2 := ⟨g.at_.same s, fun b o e n m => s b o (g.keep b o e n m)⟩
theorem DeckAt.tup (d : DeckAt D H) (h : H b = some (.tup xs)) : b ≠ D.dk ∧ b ≠ D.d0 := by
  obtain ⟨bs, cs, c, h0, h1, _⟩ := d.ex
  exact ⟨ne_of h h0 (by intro z; cases z), ne_of h h1 (by intro z; cases z)⟩
theorem Gr.tup (x : Gr D H H') (d : DeckAt D H) (h : H b = some (.tup xs)) : H' b = some (.tup xs) := x.keep _ _ h (d.tup h).1 (d.tup h).2
theorem Off.go (x : Off D H b o) (g : Gr D H H') : Off D H' b o := ⟨g.keep _ _ x.1 x.2.1 x.2.2.1, x.2⟩
theorem Off.tup (d : DeckAt D H) (h : H b = some (.tup xs)) : Off D H b (.tup xs) := ⟨h, (d.tup h).1, (d.tup h).2, fun z => by obtain ⟨ys, e⟩ := d.nx b z; rw [h] at e; cases e⟩
theorem Off.new (d : DeckAt D H) (hp : H p = none) : Off D (upd H p o) p o := ⟨upd_same, (d.ne hp).1, (d.ne hp).2.1, d.isno hp⟩
/-- a thing that is off the deck stays, where another one is laid -/
theorem Off.upd (x : Off D H b o) {u : HO} (hp : b ≠ p) : Off D (L2.upd H p u) b o := ⟨by rw [upd_ne hp]; exact x.1, x.2⟩
end

/-! ### pairs of numbers, lots -/
/-- a pair of numbers at a value -/
def PairAt (H : Hp) (v : V) (p : Int × Int) : Prop := ∃ a, v = .ref a ∧ H a = some (.tup [.int p.1, .int p.2])
/-- pairs at values -/
def PairsAt (H : Hp) (vs : List V) (ps : List (Int × Int)) : Prop := Paired (PairAt H) vs ps
/-- a watch of the document's [A4] -/
def WOk (p : Int × Int) : Prop := 1 ≤ p.1 ∧ p.1 ≤ 1000000000000 ∧ 0 ≤ p.2 ∧ p.2 < p.1
section
variable {D : Dk} {H H' : Hp} {v : V} {p : Int × Int} {vs ws : List V} {ps qs : List (Int × Int)}
/-- tuples stay -/
def TupKeep (H H' : Hp) : Prop := ∀ b xs, H b = some (.tup xs) → H' b = some (.tup xs)
theorem Gr.tk (g : Gr D H H') (d : DeckAt D H) : TupKeep H H' := fun _ _ h => g.tup d h
theorem TupKeep.upd {q : Addr} {o : HO} (h : H q = none) : TupKeep H (L2.upd H q o) := fun b xs e => by rw [upd_ne (ne_of_none e h)]; exact e
theorem TupKeep.lst {q : Addr} {o : HO} {xs : List V} (h : H q = some (.lst xs)) : TupKeep H (L2.upd H q o) := fun b ys e => by
  rw [upd_ne (ne_of e h (by intro z; cases z))]
  exact e
theorem TupKeep.trans {H1 : Hp} (a : TupKeep H H1) (b : TupKeep H1 H') : TupKeep H H' := fun c xs h => b c xs (a c xs h)
theorem PairAt.go (h : PairAt H v p) (k : TupKeep H H') : PairAt H' v p := by
  obtain ⟨a, e, h⟩ := h
  exact ⟨a, e, k _ _ h⟩
theorem paired_imp {α β : Type} {F G : α → β → Prop} (f : ∀ a b, F a b → G a b) : ∀ {l : List α} {m : List β}, Paired F l m → Paired G l m
  | _, _, .nil => .nil
  | _, _, .cons r t => .cons (f _ _ r) (paired_imp f t)
theorem PairsAt.go (h : PairsAt H vs ps) (k : TupKeep H H') : PairsAt H' vs ps := paired_imp (fun _ _ q => PairAt.go q k) h
theorem PairsAt.app (h : PairsAt H vs ps) (h' : PairsAt H ws qs) : PairsAt H (vs ++ ws) (ps ++ qs) := by
  induction h with
  | nil => exact h'
  | cons r _ ih => exact .cons r ih
theorem PairsAt.one (h : PairAt H v p) : PairsAt H [v] [p] := .cons h .nil
theorem PairsAt.len (h : PairsAt H vs ps) : vs.length = ps.length := Paired.length h
theorem PairsAt.get : ∀ {vs : List V} {ps : List (Int × Int)}, PairsAt H vs ps → ∀ {i : Nat} {v : V}, vs[i]? = some v → ∃ p, ps[i]? = some p ∧ PairAt H v p
  | _, _, .nil, _, _, e => by simp at e
  | _, _, .cons r _, 0, _, e => by
    simp at e
    subst e
    exact ⟨_, rfl, r⟩
  | _, _, .cons _ t, i + 1, v, e => by
    obtain ⟨p, h1, h2⟩ := PairsAt.get (i := i) (v := v) t (by simpa using e)
    exact ⟨p, by simpa using h1, h2⟩
theorem PairsAt.take : ∀ {vs : List V} {ps : List (Int × Int)} (n : Nat), PairsAt H vs ps → PairsAt H (vs.take n) (ps.take n)
  | _, _, 0, _ => .nil
  | _, _, _ + 1, .nil => .nil
  | _, _, n + 1, .cons r t => .cons r (PairsAt.take n t)
theorem PairsAt.drop : ∀ {vs : List V} {ps : List (Int × Int)} (n : Nat), PairsAt H vs ps → PairsAt H (vs.drop n) (ps.drop n)
  | _, _, 0, r => r
  | _, _, _ + 1, .nil => .nil
  | _, _, n + 1, .cons _ t => PairsAt.drop n t
/-- a new thing is laid -/
theorem PairsAt.new {q : Addr} {o : HO} (h : PairsAt H vs ps) (n : H q = none) : PairsAt (L2.upd H q o) vs ps := h.go (TupKeep.upd n)
theorem PairsAt.mut {q : Addr} {o : HO} {xs : List V} (h : PairsAt H vs ps) (n : H q = some (.lst xs)) : PairsAt (L2.upd H q o) vs ps := h.go (TupKeep.lst n)
/-- in another order -/
theorem PairsAt.perm {vs ws : List V} (h : vs.Perm ws) : ∀ {ps : List (Int × Int)}, PairsAt H vs ps → ∃ qs, PairsAt H ws qs ∧ ps.Perm qs := by
  induction h with
  | nil => intro ps r; cases r; exact ⟨[], .nil, .nil⟩
  | cons x _ ih =>
    intro ps r
    cases r with
    | cons r t =>
      obtain ⟨qs, h1, h2⟩ := ih t
      exact ⟨_, .cons r h1, h2.cons _⟩
  | swap x y l =>
    intro ps r
    cases r with
    | cons r t =>
      cases t with
      | cons r' t => exact ⟨_, .cons r' (.cons r t), .swap _ _ _⟩
  | trans _ _ ih1 ih2 =>
    intro ps r
    obtain ⟨qs, h1, h2⟩ := ih1 r
    obtain ⟨rs, h3, h4⟩ := ih2 h1
    exact ⟨rs, h3, h2.trans h4⟩
end
theorem same_tk {H H' : Hp} (s : Same H H') : TupKeep H H' := fun b xs e => s b _ e
/-- a lot at an address -/
structure LotAt (H : Hp) (a : Addr) (lot : List (Int × Int)) : Prop where
  ex : ∃ vs, H a = some (.tup vs) ∧ PairsAt H vs lot
theorem LotAt.go {H H' : Hp} {a : Addr} {lot : List (Int × Int)} (h : LotAt H a lot) (k : TupKeep H H') : LotAt H' a lot := by
  obtain ⟨vs, e, r⟩ := h.ex
  exact ⟨vs, k _ _ e, r.go k⟩

theorem lt200 {n : Int} (h0 : 0 ≤ n) (h : n ≤ 1000000000000000000) : n.natAbs < 2 ^ 200 := Nat.lt_of_le_of_lt (show n.natAbs ≤ 1000000000000000000 by omega) (by decide)

theorem perm_erase {α : Type} : ∀ {xs : List α} {j : Nat} (h : j < xs.length), (xs[j] :: xs.eraseIdx j).Perm xs
  | x :: xs, 0, _ => List.Perm.refl _
  | x :: xs, j + 1, h => (List.Perm.swap _ _ _).trans ((perm_erase (xs := xs) (j := j) (Nat.lt_of_succ_lt_succ h)).cons x)

/-! ### tables of lists of numbers -/
theorem Off.step {D : Dk} {H : Hp} {b p : Addr} {o u : HO} (x : Off D H b o) (hp : H p = none) : Off D (L2.upd H p u) b o := x.upd (ne_of_none x.1 hp)
/-- a list of turns from 1 to a bound -/
def IntsL (B : Int) (D : Dk) (H : Hp) (v : V) : Prop := ∃ a ts, v = .ref a ∧ Off D H a (.lst (List.map V.int ts)) ∧ ts ≠ [] ∧ ts.length ≤ 1000 ∧ ∀ t ∈ ts, 1 ≤ t ∧ t ≤ B
def Tbl (B : Int) (D : Dk) (H : Hp) (vs : List V) : Prop := ∀ v ∈ vs, IntsL B D H v
theorem Tbl.nil {B : Int} {D : Dk} {H : Hp} : Tbl B D H [] := fun _ h => nomatch h
theorem IntsL.new {B : Int} {D : Dk} {H : Hp} {v : V} {p : Addr} {o : HO} (h : IntsL B D H v) (hp : H p = none) : IntsL B D (L2.upd H p o) v := by
  obtain ⟨a, ts, e, x, r⟩ := h
  exact ⟨a, ts, e, x.step hp, r⟩
theorem IntsL.go {B : Int} {D : Dk} {H H' : Hp} {v : V} (h : IntsL B D H v) (g : Gr D H H') : IntsL B D H' v := by
  obtain ⟨a, ts, e, x, r⟩ := h
  exact ⟨a, ts, e, x.go g, r⟩
theorem Tbl.new {B : Int} {D : Dk} {H : Hp} {vs : List V} {p : Addr} {o : HO} (h : Tbl B D H vs) (hp : H p = none) : Tbl B D (L2.upd H p o) vs := fun v m => (h v m).new hp
theorem Tbl.add {B : Int} {D : Dk} {H : Hp} {vs : List V} {p : Addr} (h : Tbl B D H vs) (hp : H p = none) (d : DeckAt D H) (ts : List Int) (hts : ts ≠ [] ∧ ts.length ≤ 1000 ∧ ∀ t ∈ ts, 1 ≤ t ∧ t ≤ B) :
    Tbl B D (L2.upd H p (.lst (List.map V.int ts))) (vs ++ [.ref p]) := fun v m => by
  rcases List.mem_append.mp m with m | m
  · exact (h v m).new hp
  · rw [List.mem_singleton.mp m]
    exact ⟨p, ts, rfl, Off.new d hp, hts⟩

/-! ### promises of the laws' helpers -/
def spDraw : Sp := fun vs H Q _ => ∃ (D : Dk) (n : Int), vs = [.ref D.dk, .int n] ∧ DeckAt D H ∧ 0 < n ∧ n.natAbs < 2 ^ 200 ∧ ∀ r H', 0 ≤ r → r < n → Gr D H H' → Q (.int r) H'
/-- a list or tuple beside the deck -/
def SeqOff (D : Dk) (H : Hp) (a : Addr) (xs : List V) : Prop := Off D H a (.lst xs) ∨ Off D H a (.tup xs)
theorem SeqOff.go {D : Dk} {H H' : Hp} {a : Addr} {xs : List V} (x : SeqOff D H a xs) (g : Gr D H H') : SeqOff D H' a xs := x.imp (fun y => y.go g) fun y => y.go g
theorem SeqOff.sq {K : PySem.W.Frag} {D : Dk} {H : Hp} {a : Addr} {xs : List V} (x : SeqOff D H a xs) : SqL K H a xs ∨ SqT K H a xs := x.imp (fun y => SqL.of y.1) fun y => SqT.of y.1
def spOne : Sp := fun vs H Q _ => ∃ (D : Dk) (a : Addr) (xs : List V), vs = [.ref D.dk, .ref a] ∧ DeckAt D H ∧ SeqOff D H a xs ∧ xs ≠ [] ∧ xs.length ≤ 100000 ∧ ∀ v H', v ∈ xs → Gr D H H' → Q v H'
def spMixed : Sp := fun vs H Q _ => ∃ (D : Dk) (a : Addr) (xs : List V), vs = [.ref D.dk, .ref a] ∧ DeckAt D H ∧ SeqOff D H a xs ∧ xs.length ≤ 100000 ∧
  ∀ p ys H', xs.Perm ys → H p = none → Off D H' p (.lst ys) → Gr D H H' → Q (.ref p) H'
def spWatch : Sp := fun vs H Q _ => ∃ (D : Dk) (a : Addr) (ts : List Int), vs = [.ref D.dk, .ref a] ∧ DeckAt D H ∧ SeqOff D H a (ts.map V.int) ∧ ts ≠ [] ∧ ts.length ≤ 100000 ∧ (∀ t ∈ ts, 0 < t ∧ t.natAbs < 2 ^ 200) ∧
  ∀ p t f H', t ∈ ts → 0 ≤ f → f < t → H' p = some (.tup [.int t, .int f]) → Gr D H H' → Q (.ref p) H'
/-- a helper that makes a lot of at most so many watches: ok, what is known of it -/
def spLot (ok : List (Int × Int) → Prop) : Sp := fun vs H Q _ => ∃ (D : Dk) (n : Int), vs = [.ref D.dk, .int n] ∧ DeckAt D H ∧ 1 ≤ n ∧ n ≤ 10 ∧
  ∀ a lot H', LotAt H' a lot → (lot.length : Int) ≤ n → (∀ p ∈ lot, WOk p) → ok lot → Gr D H H' → Q (.ref a) H'
def spDeck (K : PySem.W.Frag) : Sp := fun vs H Q _ => ∃ (a : Addr) (ns : List Int), vs = [.ref a] ∧ SqL K H a (ns.map V.int) ∧ ns.length ≤ 63 ∧
  ∀ D H', DeckAt D H' → Same H H' → H D.dk = none → H D.d0 = none → H D.d1 = none → Q (.ref D.dk) H'

/-! ### lists of numbers that are empty or not -/
theorem dpAll_ints {K : PySem.W.Frag} {H : Hp} : ∀ ns : List Int, DpAll K H (ns.map V.int) (ns.map PyData.int)
  | [] => .nil
  | n :: ns => .cons (.int n) (dpAll_ints ns)
theorem canLay_ints : ∀ ns : List Int, PyData.canLayAll0 (ns.map PyData.int) = true
  | [] => by simp only [List.map_nil, PyData.canLayAll0]
  | n :: ns => by simp only [List.map_cons, PyData.canLayAll0, PyData.canLay0, canLay_ints ns, Bool.and_self]
theorem depth_ints : ∀ ns : List Int, PyData.depthAll (ns.map PyData.int) ≤ 1
  | [] => by simp [PyData.depthAll]
  | n :: ns => by
    have := depth_ints ns
    simp only [List.map_cons, PyData.depthAll, PyData.depth]
    omega
theorem shaped_ints (ns : List Int) : SeqAt.shaped (.list (ns.map PyData.int)) = true := by
  have := depth_ints ns
  have e : PyData.depth (.list (ns.map PyData.int)) ≤ 64 := by
    simp only [PyData.depth]
    omega
  simp only [SeqAt.shaped, PyData.canLay0, canLay_ints, Bool.true_and]
  exact decide_eq_true e
/-- xs != [], xs of numbers -/
theorem g_neNil {K : PySem.W.Frag} {H : Hp} {a p : Addr} {ns : List Int} {Q : VK} (h : H a = some (.lst (ns.map V.int))) (hp : H p = some (.lst [])) (q : Q (.bl (!ns.isEmpty)) H) : rNeD K (.ref a) (.ref p) H Q := by
  refine ⟨.list (ns.map PyData.int), .list [], .lst (SqL.of h) (dpAll_ints ns), .lst (SqL.of hp) .nil, shaped_ints ns, by decide, ?_⟩
  have e : PyData.eqv (.list (ns.map PyData.int)) (.list []) = ns.isEmpty := by
    cases ns <;> simp [PyData.eqv, PyData.eqvAll]
  rw [e]
  exact q
theorem g_eqNil {K : PySem.W.Frag} {H : Hp} {a p : Addr} {ns : List Int} {Q : VK} (h : H a = some (.lst (ns.map V.int))) (hp : H p = some (.lst [])) (q : Q (.bl ns.isEmpty) H) : rEqD K (.ref a) (.ref p) H Q := by
  refine ⟨.list (ns.map PyData.int), .list [], .lst (SqL.of h) (dpAll_ints ns), .lst (SqL.of hp) .nil, shaped_ints ns, by decide, ?_⟩
  have e : PyData.eqv (.list (ns.map PyData.int)) (.list []) = ns.isEmpty := by
    cases ns <;> simp [PyData.eqv, PyData.eqvAll]
  rw [e]
  exact q
end DW
/-! DWMath: the least number that all turns divide. -/
namespace DW
/-- the least number that all turns divide -/
def lcmN (ts : List Nat) : Nat := ts.foldl Nat.lcm 1
theorem foldl_lcm_dvd : ∀ (ts : List Nat) (a : Nat), a ∣ ts.foldl Nat.lcm a ∧ ∀ t ∈ ts, t ∣ ts.foldl Nat.lcm a
  | [], a => ⟨Nat.dvd_refl a, fun _ h => nomatch h⟩
  | t :: ts, a => by
    have ih := foldl_lcm_dvd ts (Nat.lcm a t)
    refine ⟨Nat.dvd_trans (Nat.dvd_lcm_left a t) ih.1, fun x hx => ?_⟩
    rcases List.mem_cons.mp hx with rfl | hx
    · exact Nat.dvd_trans (Nat.dvd_lcm_right a x) ih.1
    · exact ih.2 x hx
theorem foldl_lcm_least : ∀ (ts : List Nat) (a n : Nat), a ∣ n → (∀ t ∈ ts, t ∣ n) → ts.foldl Nat.lcm a ∣ n
  | [], a, n, ha, _ => ha
  | t :: ts, a, n, ha, ht => foldl_lcm_least ts (Nat.lcm a t) n (Nat.lcm_dvd ha (ht t (List.mem_cons_self ..))) fun x hx => ht x (List.mem_cons_of_mem _ hx)
theorem foldl_lcm_pos : ∀ (ts : List Nat) (a : Nat), 0 < a → (∀ t ∈ ts, 0 < t) → 0 < ts.foldl Nat.lcm a
  | [], a, ha, _ => ha
  | t :: ts, a, ha, ht => foldl_lcm_pos ts _ (Nat.lcm_pos ha (ht t (List.mem_cons_self ..))) fun x hx => ht x (List.mem_cons_of_mem _ hx)
theorem lcm_le_mul (a b : Nat) : Nat.lcm a b ≤ a * b := by
  unfold Nat.lcm
  exact Nat.div_le_self _ _
theorem foldl_lcm_le : ∀ (ts : List Nat) (a B : Nat), (∀ t ∈ ts, t ≤ B) → ts.foldl Nat.lcm a ≤ a * B ^ ts.length
  | [], a, B, _ => by simp
  | t :: ts, a, B, ht => by
    have ih := foldl_lcm_le ts (Nat.lcm a t) B fun x hx => ht x (List.mem_cons_of_mem _ hx)
    have h1 : Nat.lcm a t ≤ a * B := Nat.le_trans (lcm_le_mul a t) (Nat.mul_le_mul_left _ (ht t (List.mem_cons_self ..)))
    have h2 := Nat.mul_le_mul_right (B ^ ts.length) h1
    rw [List.foldl_cons, List.length_cons, Nat.pow_succ]
    calc _ ≤ _ := ih
      _ ≤ _ := h2
      _ = _ := by rw [Nat.mul_assoc, Nat.mul_comm B]
theorem div_gcd_mul (a b : Nat) : a / Nat.gcd a b * b = Nat.lcm a b := by
  unfold Nat.lcm
  exact (Nat.div_mul_right_comm (Nat.gcd_dvd_left a b) b).symm ▸ rfl
/-- no part of the round does -/
theorem lcm_part {ts : List Nat} (h0 : ∀ t ∈ ts, 0 < t) {p : Nat} (hp : 2 ≤ p) (hd : p ∣ lcmN ts) (h : ∀ t ∈ ts, t ∣ lcmN ts / p) : False := by
  have pos : 0 < lcmN ts := foldl_lcm_pos ts 1 (by decide) h0
  have d : lcmN ts ∣ lcmN ts / p := foldl_lcm_least ts 1 _ (Nat.one_dvd _) h
  obtain ⟨q, hq⟩ := hd
  have hq0 : 0 < q := by
    rcases Nat.eq_zero_or_pos q with rfl | h
    · rw [Nat.mul_zero] at hq
      omega
    · exact h
  have e : lcmN ts / p = q := by
    rw [hq]
    exact Nat.mul_div_cancel_left q (by omega)
  rw [e] at d
  have le := Nat.le_of_dvd hq0 d
  rw [hq] at le
  have : 2 * q ≤ p * q := Nat.mul_le_mul_right q hp
  omega
/-- .. of a lot -/
def roundZ (lot : List (Int × Int)) : Int := ((lcmN (lot.map fun p => p.1.toNat) : Nat) : Int)
theorem lcm_bits {ts : List Nat} (hl : ts.length ≤ 10) (h : ∀ t ∈ ts, t ≤ 1000000000000) : lcmN ts < 2 ^ 400 := by
  have h1 := foldl_lcm_le ts 1 1000000000000 h
  have h2 : (1000000000000 : Nat) ^ ts.length ≤ 1000000000000 ^ 10 := Nat.pow_le_pow_right (by decide) hl
  have h3 : 1 * 1000000000000 ^ ts.length ≤ 1000000000000 ^ 10 := by omega
  exact Nat.lt_of_le_of_lt (Nat.le_trans h1 h3) (by decide)
theorem lcm_take {ts : List Nat} {i t : Nat} (h : ts[i]? = some t) : lcmN (ts.take (i + 1)) = Nat.lcm (lcmN (ts.take i)) t := by
  unfold lcmN
  rw [List.take_add_one, h, List.foldl_append]
  rfl
end DW
/-! DWCrt: days that leave this and that; when some watches have a day in common. -/
namespace DW
theorem dist_dvd {a b c : Nat} (ha : 0 < a) (hb : 0 < b) : Nat.gcd (Nat.lcm a b) c ∣ Nat.lcm (Nat.gcd a c) (Nat.gcd b c) := by
  have key : ∀ N : Nat, N ∣ Nat.lcm a b → 0 < N → N ∣ Nat.lcm (Nat.gcd N a) (Nat.gcd N b) := by
    intro N hN hp
    have hg : Nat.gcd (Nat.gcd N a) (Nat.gcd N b) = Nat.gcd N (Nat.gcd a b) := by
      rw [Nat.gcd_assoc, ← Nat.gcd_assoc a N b, Nat.gcd_comm a N, Nat.gcd_assoc N a b, ← Nat.gcd_assoc, Nat.gcd_self]
    have hG : 0 < Nat.gcd N (Nat.gcd a b) := Nat.gcd_pos_of_pos_left _ hp
    have e1 : Nat.gcd N a * Nat.gcd N b = Nat.lcm (Nat.gcd N a) (Nat.gcd N b) * Nat.gcd N (Nat.gcd a b) := by
      rw [← hg, Nat.mul_comm (Nat.lcm _ _)]
      exact (Nat.gcd_mul_lcm _ _).symm
    have d : N * Nat.gcd N (Nat.gcd a b) ∣ Nat.gcd N a * Nat.gcd N b := by
      rw [← Nat.gcd_mul_right]
      refine Nat.dvd_gcd ?_ ?_
      · rw [show N * Nat.gcd N b = Nat.gcd (N * N) (N * b) from (Nat.gcd_mul_left ..).symm]
        refine Nat.dvd_gcd ?_ ?_
        · exact Nat.mul_dvd_mul_left _ (Nat.gcd_dvd_left _ _)
        · exact Nat.mul_dvd_mul_left _ (Nat.dvd_trans (Nat.gcd_dvd_right _ _) (Nat.gcd_dvd_right _ _))
      · rw [show a * Nat.gcd N b = Nat.gcd (a * N) (a * b) from (Nat.gcd_mul_left ..).symm]
        refine Nat.dvd_gcd ?_ ?_
        · rw [Nat.mul_comm a N]
          exact Nat.mul_dvd_mul_left _ (Nat.dvd_trans (Nat.gcd_dvd_right _ _) (Nat.gcd_dvd_left _ _))
        · rw [show a * b = Nat.lcm a b * Nat.gcd a b by rw [Nat.mul_comm (Nat.lcm _ _)]; exact (Nat.gcd_mul_lcm a b).symm]
          exact Nat.mul_dvd_mul hN (Nat.gcd_dvd_right _ _)
    rw [e1] at d
    exact Nat.dvd_of_mul_dvd_mul_right hG d
  have hl : 0 < Nat.lcm a b := Nat.lcm_pos ha hb
  have hN : 0 < Nat.gcd (Nat.lcm a b) c := Nat.gcd_pos_of_pos_left _ hl
  have k := key (Nat.gcd (Nat.lcm a b) c) (Nat.gcd_dvd_left _ _) hN
  refine Nat.dvd_trans k (Nat.lcm_dvd ?_ ?_)
  · refine Nat.dvd_trans (Nat.dvd_gcd (Nat.gcd_dvd_right _ _) ?_) (Nat.dvd_lcm_left _ _)
    exact Nat.dvd_trans (Nat.gcd_dvd_left _ _) (Nat.gcd_dvd_right _ _)
  · refine Nat.dvd_trans (Nat.dvd_gcd (Nat.gcd_dvd_right _ _) ?_) (Nat.dvd_lcm_right _ _)
    exact Nat.dvd_trans (Nat.gcd_dvd_left _ _) (Nat.gcd_dvd_right _ _)
theorem lcmN_snoc (ts : List Nat) (t : Nat) : lcmN (ts ++ [t]) = Nat.lcm (lcmN ts) t := by
  unfold lcmN
  rw [List.foldl_append]
  rfl
theorem gcd_lcmN {c X : Nat} : ∀ (ts us : List Nat), (∀ t ∈ ts ++ us, 0 < t) → Nat.gcd (lcmN ts) c ∣ X → (∀ t ∈ us, Nat.gcd t c ∣ X) → Nat.gcd (lcmN (ts ++ us)) c ∣ X
  | ts, [], _, h, _ => by rw [List.append_nil]; exact h
  | ts, t :: us, h0, h, hu => by
    have e : ts ++ t :: us = (ts ++ [t]) ++ us := by simp
    rw [e] at h0 ⊢
    refine gcd_lcmN (ts ++ [t]) us h0 ?_ fun x hx => hu x (List.mem_cons_of_mem _ hx)
    rw [lcmN_snoc]
    have p1 : 0 < lcmN ts := foldl_lcm_pos ts 1 (by decide) fun x hx => h0 x (by simp [hx])
    have p2 : 0 < t := h0 t (by simp)
    exact Nat.dvd_trans (dist_dvd p1 p2) (Nat.lcm_dvd h (hu t List.mem_cons_self))
theorem gcd_lcm_all {c X : Nat} {us : List Nat} (h0 : ∀ t ∈ us, 0 < t) (hu : ∀ t ∈ us, Nat.gcd t c ∣ X) : Nat.gcd (lcmN us) c ∣ X :=
  gcd_lcmN [] us h0 (by show Nat.gcd 1 c ∣ X; rw [Nat.gcd_one_left]; exact Nat.one_dvd _) hu

/-! ### inverses -/
theorem le_mul_pos {a b : Int} (ha : 1 ≤ a) (hb : 0 ≤ b) : b ≤ a * b := by
  have := Int.mul_le_mul_of_nonneg_right ha hb
  omega
theorem inv_bound {x y u v m : Int} (hx : 1 ≤ x) (hy : 0 ≤ y) (huv : u * v ≤ 0) (hm : 0 < m) (hd : x * v - y * u = m ∨ x * v - y * u = -m) : -m ≤ v ∧ v ≤ m := by
  by_cases h0 : 0 ≤ v
  · by_cases h1 : v = 0
    · omega
    · have hu : u ≤ 0 := by
        by_cases h : u ≤ 0
        · exact h
        · exfalso
          have : 0 < u * v := Int.mul_pos (by omega) (by omega)
          omega
      have h2 : y * u ≤ 0 := Int.mul_nonpos_of_nonneg_of_nonpos hy hu
      have h3 := le_mul_pos hx h0
      omega
  · have hu : 0 ≤ u := by
      by_cases h : 0 ≤ u
      · exact h
      · exfalso
        have : 0 < u * v := Int.mul_pos_of_neg_of_neg (by omega) (by omega)
        omega
    have h2 : 0 ≤ y * u := Int.mul_nonneg hy hu
    have h3 := le_mul_pos (b := -v) hx (by omega)
    rw [Int.mul_neg] at h3
    omega
theorem gcd_mod (a m : Int) : Nat.gcd m.natAbs (a % m).natAbs = Nat.gcd a.natAbs m.natAbs := by
  have : Int.gcd m (a % m) = Int.gcd a m := by
    rw [Int.emod_def, Int.gcd_comm a m]
    simp
  exact this
/-- a step of Euclid's -/
structure InvSt (n m x y u v : Int) : Prop where
  hx : 1 ≤ x
  hy : 0 ≤ y
  ex : m ∣ x - u * n
  ey : m ∣ y - v * n
  g : Nat.gcd x.natAbs y.natAbs = 1
  d : x * v - y * u = m ∨ x * v - y * u = -m
  s : u * v ≤ 0
  bu : -m ≤ u ∧ u ≤ m
  bv : -m ≤ v ∧ v ≤ m
  lx : x ≤ m
  ly : y ≤ m
theorem InvSt.start {n m : Int} (hm : 0 < m) (hg : Nat.gcd n.natAbs m.natAbs = 1) : InvSt n m m (n % m) 0 1 := by
  have h1 := Int.emod_nonneg n (show m ≠ 0 by omega)
  have h2 := Int.emod_lt_of_pos n hm
  refine ⟨by omega, h1, by simp, ?_, ?_, .inl (by simp), by simp, by omega, by omega, by omega, by omega⟩
  · rw [Int.one_mul]
    have := @Int.dvd_self_sub_emod n m
    have e : n % m - n = -(n - n % m) := by omega
    rw [e]
    exact Int.dvd_neg.mpr this
  · rw [gcd_mod]
    exact hg
theorem InvSt.next {n m x y u v : Int} (h : InvSt n m x y u v) (hm : 0 < m) (hy : 0 < y) : InvSt n m y (x - x / y * y) v (u - x / y * v) := by
  have e : x - x / y * y = x % y := by
    have := Int.emod_add_ediv_mul x y
    omega
  have w0 : 0 ≤ x / y := Int.ediv_nonneg (by have := h.hx; omega) (by omega)
  have h1 := Int.emod_nonneg x (show y ≠ 0 by omega)
  have h2 := Int.emod_lt_of_pos x hy
  have dd : y * (u - x / y * v) - (x - x / y * y) * v = m ∨ y * (u - x / y * v) - (x - x / y * y) * v = -m := by
    have e2 : y * (u - x / y * v) - (x - x / y * y) * v = -(x * v - y * u) := by
      rw [Int.mul_sub, Int.sub_mul]
      have a1 : y * (x / y * v) = x / y * y * v := by rw [← Int.mul_assoc, Int.mul_comm y]
      rw [a1]
      omega
    rw [e2]
    rcases h.d with h | h <;> omega
  have ss : v * (u - x / y * v) ≤ 0 := by
    rw [Int.mul_sub]
    have a1 : v * (x / y * v) = x / y * (v * v) := by rw [Int.mul_left_comm]
    have a2 : 0 ≤ v * v := by
      by_cases hv : 0 ≤ v
      · exact Int.mul_nonneg hv hv
      · exact Int.le_of_lt (Int.mul_pos_of_neg_of_neg (by omega) (by omega))
    have a3 := Int.mul_nonneg w0 a2
    have a4 := h.s
    rw [Int.mul_comm u v] at a4
    omega
  have hl := h.ly
  refine ⟨by omega, by omega, h.ey, ?_, ?_, dd, ss, h.bv, inv_bound (by omega) (by omega) ss hm dd, hl, by omega⟩
  · have a1 : x - x / y * y - (u - x / y * v) * n = (x - u * n) - x / y * (y - v * n) := by
      rw [Int.sub_mul, Int.mul_sub, Int.mul_assoc]
      omega
    rw [a1]
    exact Int.dvd_sub h.ex (Int.dvd_trans h.ey (Int.dvd_mul_left _ _))
  · rw [e, gcd_mod]
    exact h.g
theorem InvSt.last {n m x u v : Int} (h : InvSt n m x 0 u v) (hm : 0 < m) : 0 ≤ u % m ∧ u % m < m ∧ (n * (u % m) - 1) % m = 0 := by
  refine ⟨Int.emod_nonneg _ (by omega), Int.emod_lt_of_pos _ hm, ?_⟩
  have g := h.g
  have hx := h.hx
  have e1 : x = 1 := by
    rw [show (0 : Int).natAbs = 0 from rfl, Nat.gcd_zero_right] at g
    omega
  have d := h.ex
  rw [e1] at d
  refine Int.emod_eq_zero_of_dvd ?_
  have a := @Int.dvd_self_sub_emod u m
  have e2 : n * (u % m) - 1 = -(1 - u * n) - n * (u - u % m) := by
    rw [Int.mul_sub, Int.mul_comm u n]
    omega
  rw [e2]
  exact Int.dvd_sub (Int.dvd_neg.mpr d) (Int.dvd_trans a (Int.dvd_mul_left _ _))
/-! ### what two have in common -/
/-- the common divisor of two turns -/
def gcdZ (a b : Int) : Int := ((Nat.gcd a.natAbs b.natAbs : Nat) : Int)
theorem gcdZ_pos {a b : Int} (h : 0 < b) : 0 < gcdZ a b := by
  have := Nat.gcd_pos_of_pos_right a.natAbs (show 0 < b.natAbs by omega)
  unfold gcdZ
  omega
theorem gcdZ_left (a b : Int) : gcdZ a b ∣ a := by
  unfold gcdZ
  exact Int.ofNat_dvd_left.mpr (Nat.gcd_dvd_left _ _)
theorem gcdZ_right (a b : Int) : gcdZ a b ∣ b := by
  unfold gcdZ
  exact Int.ofNat_dvd_left.mpr (Nat.gcd_dvd_right _ _)
theorem gcdZ_le {a b : Int} (h : 0 < b) : gcdZ a b ≤ b := Int.le_of_dvd h (gcdZ_right a b)
theorem gcdZ_co {a b : Int} (h : 0 < b) : Nat.gcd (a / gcdZ a b).natAbs (b / gcdZ a b).natAbs = 1 := by
  have e : ∀ z : Int, gcdZ a b ∣ z → (z / gcdZ a b).natAbs = z.natAbs / Nat.gcd a.natAbs b.natAbs := by
    intro z hz
    obtain ⟨q, rfl⟩ := hz
    have hp := gcdZ_pos (a := a) h
    rw [Int.mul_ediv_cancel_left _ (by omega), Int.natAbs_mul]
    have : (gcdZ a b).natAbs = Nat.gcd a.natAbs b.natAbs := by unfold gcdZ; rw [Int.natAbs_natCast]
    rw [this]
    exact (Nat.mul_div_cancel_left _ (Nat.gcd_pos_of_pos_right _ (by omega))).symm
  rw [e a (gcdZ_left a b), e b (gcdZ_right a b)]
  exact Nat.gcd_div_gcd_div_gcd_of_pos_right (by omega)
/-- x solves: a * x and w leave the same when divided by m -/
theorem solve_ok {a w m r : Int} (hm : 0 < m) (hw : w % gcdZ a m = 0) (hr : (a / gcdZ a m * r - 1) % (m / gcdZ a m) = 0) :
    (a * (w / gcdZ a m * r % (m / gcdZ a m)) - w) % m = 0 := by
  have hg := gcdZ_pos (a := a) hm
  obtain ⟨a', ea⟩ := gcdZ_left a m
  obtain ⟨m', em⟩ := gcdZ_right a m
  obtain ⟨w', ew⟩ := Int.dvd_of_emod_eq_zero hw
  generalize gcdZ a m = g at *
  have q1 : a / g = a' := by rw [ea]; exact Int.mul_ediv_cancel_left _ (by omega)
  have q2 : m / g = m' := by rw [em]; exact Int.mul_ediv_cancel_left _ (by omega)
  have q3 : w / g = w' := by rw [ew]; exact Int.mul_ediv_cancel_left _ (by omega)
  rw [q1, q2] at hr
  rw [q2, q3]
  have d1 : m' ∣ a' * r - 1 := Int.dvd_of_emod_eq_zero hr
  have d2 : m' ∣ w' * r - w' * r % m' := Int.dvd_self_sub_emod
  have d3 : m' ∣ a' * (w' * r % m') - w' := by
    have e : a' * (w' * r % m') - w' = w' * (a' * r - 1) - a' * (w' * r - w' * r % m') := by
      rw [Int.mul_sub, Int.mul_sub]
      have : a' * (w' * r) = w' * (a' * r) := Int.mul_left_comm ..
      omega
    rw [e]
    exact Int.dvd_sub (Int.dvd_trans d1 (Int.dvd_mul_left _ _)) (Int.dvd_trans d2 (Int.dvd_mul_left _ _))
  refine Int.emod_eq_zero_of_dvd ?_
  generalize w' * r % m' = x at d3
  have e2 : a * x - w = g * (a' * x - w') := by
    rw [ea, ew, Int.mul_sub, Int.mul_assoc]
  rw [e2, em]
  exact Int.mul_dvd_mul_left g d3
/-- two watches meet -/
def Meets2 (a b : Int × Int) : Prop := (b.2 - a.2) % gcdZ a.1 b.1 = 0
instance (a b : Int × Int) : Decidable (Meets2 a b) := by unfold Meets2; infer_instance
/-- the days that both hold -/
structure JoinOf (a b r : Int × Int) : Prop where
  t : r.1 = ((Nat.lcm a.1.natAbs b.1.natAbs : Nat) : Int)
  lo : 0 ≤ r.2
  hi : r.2 < r.1
  ha : (r.2 - a.2) % a.1 = 0
  hb : (r.2 - b.2) % b.1 = 0
theorem lcm_as {t u : Int} (ht : 0 < t) (hu : 0 < u) : t * (u / gcdZ t u) = ((Nat.lcm t.natAbs u.natAbs : Nat) : Int) := by
  obtain ⟨m, rfl⟩ : ∃ m : Nat, t = (m : Int) := ⟨t.toNat, by omega⟩
  obtain ⟨n, rfl⟩ : ∃ n : Nat, u = (n : Int) := ⟨u.toNat, by omega⟩
  unfold gcdZ Nat.lcm
  simp only [Int.natAbs_natCast]
  rw [← Int.natCast_ediv, ← Int.natCast_mul, Nat.mul_div_assoc _ (Nat.gcd_dvd_right m n)]
theorem join_ok {t f u e x : Int} (ht : 0 < t) (hu : 0 < u) (h0 : 0 ≤ f) (h1 : f < t) (hx0 : 0 ≤ x) (hx1 : x < u / gcdZ t u) (hx : (t * x - (e - f)) % u = 0) :
    JoinOf (t, f) (u, e) (t * (u / gcdZ t u), f + t * x) := by
  refine ⟨lcm_as ht hu, ?_, ?_, ?_, ?_⟩
  · show 0 ≤ f + t * x
    have := Int.mul_nonneg (show 0 ≤ t by omega) hx0
    omega
  · show f + t * x < t * (u / gcdZ t u)
    have a1 : t * (x + 1) ≤ t * (u / gcdZ t u) := Int.mul_le_mul_of_nonneg_left (by omega) (by omega)
    rw [Int.mul_add, Int.mul_one] at a1
    omega
  · show (f + t * x - f) % t = 0
    rw [show f + t * x - f = t * x by omega]
    exact Int.mul_emod_right ..
  · show (f + t * x - e) % u = 0
    rw [show f + t * x - e = t * x - (e - f) by omega]
    exact hx
theorem JoinOf.meets {a b r : Int × Int} (h : JoinOf a b r) : Meets2 a b := by
  unfold Meets2
  have d1 := Int.dvd_trans (gcdZ_left a.1 b.1) (Int.dvd_of_emod_eq_zero h.ha)
  have d2 := Int.dvd_trans (gcdZ_right a.1 b.1) (Int.dvd_of_emod_eq_zero h.hb)
  refine Int.emod_eq_zero_of_dvd ?_
  have e : b.2 - a.2 = (r.2 - a.2) - (r.2 - b.2) := by omega
  rw [e]
  exact Int.dvd_sub d1 d2
theorem lcm_dvd_int {a b : Int} {x : Int} (h1 : a ∣ x) (h2 : b ∣ x) : ((Nat.lcm a.natAbs b.natAbs : Nat) : Int) ∣ x :=
  Int.ofNat_dvd_left.mpr (Nat.lcm_dvd (Int.natAbs_dvd_natAbs.mpr h1) (Int.natAbs_dvd_natAbs.mpr h2))
theorem JoinOf.uniq {a b r s : Int × Int} (h : JoinOf a b r) (k : JoinOf a b s) : r = s := by
  have e1 : r.1 = s.1 := h.t.trans k.t.symm
  have d1 : a.1 ∣ r.2 - s.2 := by
    have := Int.dvd_sub (Int.dvd_of_emod_eq_zero h.ha) (Int.dvd_of_emod_eq_zero k.ha)
    rw [show r.2 - a.2 - (s.2 - a.2) = r.2 - s.2 by omega] at this
    exact this
  have d2 : b.1 ∣ r.2 - s.2 := by
    have := Int.dvd_sub (Int.dvd_of_emod_eq_zero h.hb) (Int.dvd_of_emod_eq_zero k.hb)
    rw [show r.2 - b.2 - (s.2 - b.2) = r.2 - s.2 by omega] at this
    exact this
  have d := lcm_dvd_int d1 d2
  rw [← h.t] at d
  have l1 := h.lo
  have l2 := h.hi
  have l3 := k.lo
  have l4 := k.hi
  have e2 : r.2 - s.2 = 0 := by
    have := Int.emod_eq_zero_of_dvd d
    obtain ⟨q, hq⟩ := d
    by_cases h0 : q = 0
    · rw [hq, h0, Int.mul_zero]
    · exfalso
      have hr : 0 < r.1 := by omega
      rcases Int.lt_or_gt_of_ne h0 with h | h
      · have : r.1 * q ≤ r.1 * (-1) := Int.mul_le_mul_of_nonneg_left (by omega) (by omega)
        omega
      · have : r.1 * 1 ≤ r.1 * q := Int.mul_le_mul_of_nonneg_left (by omega) (by omega)
        omega
  cases r
  cases s
  simp only at e1 e2
  rw [e1]
  congr 1
  omega
/-! ### what some have in common -/
/-- the days that all of these hold -/
structure JoinL (l : List (Int × Int)) (r : Int × Int) : Prop where
  t : r.1 = roundZ l
  lo : 0 ≤ r.2
  hi : r.2 < r.1
  h : ∀ q ∈ l, (r.2 - q.2) % q.1 = 0
/-- each two of these meet -/
def PM (l : List (Int × Int)) : Prop := ∀ p ∈ l, ∀ q ∈ l, (p.2 - q.2) % gcdZ p.1 q.1 = 0
theorem JoinL.nil : JoinL [] (1, 0) := ⟨rfl, by decide, by decide, fun _ h => nomatch h⟩
theorem roundZ_snoc {l : List (Int × Int)} {c : Int × Int} : roundZ (l ++ [c]) = ((Nat.lcm (roundZ l).natAbs c.1.toNat : Nat) : Int) := by
  unfold roundZ
  rw [List.map_append, List.map_cons, List.map_nil, lcmN_snoc, Int.natAbs_natCast]
theorem dvd_roundZ {l : List (Int × Int)} {q : Int × Int} (hq : q ∈ l) (h0 : 0 < q.1) : q.1 ∣ roundZ l := by
  unfold roundZ
  have := (foldl_lcm_dvd (l.map fun p => p.1.toNat) 1).2 q.1.toNat (List.mem_map_of_mem (f := fun p : Int × Int => p.1.toNat) hq)
  have h2 := Int.natCast_dvd_natCast.mpr this
  rw [show ((q.1.toNat : Nat) : Int) = q.1 by omega] at h2
  exact h2
theorem JoinL.step {l : List (Int × Int)} {c r s : Int × Int} (h : JoinL l r) (h0 : ∀ q ∈ l, 0 < q.1) (hc : 0 < c.1) (k : JoinOf r c s) : JoinL (l ++ [c]) s := by
  refine ⟨?_, k.lo, k.hi, fun q hq => ?_⟩
  · rw [k.t, h.t, roundZ_snoc, show c.1.natAbs = c.1.toNat by omega]
  · rcases List.mem_append.mp hq with hq | hq
    · have d1 := dvd_roundZ hq (h0 q hq)
      rw [← h.t] at d1
      have d2 := Int.dvd_trans d1 (Int.dvd_of_emod_eq_zero k.ha)
      have d3 := Int.dvd_add d2 (Int.dvd_of_emod_eq_zero (h.h q hq))
      rw [show s.2 - r.2 + (r.2 - q.2) = s.2 - q.2 by omega] at d3
      exact Int.emod_eq_zero_of_dvd d3
    · rw [List.mem_singleton.mp hq]
      exact k.hb
theorem JoinL.helly {l : List (Int × Int)} {c r : Int × Int} (h : JoinL l r) (h0 : ∀ q ∈ l, 0 < q.1) (hc : 0 < c.1) (k : ∀ q ∈ l, (c.2 - q.2) % gcdZ q.1 c.1 = 0) : Meets2 r c := by
  unfold Meets2
  have e : gcdZ r.1 c.1 = ((Nat.gcd (lcmN (l.map fun p => p.1.toNat)) c.1.natAbs : Nat) : Int) := by
    unfold gcdZ
    rw [h.t]
    unfold roundZ
    rw [Int.natAbs_natCast]
  rw [e]
  refine Int.emod_eq_zero_of_dvd (Int.ofNat_dvd_left.mpr (gcd_lcm_all ?_ ?_))
  · intro t ht
    obtain ⟨q, hq, rfl⟩ := List.mem_map.mp ht
    have := h0 q hq
    omega
  · intro t ht
    obtain ⟨q, hq, rfl⟩ := List.mem_map.mp ht
    have q0 := h0 q hq
    have d1 := Int.dvd_of_emod_eq_zero (k q hq)
    have d2 := Int.dvd_trans (gcdZ_left q.1 c.1) (Int.dvd_of_emod_eq_zero (h.h q hq))
    have d3 := Int.dvd_sub d1 d2
    rw [show c.2 - q.2 - (r.2 - q.2) = c.2 - r.2 by omega] at d3
    unfold gcdZ at d3
    rw [show q.1.natAbs = q.1.toNat by omega] at d3
    exact Int.ofNat_dvd_left.mp d3
theorem JoinL.pm {l : List (Int × Int)} {r : Int × Int} (h : JoinL l r) : PM l := by
  intro p hp q hq
  have d1 := Int.dvd_trans (gcdZ_left p.1 q.1) (Int.dvd_of_emod_eq_zero (h.h p hp))
  have d2 := Int.dvd_trans (gcdZ_right p.1 q.1) (Int.dvd_of_emod_eq_zero (h.h q hq))
  have d3 := Int.dvd_sub d2 d1
  rw [show r.2 - q.2 - (r.2 - p.2) = p.2 - q.2 by omega] at d3
  exact Int.emod_eq_zero_of_dvd d3
theorem JoinL.uniq {l : List (Int × Int)} {r s : Int × Int} (h : JoinL l r) (k : JoinL l s) (h0 : ∀ q ∈ l, 0 < q.1) : r = s := by
  have e1 : r.1 = s.1 := h.t.trans k.t.symm
  have all : ∀ us : List (Int × Int), (∀ q ∈ us, 0 < q.1 ∧ q.1 ∣ r.2 - s.2) → roundZ us ∣ r.2 - s.2 := by
    intro us hu
    unfold roundZ lcmN
    refine Int.ofNat_dvd_left.mpr (foldl_lcm_least _ _ _ (Nat.one_dvd _) fun t ht => ?_)
    obtain ⟨q, hq, rfl⟩ := List.mem_map.mp ht
    have := hu q hq
    have d := Int.natAbs_dvd_natAbs.mpr this.2
    rw [show q.1.natAbs = q.1.toNat by omega] at d
    exact d
  have d := all l fun q hq => ⟨h0 q hq, by
    have := Int.dvd_sub (Int.dvd_of_emod_eq_zero (h.h q hq)) (Int.dvd_of_emod_eq_zero (k.h q hq))
    rw [show r.2 - q.2 - (s.2 - q.2) = r.2 - s.2 by omega] at this
    exact this⟩
  rw [← h.t] at d
  have l1 := h.lo
  have l2 := h.hi
  have l3 := k.lo
  have l4 := k.hi
  have e2 : r.2 - s.2 = 0 := by
    obtain ⟨q, hq⟩ := d
    by_cases h0 : q = 0
    · rw [hq, h0, Int.mul_zero]
    · exfalso
      have hr : 0 < r.1 := by omega
      rcases Int.lt_or_gt_of_ne h0 with h | h
      · have : r.1 * q ≤ r.1 * (-1) := Int.mul_le_mul_of_nonneg_left (by omega) (by omega)
        omega
      · have : r.1 * 1 ≤ r.1 * q := Int.mul_le_mul_of_nonneg_left (by omega) (by omega)
        omega
  cases r
  cases s
  simp only at e1 e2
  rw [e1]
  congr 1
  omega
/-! ### days seen by every few -/
/-- q holds d just where p holds rest + size * d -/
structure SeenOf (size rest : Int) (p q : Int × Int) : Prop where
  t : q.1 = p.1 / gcdZ size p.1
  lo : 0 ≤ q.2
  hi : q.2 < q.1
  h : (size * q.2 - (p.2 - rest)) % p.1 = 0
theorem gcdZ_comm (a b : Int) : gcdZ a b = gcdZ b a := by unfold gcdZ; rw [Nat.gcd_comm]
theorem short_dvd {size m z : Int} (hm : 0 < m) : m ∣ size * z ↔ m / gcdZ size m ∣ z := by
  have hg := gcdZ_pos (a := size) hm
  have hco := gcdZ_co (a := size) hm
  obtain ⟨a', ea⟩ := gcdZ_left size m
  obtain ⟨m', em⟩ := gcdZ_right size m
  generalize gcdZ size m = g at *
  have q1 : size / g = a' := by rw [ea]; exact Int.mul_ediv_cancel_left _ (by omega)
  have q2 : m / g = m' := by rw [em]; exact Int.mul_ediv_cancel_left _ (by omega)
  rw [q1, q2] at hco
  rw [q2]
  constructor
  · intro h
    have h1 : m' ∣ a' * z := by
      have e : size * z = g * (a' * z) := by rw [ea, Int.mul_assoc]
      rw [e, em] at h
      exact Int.dvd_of_mul_dvd_mul_left (by omega) h
    have h2 := Int.natAbs_dvd_natAbs.mpr h1
    rw [Int.natAbs_mul] at h2
    have co : Nat.Coprime m'.natAbs a'.natAbs := by
      unfold Nat.Coprime
      rw [Nat.gcd_comm]
      exact hco
    exact Int.natAbs_dvd_natAbs.mp (co.dvd_of_dvd_mul_left h2)
  · intro h
    obtain ⟨y, rfl⟩ := h
    rw [ea, em]
    exact ⟨a' * y, by rw [Int.mul_assoc, Int.mul_assoc, Int.mul_left_comm a' m' y]⟩
theorem SeenOf.iff {size rest : Int} {p q : Int × Int} (h : SeenOf size rest p q) (hp : 0 < p.1) (d : Int) : (rest + size * d - p.2) % p.1 = 0 ↔ (d - q.2) % q.1 = 0 := by
  have d0 := Int.dvd_of_emod_eq_zero h.h
  have e : rest + size * d - p.2 = size * (d - q.2) + (size * q.2 - (p.2 - rest)) := by
    rw [Int.mul_sub]
    omega
  have a1 : p.1 ∣ rest + size * d - p.2 ↔ p.1 ∣ size * (d - q.2) := by
    rw [e]
    exact (Int.dvd_add_left d0)
  rw [← Int.dvd_iff_emod_eq_zero, ← Int.dvd_iff_emod_eq_zero, a1, short_dvd hp, ← h.t]
theorem SeenOf.uniq {size rest : Int} {p q r : Int × Int} (h : SeenOf size rest p q) (k : SeenOf size rest p r) (hp : 0 < p.1) : q = r := by
  have e1 : q.1 = r.1 := h.t.trans k.t.symm
  have d0 := (h.iff hp r.2).mp (by
    have e : rest + size * r.2 - p.2 = size * r.2 - (p.2 - rest) := by omega
    rw [e]
    exact k.h)
  have l1 := h.lo
  have l2 := h.hi
  have l3 := k.lo
  have l4 := k.hi
  have e2 : r.2 = q.2 := by
    have a1 : r.2 % q.1 = q.2 % q.1 := Int.emod_eq_emod_iff_emod_sub_eq_zero.mpr d0
    rw [Int.emod_eq_of_lt l3 (by omega), Int.emod_eq_of_lt l1 l2] at a1
    exact a1
  cases q
  cases r
  simp only at e1 e2
  rw [e1, e2]
end DW
/-! DWData: values of any data (as the laws draw them), their repr, their classes; more of tuples. -/
namespace DW
open PySem PySem.Spec PyProof.Rows L2

mutual
/-- a list stands in it -/
def hasL : PyData → Bool
  | .list _ => true
  | .tuple ds => hasLAll ds
  | .none => false
  | .bool _ => false
  | .int _ => false
  | .str _ => false
  | .dict _ => false
def hasLAll : List PyData → Bool
  | [] => false
  | d :: ds => hasL d || hasLAll ds
end
mutual
/-- data at a value: None, bools, numbers, texts, lists and tuples of data, the empty dict (none within a list); nothing of the deck -/
inductive Da (D : Dk) (H : Hp) : V → PyData → Prop where
  | non : Da D H .non .none
  | bl (b : Bool) : Da D H (.bl b) (.bool b)
  | int (i : Int) : Da D H (.int i) (.int i)
  | str (x : Str) : Da D H (.str x) (.str x)
  | lst {a : Addr} {xs : List V} {ds : List PyData} (h : Off D H a (.lst xs)) (r : DaAll D H xs ds) (n : PyData.hasDictAll ds = false) : Da D H (.ref a) (.list ds)
  | tup {a : Addr} {xs : List V} {ds : List PyData} (h : H a = some (.tup xs)) (r : DaAll D H xs ds) : Da D H (.ref a) (.tuple ds)
  | dic {a : Addr} (h : Off D H a (.dK [])) : Da D H (.ref a) (.dict [])
inductive DaAll (D : Dk) (H : Hp) : List V → List PyData → Prop where
  | nil : DaAll D H [] []
  | cons {v : V} {vs : List V} {d : PyData} {ds : List PyData} (h : Da D H v d) (t : DaAll D H vs ds) : DaAll D H (v :: vs) (d :: ds)
end
/-- what is off the deck stays -/
def OffKeep2 (D D' : Dk) (H H' : Hp) : Prop := (∀ b o, Off D H b o → Off D' H' b o) ∧ ∀ b xs, H b = some (.tup xs) → H' b = some (.tup xs)
abbrev OffKeep (D : Dk) (H H' : Hp) : Prop := OffKeep2 D D H H'
theorem Gr.ok {D : Dk} {H H' : Hp} (g : Gr D H H') (d : DeckAt D H) : OffKeep D H H' := ⟨fun _ _ x => x.go g, fun _ _ x => g.tup d x⟩
theorem OffKeep.new {D : Dk} {H : Hp} {p : Addr} {o : HO} (h : H p = none) : OffKeep D H (L2.upd H p o) := ⟨fun _ _ x => x.step h, TupKeep.upd h⟩
theorem OffKeep.same {D : Dk} {H H' : Hp} (s : Same H H') : OffKeep D H H' := ⟨fun b o x => ⟨s _ _ x.1, x.2⟩, same_tk s⟩
theorem OffKeep.trans {D : Dk} {H H1 H2 : Hp} (a : OffKeep D H H1) (b : OffKeep D H1 H2) : OffKeep D H H2 := ⟨fun c o x => b.1 c o (a.1 c o x), fun c xs x => b.2 c xs (a.2 c xs x)⟩
mutual
theorem Da.go {D D' : Dk} {H H' : Hp} (k : OffKeep2 D D' H H') : ∀ (d : PyData) (v : V), Da D H v d → Da D' H' v d
  | .none, _, h => by cases h; exact .non
  | .bool _, _, h => by cases h; exact .bl _
  | .int _, _, h => by cases h; exact .int _
  | .str _, _, h => by cases h; exact .str _
  | .list ds, _, h => by
    cases h with
    | lst h r n => exact .lst (k.1 _ _ h) (DaAll.go k ds _ r) n
  | .tuple ds, _, h => by
    cases h with
    | tup h r => exact .tup (k.2 _ _ h) (DaAll.go k ds _ r)
  | .dict _, _, h => by
    cases h with
    | dic h => exact .dic (k.1 _ _ h)
theorem DaAll.go {D D' : Dk} {H H' : Hp} (k : OffKeep2 D D' H H') : ∀ (ds : List PyData) (vs : List V), DaAll D H vs ds → DaAll D' H' vs ds
  | [], _, h => by cases h; exact .nil
  | d :: ds, _, h => by
    cases h with
    | cons h t => exact .cons (Da.go k d _ h) (DaAll.go k ds _ t)
end
section
variable {D : Dk} {H H' : Hp} {vs ws : List V} {ds es : List PyData} {v : V} {d : PyData}
theorem DaAll.len : ∀ {vs : List V} {ds : List PyData}, DaAll D H vs ds → vs.length = ds.length
  | _, _, .nil => rfl
  | _, _, .cons _ t => congrArg (· + 1) t.len
theorem DaAll.get : ∀ {vs : List V} {ds : List PyData}, DaAll D H vs ds → ∀ {i : Nat} {v : V}, vs[i]? = some v → ∃ d, ds[i]? = some d ∧ Da D H v d
  | _, _, .nil, _, _, e => by simp at e
  | _, _, .cons h _, 0, _, e => by
    simp at e
    subst e
    exact ⟨_, rfl, h⟩
  | _, _, .cons _ t, i + 1, v, e => by
    obtain ⟨p, h1, h2⟩ := DaAll.get (i := i) (v := v) t (by simpa using e)
    exact ⟨p, by simpa using h1, h2⟩
theorem DaAll.app : ∀ {vs ws : List V} {ds es : List PyData}, DaAll D H vs ds → DaAll D H ws es → DaAll D H (vs ++ ws) (ds ++ es)
  | _, _, _, _, .nil, s => s
  | _, _, _, _, .cons h t, s => .cons h (t.app s)
theorem DaAll.take : ∀ {vs : List V} {ds : List PyData} (n : Nat), DaAll D H vs ds → DaAll D H (vs.take n) (ds.take n)
  | _, _, 0, _ => .nil
  | _, _, _ + 1, .nil => .nil
  | _, _, n + 1, .cons h t => .cons h (t.take n)
theorem DaAll.drop : ∀ {vs : List V} {ds : List PyData} (n : Nat), DaAll D H vs ds → DaAll D H (vs.drop n) (ds.drop n)
  | _, _, 0, r => r
  | _, _, _ + 1, .nil => .nil
  | _, _, n + 1, .cons _ t => DaAll.drop n t
theorem DaAll.one (h : Da D H v d) : DaAll D H [v] [d] := .cons h .nil
theorem DaAll.rev : ∀ {vs : List V} {ds : List PyData}, DaAll D H vs ds → DaAll D H vs.reverse ds.reverse
  | _, _, .nil => .nil
  | _, _, .cons h t => by
    rw [List.reverse_cons, List.reverse_cons]
    exact t.rev.app (.one h)
theorem DaAll.cut (h : DaAll D H vs ds) (lo hi : Option Int) : DaAll D H (cutV vs lo hi) ((ds.drop (HT.sIx ds.length 0 lo)).take (HT.sIx ds.length ds.length hi - HT.sIx ds.length 0 lo)) := by
  unfold cutV
  rw [h.len]
  exact (h.drop _).take _
theorem PairsAt.da : ∀ {vs : List V} {ps : List (Int × Int)}, PairsAt H vs ps → DaAll D H vs (ps.map fun p => PyData.tuple [.int p.1, .int p.2])
  | _, _, .nil => .nil
  | _, _, .cons ⟨_, e, h⟩ t => by
    subst e
    exact .cons (.tup h (.cons (.int _) (.cons (.int _) .nil))) (PairsAt.da t)
theorem LotAt.da {a : Addr} {lot : List (Int × Int)} (h : LotAt H a lot) : Da D H (.ref a) (.tuple (lot.map fun p => PyData.tuple [.int p.1, .int p.2])) := by
  obtain ⟨vs, e, r⟩ := h.ex
  exact .tup e r.da
end
/-! ### repr -/
section
variable {X : Cx} {pins : List (Addr × Obj)} {σ : L2.St} {H : Hp} {s : Shared} {D : Dk}
mutual
theorem Da.reads (I : Inv X pins σ H s) : ∀ (d : PyData) (v : V) (u : Value), Da D H v d → RelV v u → ∃ as, Reads s.heap u d as ∧ (hasL d = false → sysModules ∉ as)
  | .none, _, _, h, r => by cases h; cases r; exact ⟨_, Reads.none, fun _ => List.not_mem_nil⟩
  | .bool b, _, _, h, r => by cases h; cases r; exact ⟨_, Reads.bool b, fun _ => List.not_mem_nil⟩
  | .int i, _, _, h, r => by cases h; obtain ⟨t, rfl⟩ := r; exact ⟨_, Reads.int i t, fun _ => List.not_mem_nil⟩
  | .str x, _, _, h, r => by cases h; obtain ⟨t, rfl⟩ := r; exact ⟨_, Reads.str x t, fun _ => List.not_mem_nil⟩
  | .list ds, _, _, h, r => by
    cases h with
    | @lst a xs _ h t n =>
      cases r
      obtain ⟨_, its, k, rv, e⟩ := (show ObjOk X.prog X.w H s.heap a (.lst xs) from I.hok _ _ h.1)
      obtain ⟨as, q, _⟩ := DaAll.reads I ds _ _ t rv
      refine ⟨_, Reads.list e rfl rfl q, fun z => ?_⟩
      simp only [hasL] at z
      cases z
  | .tuple ds, _, _, h, r => by
    cases h with
    | @tup a xs _ h t =>
      cases r
      obtain ⟨_, its, rv, o, e, c, k, w⟩ := (show ObjOk X.prog X.w H s.heap a (.tup xs) from I.hok _ _ h)
      obtain ⟨as, q, m⟩ := DaAll.reads I ds _ _ t rv
      exact ⟨_, Reads.tuple e c w q, fun z => m (by simpa only [hasL] using z)⟩
  | .dict kvs, _, _, h, r => by
    cases h with
    | @dic a h =>
      cases r
      obtain ⟨_, hs, vs, kv, o, es, ep, e, c, w, _, l, _⟩ := (show ObjOk X.prog X.w H s.heap a (.dK []) from I.hok _ _ h.1)
      cases kv
      have l' : es.toList = [] := by
        generalize es.toList = zs at l
        cases l
        rfl
      refine ⟨_, Reads.dict (as := []) (bs := []) e c.1 w (by rw [l']; exact .nil) (by rw [l']; exact .nil), fun _ z => ?_⟩
      have z' := List.mem_singleton.mp z
      rw [← z'] at hs
      simp at hs
theorem DaAll.reads (I : Inv X pins σ H s) : ∀ (ds : List PyData) (vs : List V) (us : List Value), DaAll D H vs ds → Vals vs us → ∃ as, ReadsAll s.heap us ds as ∧ (hasLAll ds = false → sysModules ∉ as)
  | [], _, _, h, r => by cases h; cases r; exact ⟨_, ReadsAll.nil, fun _ => List.not_mem_nil⟩
  | d :: ds, _, _, h, r => by
    cases h with
    | cons h t =>
      cases r with
      | cons r1 r2 =>
        obtain ⟨as, q1, m1⟩ := Da.reads I d _ _ h r1
        obtain ⟨bs, q2, m2⟩ := DaAll.reads I ds _ _ t r2
        refine ⟨_, ReadsAll.cons q1 q2, fun z w => ?_⟩
        simp only [hasLAll, Bool.or_eq_false_iff] at z
        rcases List.mem_append.mp w with w | w
        · exact m1 z.1 w
        · exact m2 z.2 w
end
end
/-- repr of any such data -/
def rReprA (D : Dk) : List V → Hp → VK → Prop := fun vs H Q => ∃ v d, vs = [v] ∧ Da D H v d ∧ (d.hasDict = true → hasL d = false) ∧ d.showable = true ∧ d.depth ≤ 60 ∧ d.shown.length ≤ sizeLine ∧ Q (.str d.shown) H
theorem call_reprA {X : Cx} (D : Dk) (hg : X.A.guards = some []) (hu : X.A.units + 64 < cLine) : CallR X (.builtin "repr") (rReprA D) := by
  intro pins s σ H vs us Q I r h
  obtain ⟨v, d, rfl, hd, hm, hs, hdp, hz, q⟩ := h
  obtain ⟨u, rfl, rv⟩ := vals1 r
  obtain ⟨as, rd, ra⟩ := Da.reads I d v u hd rv
  have leaf : ∀ {a : Addr}, u = .ref a → wpAny (model X.prog X.w) X.A (call (.builtin "repr") [u]) (EP X pins σ Q) X.xe s := by
    rintro a rfl
    exact repr_of_reads' rd hs (fun z => ra (hm z)) hg (by omega) (fun _ _ e => e) (fun h' t tk hk => ⟨.str _, H, I.kept (t' := tk) hk, ⟨t, rfl⟩, q⟩) hz
  cases hd with
  | lst _ _ _ => exact leaf rv
  | tup _ _ => exact leaf rv
  | dic _ => exact leaf rv
  | non => exact call_repr (X := X) hg hu pins s σ H _ _ Q I r ⟨_, .none, rfl, .non, hs, hdp, hz, q⟩
  | bl b => exact call_repr (X := X) hg hu pins s σ H _ _ Q I r ⟨_, .bool b, rfl, .bl b, hs, hdp, hz, q⟩
  | int i => exact call_repr (X := X) hg hu pins s σ H _ _ Q I r ⟨_, .int i, rfl, .int i, hs, hdp, hz, q⟩
  | str x => exact call_repr (X := X) hg hu pins s σ H _ _ Q I r ⟨_, .str x, rfl, .str x, hs, hdp, hz, q⟩
/-! ### classes -/
def isTupD : PyData → Bool | .tuple _ => true | _ => false
def isIntD : PyData → Bool | .int _ => true | .bool _ => true | _ => false
def isBoolD : PyData → Bool | .bool _ => true | _ => false
theorem Da.ty {K : PySem.W.Frag} {D : Dk} {H : Hp} {v : V} {d : PyData} (h : Da D H v d) : ∃ t, TyX K H v (.type t) ∧ kitB t "tuple" = some (isTupD d) ∧ kitB t "int" = some (isIntD d) ∧ kitB t "bool" = some (isBoolD d) := by
  cases h with
  | non => exact ⟨_, .base .non, by decide +kernel, by decide +kernel, by decide +kernel⟩
  | bl b => exact ⟨_, .base (.bl b), (show kitB "bool" "tuple" = some false from by decide +kernel), (show kitB "bool" "int" = some true from by decide +kernel), (show kitB "bool" "bool" = some true from by decide +kernel)⟩
  | int i => exact ⟨_, .base (.int i), (show kitB "int" "tuple" = some false from by decide +kernel), (show kitB "int" "int" = some true from by decide +kernel), (show kitB "int" "bool" = some false from by decide +kernel)⟩
  | str x => exact ⟨_, .base (.str x), (show kitB "str" "tuple" = some false from by decide +kernel), (show kitB "str" "int" = some false from by decide +kernel), (show kitB "str" "bool" = some false from by decide +kernel)⟩
  | lst h _ _ => exact ⟨_, .base (.lst h.1), (show kitB "list" "tuple" = some false from by decide +kernel), (show kitB "list" "int" = some false from by decide +kernel), (show kitB "list" "bool" = some false from by decide +kernel)⟩
  | tup h _ => exact ⟨_, .base (.tup h), (show kitB "tuple" "tuple" = some true from by decide +kernel), (show kitB "tuple" "int" = some false from by decide +kernel), (show kitB "tuple" "bool" = some false from by decide +kernel)⟩
  | dic h => exact ⟨_, .base (.dK h.1), by decide +kernel, by decide +kernel, by decide +kernel⟩
theorem g_isTup {K : PySem.W.Frag} {D : Dk} {H : Hp} {v : V} {d : PyData} {Q : VK} (h : Da D H v d) (q : Q (.bl (isTupD d)) H) : rIsi K [v, .ty "tuple"] H Q := by
  obtain ⟨t, e, k, _⟩ := h.ty (K := K)
  exact ⟨v, .ty "tuple", _, _, _, rfl, .ty "tuple", e, kit_ty k, q⟩
theorem g_isInt {K : PySem.W.Frag} {D : Dk} {H : Hp} {v : V} {d : PyData} {Q : VK} (h : Da D H v d) (q : Q (.bl (isIntD d)) H) : rIsi K [v, .ty "int"] H Q := by
  obtain ⟨t, e, _, k, _⟩ := h.ty (K := K)
  exact ⟨v, .ty "int", _, _, _, rfl, .ty "int", e, kit_ty k, q⟩
theorem g_isBool {K : PySem.W.Frag} {D : Dk} {H : Hp} {v : V} {d : PyData} {Q : VK} (h : Da D H v d) (q : Q (.bl (isBoolD d)) H) : rIsi K [v, .ty "bool"] H Q := by
  obtain ⟨t, e, _, _, k⟩ := h.ty (K := K)
  exact ⟨v, .ty "bool", _, _, _, rfl, .ty "bool", e, kit_ty k, q⟩

/-! ### enumerate(t) -/
set_option maxHeartbeats 1000000 in
theorem enum_new1 {v : Value} {o : Obj} {H : Heap → Prop} (B : Begins v o H) :
    Meets (Builtin.«enumerate.__new__» ⟨[.type "enumerate", v], []⟩) (fun _ R s => H s.heap ∧
      R (.ok (.ret (.ref (s.heap.push o).objs.size)))
        { s with heap := (s.heap.push o).push { cls := .type "enumerate", data := .fields #[.none, .bool false, .ref s.heap.objs.size, rawInt 0, .none, .none] } }) :=
  .of_wp fun prog w A R s h => by
    obtain ⟨hp, g, d, tk, os⟩ := s
    obtain ⟨h1, h⟩ := h
    have hsub := sub_enumerate
    have it1 : ∀ {A' : Around} {E : Value → Shared → Prop} {Q : Value → Shared → Prop}, Q (.ref hp.objs.size) ⟨hp.push o, g, d, tk, os⟩ →
        wpAny (model prog w) A' (pyIter v) Q E ⟨hp, g, d, tk, os⟩ := fun q => B.iter prog w _ _ ⟨hp, g, d, tk, os⟩ _ h1 q
    wp_walk using it1
    refine wpAny_stack_any fun st => wpAny_pure ?_
    split
    · rename_i c _ _ _ _ _
      cases (c == Value.type "enumerate")
      all_goals
        wp_walk using it1
        exact ⟨_, rfl, h⟩
    · wp_walk using it1
      exact ⟨_, rfl, h⟩
/-- the tuple at a, each item in a new pair with its place -/
def IteT (K : PySem.W.Frag) (a : Addr) : It where
  go := fun i H => ∃ (xs : List V) (x : V), SqT K H a xs ∧ xs[i]? = some x
  yld := fun i H v H' => ∃ (T : Addr) (x : V), v = .ref T ∧ H T = none ∧ H' = upd H T (.tup [.int (i : Nat), x]) ∧ ∀ xs, SqT K H a xs → xs[i]? = some x
  stop := fun i H => ∃ xs : List V, SqT K H a xs ∧ xs.length ≤ i
theorem turn_enumT {P : Program} {w : World} {K : PySem.W.Frag} {elts : List Expr} {kk : Nat} {tpos : Pos} (a e it : Addr) (n1 : a ≠ it) (n2 : e ≠ a) (n3 : e ≠ it) :
    Turn P w K (.Tuple elts kk tpos) (IteT K a) [e, it] e (fun i h => (∃ old, IsEnum h e it ((i : Nat) : Int) old) ∧ h.IsTupleIter it a i) where
  mem := List.mem_cons_self
  obj := by
    rintro i h ⟨⟨old, q⟩, o, r, c, d⟩ b hb
    rcases List.mem_cons.mp hb with rfl | hb
    · exact ⟨_, q, fun v z => nomatch z⟩
    · rw [List.mem_singleton.mp hb]
      refine ⟨o, r, fun v z => ?_⟩
      rw [d] at z
      cases z
  keep := by
    rintro i h h' ⟨⟨old, q⟩, r⟩ k
    exact ⟨⟨old, k e List.mem_cons_self _ q⟩, r.at fun o z => k it (List.mem_cons_of_mem _ List.mem_cons_self) o z⟩
  item := by
    intro X hP hw hK hc i pins s σ H E I hf st hg
    subst hP hw hK
    obtain ⟨⟨old, q⟩, r⟩ := st
    obtain ⟨xs, x, hx, hi⟩ := hg
    obtain ⟨its, rv, tp, _⟩ := I.tuple hx
    obtain ⟨u, hu, ru⟩ := rv.get hi
    have le : e < s.heap.objs.size := Heap.lt_size q
    have li : it < s.heap.objs.size := (let ⟨_, z, _⟩ := r; Heap.lt_size z)
    have hn : i < its.toArray.size := by
      rw [List.size_toArray]
      exact (List.getElem?_eq_some_iff.mp hu).1
    have dr := Draws.tuple (prog := X.prog) (w := X.w) (A := X.A.in1) (I.ok.hd hc) it a n1 its.toArray
    refine wpAny_pyNext_enum_itemD dr q ⟨r, tp⟩ hn n3 (fun z => ?_) fun y h' tk py out st' hT _ hk => ?_
    · rcases List.mem_cons.mp z with z | z
      · exact n3 z
      · exact n2 (List.mem_singleton.mp z)
    have ey : y = u := by
      have py' : its.toArray[i]? = some y := py
      rw [List.getElem?_toArray, hu] at py'
      exact (Option.some.inj py').symm
    subst ey
    refine ⟨_, rfl, wpAny_letOwnedTupleGo_enum (s := { s with heap := h', toks := tk + 1 }) out fun h2 q2 same => ?_⟩
    have pair : h2.get? s.heap.objs.size = some { cls := .type "tuple", data := .seq #[.int i tk, y] } :=
      (same.2 _ (Nat.ne_of_gt le)).trans hT
    have laid : ObjOk X.prog X.w (upd H s.heap.objs.size (.tup [.int (i : Nat), x])) h2 s.heap.objs.size (.tup [.int (i : Nat), x]) := by
      refine ⟨by show 2 ≤ sizeLine; decide, [.int i tk, y], .cons ⟨_, rfl⟩ (.cons ru .nil), ?_⟩
      exact ⟨_, pair, rfl, _, rfl⟩
    have J : Inv X pins σ (upd H s.heap.objs.size (.tup [.int (i : Nat), x])) { s with heap := h2, toks := tk + 1 } := by
      refine I.turnedNew (ch := [e, it]) (fun b o hb z => ?_) hf (Nat.le_refl _) laid
      have b1 : b ≠ e := fun w => hb (by rw [w]; exact List.mem_cons_self)
      have b2 : b ≠ it := fun w => hb (by rw [w]; exact List.mem_cons_of_mem _ List.mem_cons_self)
      exact (same.2 b b1).trans (hk b o b1 b2 z)
    refine ⟨.ref s.heap.objs.size, _, J, rfl, ⟨_, x, rfl, I.hok.fresh (Nat.le_refl _), rfl, fun ys hy => ?_⟩, ⟨⟨y, ?_⟩, st'.1.at fun o z => (same.2 it n3.symm).trans z⟩, fun b hb => ?_⟩
    · rw [I.tuple_inj hy hx]
      exact hi
    · have c : ((i + 1 : Nat) : Int) = (i : Int) + 1 := Int.natCast_succ i
      rw [c]
      exact q2
    · have lb : b < s.heap.objs.size := by
        rcases List.mem_cons.mp hb with rfl | hb
        · exact le
        · rw [List.mem_singleton.mp hb]
          exact li
      rw [upd_ne (Nat.ne_of_lt lb)]
      exact (hf b hb).1
  done := by
    intro X hP hw hK hc i pins s σ H E I hf st hg
    subst hP hw hK
    obtain ⟨⟨old, q⟩, r⟩ := st
    obtain ⟨xs, hx, hi⟩ := hg
    obtain ⟨its, rv, tp, _⟩ := I.tuple hx
    have none_at : its.toArray[i]? = none := by
      rw [List.getElem?_toArray]
      exact List.getElem?_eq_none_iff.mpr (by have := rv.length; omega)
    have dr : Draws X.prog X.w X.A.in1 it [it, a] i (fun _ _ => True) (fun j h => j = i ∧ h.IsTupleIter it a i ∧ h.IsTuple a its.toArray) :=
      { live := fun _ _ z => (let ⟨o, w, _⟩ := z.2.1; ⟨o, w⟩)
        frame := fun _ _ _ z k => ⟨z.1, z.2.1.at fun o w => k it List.mem_cons_self o w, z.2.2.at fun o w => k a (List.mem_cons_of_mem _ List.mem_cons_self) o w⟩
        item := fun j _ _ _ lt z => absurd lt (by rw [z.1]; exact Nat.lt_irrefl _)
        done := fun _ _ _ z k => wpAny_nextOf_tuple_end (I.ok.hd hc) z.2.1 z.2.2 none_at k }
    obtain ⟨f0, f1, f2, f3, f4, f5⟩ := hf it (List.mem_cons_of_mem _ List.mem_cons_self)
    refine wpAny_pyNext_enum_endD dr q ⟨rfl, r, tp⟩ fun h' same => ⟨rfl, ?_⟩
    exact I.turned (t' := s.toks) (fun b o nb w => same b o nb w) f0 f1 f3 f4 f5
  self := by
    rintro A i s Q E ⟨⟨_, q⟩, _⟩ h
    exact wpAny_pyIter_enum q h
def iEnumT (K : PySem.W.Frag) (ta : TA) : TI := fun σ H R => ta σ H fun vs H1 => ∃ (a : Addr) (xs : List V), vs = [.ref a] ∧ SqT K H1 a xs ∧ R (IteT K a) H1
theorem pi_enumT {X : Cx} {e : Expr} {ta : TA} {p pos tpos : Pos} {elts : List Expr} {kk : Nat} (hg : Gl X "enumerate") (hm : X.mg "enumerate" = none) (ha : PA X [e] ta)
    (hs : starEach [e] X.env = [(false, eval e X.env)] := by rfl) : PI X (.Tuple elts kk tpos) (.Call (.Name "enumerate" p) [e] [] pos) (iEnumT X.K ta) := by
  constructor
  intro pins s σ H R I h
  refine Call_ (ld_blt I hg hm boot_enumerate (PyProof.Rows.callWith_type1 ?_ hs rfl))
  refine thn (ha.run pos pins s σ H _ I h) fun us s1 ⟨vs, H1, I1, r1, q1⟩ => ?_
  obtain ⟨a, xs, rfl, hx, q⟩ := q1
  obtain ⟨u, rfl, ru⟩ := vals1 r1
  cases (show u = Value.ref a from ru)
  obtain ⟨its, rv, tp, _⟩ := I1.tuple hx
  have la : a < s1.heap.objs.size := tp.lt
  refine callType_new F.called_enumerate (by decide) (F.typeCall_enumerate_1 _) (F.newCall_enumerate_1 _) (fun obj => F.args_object_init_2 obj _) F.entry_enumerate_new (enum_new1 (begins_tuple a its.toArray)) ⟨tp, ?_⟩
  generalize hA : s1.heap.push { cls := .type "tuple_iterator", data := .fields #[.ref a, .int 0 0] } = hp1
  have z1 : hp1.objs.size = s1.heap.objs.size + 1 := by
    rw [← hA]
    exact Heap.size_push ..
  have itAt : hp1.get? s1.heap.objs.size = some { cls := .type "tuple_iterator", data := .fields #[.ref a, .int 0 0] } := by
    rw [← hA]
    exact Heap.get?_push_size _ rfl
  have k1 : ∀ b o, s1.heap.get? b = some o → hp1.get? b = some o := fun b o w => by
    rw [← hA]
    exact Heap.get?_push_of_some _ w
  show _ ∧ _
  rw [z1]
  generalize hB : hp1.push { cls := .type "enumerate", data := .fields #[.none, .bool false, .ref s1.heap.objs.size, rawInt 0, .none, .none] } = hp2
  have enAt : IsEnum hp2 (s1.heap.objs.size + 1) s1.heap.objs.size 0 .none := by
    rw [← hB, ← z1]
    exact Heap.get?_push_size _ rfl
  have k2 : ∀ b o, s1.heap.get? b = some o → hp2.get? b = some o := fun b o w => by
    rw [← hB]
    exact Heap.get?_push_of_some _ (k1 b o w)
  have itAt2 : hp2.IsTupleIter s1.heap.objs.size a 0 := by
    rw [← hB]
    exact ⟨_, Heap.get?_push_of_some _ itAt, rfl, rfl⟩
  refine ⟨⟨_, enAt, rfl⟩, wpAny_pyIter_enum enAt ?_⟩
  have J : Inv X pins σ H1 { s1 with heap := hp2 } := I1.kept (t' := s1.toks) k2
  have na : a ≠ s1.heap.objs.size := Nat.ne_of_lt la
  have ne : s1.heap.objs.size + 1 ≠ a := fun z => Nat.lt_irrefl _ (Nat.lt_trans (z ▸ la : s1.heap.objs.size + 1 < s1.heap.objs.size) (Nat.lt_succ_self _))
  refine ⟨s1.heap.objs.size + 1, [s1.heap.objs.size + 1, s1.heap.objs.size], _, _, H1, rfl, J, turn_enumT a _ _ na ne (Nat.succ_ne_self _), ⟨⟨.none, enAt⟩, itAt2⟩, ?_, q⟩
  intro b hb
  have le : s1.heap.objs.size ≤ b := by
    rcases List.mem_cons.mp hb with w | w
    · rw [w]
      exact Nat.le_succ _
    · rw [List.mem_singleton.mp w]
      exact Nat.le_refl _
  exact I1.fpOk le (I1.hok.fresh le)
/-- over a tuple by its places -/
theorem f_enumT {K : PySem.W.Frag} {a : Addr} {xs : List V} {g : TG} {tb : TS} {D : Ends} {σ : L2.St} {H : Hp} (Pv : Nat → L2.St → Hp → Prop) (h0 : Pv 0 σ H) (hl : ∀ i σ H, Pv i σ H → H a = some (.tup xs))
    (hs : ∀ i x σ H p, xs[i]? = some x → Pv i σ H → H p = none → g (.ref p) σ (upd H p (.tup [.int (i : Nat), x])) fun σ2 H2 => tb { D with nx := Pv (i + 1), ct := Pv (i + 1), bk := D.nx } σ2 H2)
    (hd : ∀ σ H, Pv xs.length σ H → D.nx σ H) : tFor (fun _ H R => R (IteT K a) H) g tb D σ H := by
  refine ⟨fun i m σ H => m = xs.length - i ∧ i ≤ xs.length ∧ Pv i σ H, ⟨_, rfl, Nat.zero_le _, h0⟩, ?_⟩
  rintro i m σ H ⟨rfl, hi, p⟩
  have at_ := hl i σ H p
  by_cases lt : i < xs.length
  · refine Or.inr ⟨⟨xs, xs[i], SqT.of at_, List.getElem?_eq_getElem lt⟩, Pv (i + 1), fun σ' H' p' => ⟨xs.length - (i + 1), by omega, rfl, lt, p'⟩, ?_⟩
    rintro x H' ⟨T, y, rfl, n, rfl, hy⟩
    exact hs i y σ H T (hy xs (SqT.of at_)) p n
  · have e : i = xs.length := by omega
    subst e
    exact Or.inl ⟨⟨xs, SqT.of at_, Nat.le_refl _⟩, hd σ H p⟩
theorem g_forE {K : PySem.W.Frag} {ta : TA} {g : TG} {tb : TS} {D : Ends} {σ : L2.St} {H : Hp} (h : ta σ H fun vs H1 => ∃ (a : Addr) (xs : List V), vs = [.ref a] ∧ SqT K H1 a xs ∧ tFor (fun _ H R => R (IteT K a) H) g tb D σ H1) : tFor (iEnumT K ta) g tb D σ H := h
end DW
/-! DWLot: steps of the heap looked for from its end; comprehensions by what has been gathered; lots as data. -/
namespace DW
open PySem PySem.Spec PyProof.Rows L2

/-! ### steps -/
section
variable {D : Dk} {H H' H1 H2 : Hp} {a b p L : Addr} {o u : HO} {xs ys : List V} {v : V}
theorem same_step (s : Same H H1) (h : H1 p = none) : Same H (L2.upd H1 p o) := s.trans (same_new h)
theorem tk_refl : TupKeep H H := fun _ _ h => h
theorem tk_step (s : TupKeep H H1) (h : H1 p = none) : TupKeep H (L2.upd H1 p o) := s.trans (TupKeep.upd h)
theorem tk_mut (s : TupKeep H H1) (h : H1 p = some (.lst xs)) : TupKeep H (L2.upd H1 p o) := s.trans (TupKeep.lst h)
theorem tk_same (s : TupKeep H H1) (h : Same H1 H2) : TupKeep H H2 := s.trans (same_tk h)
theorem tk_gr (s : TupKeep H H1) (g : Gr D H1 H2) (d : DeckAt D H1) : TupKeep H H2 := s.trans (g.tk d)
theorem dk_step (d : DeckAt D H) (h : H p = none) : DeckAt D (L2.upd H p o) := ((Gr.refl d).new h).at_
theorem tk_at (e : H a = some (.tup xs)) (k : TupKeep H H') : H' a = some (.tup xs) := k _ _ e
theorem gr_same (d : DeckAt D H) (s : Same H H') : Gr D H H' := (Gr.refl d).same s
theorem off_same (x : Off D H b o) (s : Same H H') : Off D H' b o := ⟨s _ _ x.1, x.2⟩
end
/-- steps of the heap, from its end: tuples stay (k), all stays (s), the deck stands (d), it is drawn from (r), a thing stands beside it (o) -/
local macro_rules | `(tactic| walk_at "k") => `(tactic| first
  | with_reducible assumption
  | with_reducible exact tk_refl
  | ((with_reducible refine tk_step ?_ (by assumption)); walk_at "k")
  | ((with_reducible refine tk_mut ?_ (by assumption)); walk_at "k")
  | ((with_reducible refine tk_same ?_ (by assumption)); walk_at "k")
  | ((with_reducible refine tk_gr ?_ (by assumption) (by walk_at "d")); walk_at "k"))
local macro_rules | `(tactic| walk_at "s") => `(tactic| first
  | with_reducible assumption
  | with_reducible exact Same.refl _
  | ((with_reducible refine same_step ?_ (by assumption)); walk_at "s")
  | ((with_reducible refine Same.trans ?_ (by assumption)); walk_at "s"))
local macro_rules | `(tactic| walk_at "d") => `(tactic| first
  | with_reducible assumption
  | with_reducible exact Gr.at_ (by assumption)
  | ((with_reducible refine dk_step ?_ (by assumption)); walk_at "d")
  | ((with_reducible refine DeckAt.same ?_ (by assumption)); walk_at "d"))
local macro_rules | `(tactic| walk_at "r") => `(tactic| first
  | with_reducible assumption
  | ((with_reducible refine Gr.refl ?_); walk_at "d")
  | ((with_reducible refine Gr.new ?_ (by assumption)); walk_at "r")
  | ((with_reducible refine Gr.mut ?_ (by walk_at "d") (by assumption)); walk_at "r")
  | ((with_reducible refine Gr.same ?_ (by assumption)); walk_at "r")
  | ((with_reducible refine Gr.trans ?_ (by assumption)); walk_at "r"))
local macro_rules | `(tactic| walk_at "o") => `(tactic| first
  | with_reducible assumption
  | (refine Off.new ?_ (by assumption); walk_at "d")
  | ((with_reducible refine Off.step ?_ (by assumption)); walk_at "o")
  | ((with_reducible refine off_same ?_ (by assumption)); walk_at "o")
  | ((with_reducible refine Off.go ?_ (by assumption)); walk_at "o"))

/-! ### comprehensions by what has been gathered -/
section
variable {K : PySem.W.Frag} {ta : TA} {tl : TE} {g : TG} {σ : L2.St} {H : Hp} {tt : TT} {te : TE} {vs : List Nat} {Q : VK} {a : Addr} {xs : List V} {lo : Int} {n : Nat}
/-- over a tuple, each step lays new things only -/
theorem c_tupP (R : Nat → Hp → List V → Prop) (hR : ∀ i H H' acc, TupKeep H H' → R i H acc → R i H' acc) (ha : H a = some (.tup xs)) (hz : xs.length ≤ 1000000) (h0 : R 0 H [])
    (hs : ∀ i x H' acc (Kt : V → Hp → Prop) (Kf : Hp → Prop), xs[i]? = some x → Same H H' → R i H' acc → acc.length ≤ i →
      (∀ y H4, Same H' H4 → R (i + 1) H4 (acc ++ [y]) → Kt y H4) → (∀ H3, Same H' H3 → R (i + 1) H3 acc → Kf H3) →
      g x (wipe σ vs) H' fun σ2 H2 => wipe σ2 vs = wipe σ vs ∧ tt σ2 H2 fun b H3 => if b = true then te σ2 H3 Kt else Kf H3)
    (hd : ∀ D H' acc, H D = none → Same H H' → H' D = some (.lst acc) → acc.length ≤ xs.length → R xs.length H' acc → Q (.ref D) H') : tLc (fun _ H R => R (Itt K a) H) g tt te vs σ H Q := by
  refine c_tup (xs := xs) (fun D i H' => H D = none ∧ Same H H' ∧ ∃ acc, H' D = some (.lst acc) ∧ acc.length ≤ i ∧ R i H' acc)
    (fun D hD => ⟨hD, same_new hD, [], upd_same, Nat.le_refl _, hR _ _ _ _ (TupKeep.upd hD) h0⟩) (fun D i H' q => SqT.of (q.2.1 _ _ ha)) ?_ ?_
  · rintro D i x H' hx ⟨nD, s, acc, e, hl, r⟩
    have hi : i < xs.length := (List.getElem?_eq_some_iff.mp hx).1
    refine hs i x H' acc _ _ hx s r hl (fun y H4 s4 r4 => ?_) (fun H3 s3 r3 => ?_)
    · exact ⟨acc, s4 _ _ e, small (by omega), nD, same_mut (s.trans s4) nD, acc ++ [y], upd_same, by rw [List.length_append]; show acc.length + 1 ≤ _; omega, hR _ _ _ _ (TupKeep.lst (s4 _ _ e)) r4⟩
    · exact ⟨nD, s.trans s3, acc, s3 _ _ e, by omega, r3⟩
  · rintro D H' ⟨nD, s, acc, e, hl, r⟩
    exact hd D H' acc nD s e hl r
theorem c_lstP (R : Nat → Hp → List V → Prop) (hR : ∀ i H H' acc, TupKeep H H' → R i H acc → R i H' acc) (ha : H a = some (.lst xs)) (hz : xs.length ≤ 1000000) (h0 : R 0 H [])
    (hs : ∀ i x H' acc (Kt : V → Hp → Prop) (Kf : Hp → Prop), xs[i]? = some x → Same H H' → R i H' acc → acc.length ≤ i →
      (∀ y H4, Same H' H4 → R (i + 1) H4 (acc ++ [y]) → Kt y H4) → (∀ H3, Same H' H3 → R (i + 1) H3 acc → Kf H3) →
      g x (wipe σ vs) H' fun σ2 H2 => wipe σ2 vs = wipe σ vs ∧ tt σ2 H2 fun b H3 => if b = true then te σ2 H3 Kt else Kf H3)
    (hd : ∀ D H' acc, H D = none → Same H H' → H' D = some (.lst acc) → acc.length ≤ xs.length → R xs.length H' acc → Q (.ref D) H') : tLc (fun _ H R => R (Itl K a) H) g tt te vs σ H Q := by
  refine c_list (xs := xs) (fun D i H' => H D = none ∧ Same H H' ∧ ∃ acc, H' D = some (.lst acc) ∧ acc.length ≤ i ∧ R i H' acc)
    (fun D hD => ⟨hD, same_new hD, [], upd_same, Nat.le_refl _, hR _ _ _ _ (TupKeep.upd hD) h0⟩) (fun D i H' q => SqL.of (q.2.1 _ _ ha)) ?_ ?_
  · rintro D i x H' hx ⟨nD, s, acc, e, hl, r⟩
    have hi : i < xs.length := (List.getElem?_eq_some_iff.mp hx).1
    refine hs i x H' acc _ _ hx s r hl (fun y H4 s4 r4 => ?_) (fun H3 s3 r3 => ?_)
    · exact ⟨acc, s4 _ _ e, small (by omega), nD, same_mut (s.trans s4) nD, acc ++ [y], upd_same, by rw [List.length_append]; show acc.length + 1 ≤ _; omega, hR _ _ _ _ (TupKeep.lst (s4 _ _ e)) r4⟩
    · exact ⟨nD, s.trans s3, acc, s3 _ _ e, by omega, r3⟩
  · rintro D H' ⟨nD, s, acc, e, hl, r⟩
    exact hd D H' acc nD s e hl r
theorem c_rngP (R : Nat → Hp → List V → Prop) (hR : ∀ i H H' acc, TupKeep H H' → R i H acc → R i H' acc) (hz : n ≤ 1000000) (h0 : R 0 H [])
    (hs : ∀ i H' acc (Kt : V → Hp → Prop) (Kf : Hp → Prop), i < n → Same H H' → R i H' acc → acc.length ≤ i →
      (∀ y H4, Same H' H4 → R (i + 1) H4 (acc ++ [y]) → Kt y H4) → (∀ H3, Same H' H3 → R (i + 1) H3 acc → Kf H3) →
      g (.int (lo + i)) (wipe σ vs) H' fun σ2 H2 => wipe σ2 vs = wipe σ vs ∧ tt σ2 H2 fun b H3 => if b = true then te σ2 H3 Kt else Kf H3)
    (hd : ∀ D H' acc, H D = none → Same H H' → H' D = some (.lst acc) → acc.length ≤ n → R n H' acc → Q (.ref D) H') : tLc (fun _ H R => R (Itr lo n) H) g tt te vs σ H Q := by
  refine c_range (fun D i H' => H D = none ∧ Same H H' ∧ ∃ acc, H' D = some (.lst acc) ∧ acc.length ≤ i ∧ R i H' acc)
    (fun D hD => ⟨hD, same_new hD, [], upd_same, Nat.le_refl _, hR _ _ _ _ (TupKeep.upd hD) h0⟩) ?_ ?_
  · rintro D i H' hi ⟨nD, s, acc, e, hl, r⟩
    refine hs i H' acc _ _ hi s r hl (fun y H4 s4 r4 => ?_) (fun H3 s3 r3 => ?_)
    · exact ⟨acc, s4 _ _ e, small (by omega), nD, same_mut (s.trans s4) nD, acc ++ [y], upd_same, by rw [List.length_append]; show acc.length + 1 ≤ _; omega, hR _ _ _ _ (TupKeep.lst (s4 _ _ e)) r4⟩
    · exact ⟨nD, s.trans s3, acc, s3 _ _ e, by omega, r3⟩
  · rintro D H' ⟨nD, s, acc, e, hl, r⟩
    exact hd D H' acc nD s e hl r
/-- over range(n), each step draws from the deck -/
theorem c_rngG {Dk0 : Dk} (R : Nat → Hp → List V → Prop) (hR : ∀ i H H' acc, TupKeep H H' → R i H acc → R i H' acc) (hz : n ≤ 1000000) (dk : DeckAt Dk0 H) (h0 : R 0 H [])
    (hs : ∀ i H' acc (Kt : V → Hp → Prop) (Kf : Hp → Prop), i < n → Gr Dk0 H H' → R i H' acc → acc.length ≤ i →
      (∀ y H4, Gr Dk0 H' H4 → R (i + 1) H4 (acc ++ [y]) → Kt y H4) → (∀ H3, Gr Dk0 H' H3 → R (i + 1) H3 acc → Kf H3) →
      g (.int (lo + i)) (wipe σ vs) H' fun σ2 H2 => wipe σ2 vs = wipe σ vs ∧ tt σ2 H2 fun b H3 => if b = true then te σ2 H3 Kt else Kf H3)
    (hd : ∀ D H' acc, H D = none → Gr Dk0 H H' → H' D = some (.lst acc) → acc.length ≤ n → R n H' acc → Q (.ref D) H') : tLc (fun _ H R => R (Itr lo n) H) g tt te vs σ H Q := by
  refine c_range (fun D i H' => H D = none ∧ Gr Dk0 H H' ∧ ∃ acc, H' D = some (.lst acc) ∧ acc.length ≤ i ∧ R i H' acc)
    (fun D hD => ⟨hD, (Gr.refl dk).new hD, [], upd_same, Nat.le_refl _, hR _ _ _ _ (TupKeep.upd hD) h0⟩) ?_ ?_
  · rintro D i H' hi ⟨nD, s, acc, e, hl, r⟩
    obtain ⟨n0, n1, _⟩ := dk.ne nD
    refine hs i H' acc _ _ hi s r hl (fun y H4 s4 r4 => ?_) (fun H3 s3 r3 => ?_)
    · exact ⟨acc, s4.keep _ _ e n0 n1, small (by omega), nD, (s.trans s4).mut dk nD, acc ++ [y], upd_same, by rw [List.length_append]; show acc.length + 1 ≤ _; omega, hR _ _ _ _ (TupKeep.lst (s4.keep _ _ e n0 n1)) r4⟩
    · exact ⟨nD, s.trans s3, acc, s3.keep _ _ e n0 n1, by omega, r3⟩
  · rintro D H' ⟨nD, s, acc, e, hl, r⟩
    exact hd D H' acc nD s e hl r
/-- over a tuple by its places -/
theorem c_enumT (Pv : Addr → Nat → Hp → Prop) (h0 : ∀ D, H D = none → Pv D 0 (upd H D (.lst []))) (hl : ∀ D i H, Pv D i H → H a = some (.tup xs))
    (hs : ∀ D i x H p, xs[i]? = some x → Pv D i H → H p = none → g (.ref p) (wipe σ vs) (upd H p (.tup [.int (i : Nat), x])) fun σ2 H2 => wipe σ2 vs = wipe σ vs ∧ tt σ2 H2 fun b H3 =>
      if b = true then te σ2 H3 fun y H4 => ∃ acc, H4 D = some (.lst acc) ∧ acc.length < sizeLine ∧ Pv D (i + 1) (upd H4 D (.lst (acc ++ [y]))) else Pv D (i + 1) H3)
    (hd : ∀ D H, Pv D xs.length H → Q (.ref D) H) : tLc (fun _ H R => R (IteT K a) H) g tt te vs σ H Q := by
  intro D hD
  refine ⟨fun i m H => m = xs.length - i ∧ i ≤ xs.length ∧ Pv D i H, ⟨_, rfl, Nat.zero_le _, h0 D hD⟩, ?_⟩
  rintro i m H ⟨rfl, hi, p⟩
  have at_ := hl D i H p
  by_cases lt : i < xs.length
  · refine Or.inr ⟨⟨xs, xs[i], SqT.of at_, List.getElem?_eq_getElem lt⟩, Pv D (i + 1), fun H' p' => ⟨xs.length - (i + 1), by omega, rfl, lt, p'⟩, ?_⟩
    rintro x H' ⟨T, y, rfl, n, rfl, hy⟩
    exact hs D i y H T (hy xs (SqT.of at_)) p n
  · have e : i = xs.length := by omega
    subst e
    exact Or.inl ⟨⟨xs, SqT.of at_, Nat.le_refl _⟩, hd D H p⟩
theorem c_enumP (R : Nat → Hp → List V → Prop) (hR : ∀ i H H' acc, TupKeep H H' → R i H acc → R i H' acc) (ha : H a = some (.tup xs)) (hz : xs.length ≤ 1000000) (h0 : R 0 H [])
    (hs : ∀ i x p H' acc (Kt : V → Hp → Prop) (Kf : Hp → Prop), xs[i]? = some x → Same H H' → R i H' acc → acc.length ≤ i → H' p = some (.tup [.int (i : Nat), x]) →
      (∀ y H4, Same H' H4 → R (i + 1) H4 (acc ++ [y]) → Kt y H4) → (∀ H3, Same H' H3 → R (i + 1) H3 acc → Kf H3) →
      g (.ref p) (wipe σ vs) H' fun σ2 H2 => wipe σ2 vs = wipe σ vs ∧ tt σ2 H2 fun b H3 => if b = true then te σ2 H3 Kt else Kf H3)
    (hd : ∀ D H' acc, H D = none → Same H H' → H' D = some (.lst acc) → acc.length ≤ xs.length → R xs.length H' acc → Q (.ref D) H') : tLc (fun _ H R => R (IteT K a) H) g tt te vs σ H Q := by
  refine c_enumT (xs := xs) (fun D i H' => H D = none ∧ Same H H' ∧ ∃ acc, H' D = some (.lst acc) ∧ acc.length ≤ i ∧ R i H' acc)
    (fun D hD => ⟨hD, same_new hD, [], upd_same, Nat.le_refl _, hR _ _ _ _ (TupKeep.upd hD) h0⟩) (fun D i H' q => q.2.1 _ _ ha) ?_ ?_
  · rintro D i x H' p hx ⟨nD, s, acc, e, hl, r⟩ hp
    have hi : i < xs.length := (List.getElem?_eq_some_iff.mp hx).1
    have sp := same_new (o := .tup [.int (i : Nat), x]) hp
    refine hs i x p _ acc _ _ hx (s.trans sp) (hR _ _ _ _ (TupKeep.upd hp) r) hl upd_same (fun y H4 s4 r4 => ?_) (fun H3 s3 r3 => ?_)
    · have e4 := s4 _ _ (sp _ _ e)
      exact ⟨acc, e4, small (by omega), nD, same_mut ((s.trans sp).trans s4) nD, acc ++ [y], upd_same, by rw [List.length_append]; show acc.length + 1 ≤ _; omega, hR _ _ _ _ (TupKeep.lst e4) r4⟩
    · exact ⟨nD, (s.trans sp).trans s3, acc, s3 _ _ (sp _ _ e), by omega, r3⟩
  · rintro D H' ⟨nD, s, acc, e, hl, r⟩
    exact hd D H' acc nD s e hl r
theorem g_lcE {K : PySem.W.Frag} (h : ta σ H fun us H1 => ∃ (a : Addr) (xs : List V), us = [.ref a] ∧ SqT K H1 a xs ∧ tLc (fun _ H R => R (IteT K a) H) g tt te vs σ H1 Q) : tLc (iEnumT K ta) g tt te vs σ H Q := h
end

/-! ### small data -/
structure Sm (m k n : Nat) (d : PyData) : Prop where
  s : d.showable = true
  l : d.leavesShort m = true
  b : d.bulk ≤ n
  p : d.depth ≤ k
  c : d.canLay0 = true
section
variable {m k n m' k' n' : Nat} {d e : PyData} {ds : List PyData} {K : PySem.W.Frag} {H H' : Hp} {v x y : V} {Q : VK}
theorem sms_all : ∀ {ds : List PyData}, (∀ d ∈ ds, Sm m k n d) → PyData.showableAll ds = true ∧ PyData.leavesShortAll m ds = true ∧ PyData.bulkAll ds ≤ ds.length * (n + 1) ∧ PyData.depthAll ds ≤ k ∧ PyData.canLayAll0 ds = true
  | [], _ => ⟨by simp only [PyData.showableAll], by simp only [PyData.leavesShortAll], by simp only [PyData.bulkAll]; omega, by simp only [PyData.depthAll]; omega, by simp only [PyData.canLayAll0]⟩
  | d :: ds, h => by
    have f := h d List.mem_cons_self
    obtain ⟨h1, h2, h3, h4, h5⟩ := sms_all (ds := ds) fun e m => h e (List.mem_cons_of_mem _ m)
    refine ⟨by simp only [PyData.showableAll, f.s, h1, Bool.and_self], by simp only [PyData.leavesShortAll, f.l, h2, Bool.and_self], ?_, ?_, by simp only [PyData.canLayAll0, f.c, h5, Bool.and_self]⟩
    · have := f.b
      simp only [PyData.bulkAll, List.length_cons, Nat.add_mul, Nat.one_mul]
      omega
    · have := f.p
      simp only [PyData.depthAll]
      omega
theorem sm_tup (h : ∀ d ∈ ds, Sm m k n d) (hk : k + 1 ≤ k') (hn : ds.length * (n + 1) ≤ n') : Sm m k' n' (.tuple ds) := by
  obtain ⟨h1, h2, h3, h4, h5⟩ := sms_all h
  exact ⟨by simpa only [PyData.showable] using h1, by simpa only [PyData.leavesShort] using h2, by simp only [PyData.bulk]; omega, by simp only [PyData.depth]; omega, by simpa only [PyData.canLay0] using h5⟩
theorem sm_lst (h : ∀ d ∈ ds, Sm m k n d) (hk : k + 1 ≤ k') (hn : ds.length * (n + 1) ≤ n') : Sm m k' n' (.list ds) := by
  obtain ⟨h1, h2, h3, h4, h5⟩ := sms_all h
  exact ⟨by simpa only [PyData.showable] using h1, by simpa only [PyData.leavesShort] using h2, by simp only [PyData.bulk]; omega, by simp only [PyData.depth]; omega, by simpa only [PyData.canLay0] using h5⟩
theorem sm_int {i : Int} {j : Nat} (h : i.natAbs < 10 ^ j) (hj : 0 < j) (hm : j + 1 ≤ m) (h5 : j ≤ 570) : Sm m 0 0 (.int i) := by
  have hl : i.natAbs.log2 < 1920 := by
    by_cases z : i.natAbs = 0
    · rw [z]
      decide
    · refine (Nat.log2_lt z).mpr (Nat.lt_of_lt_of_le h (Nat.le_trans (Nat.pow_le_pow_right (by decide) h5) ?_))
      decide +kernel
  have e := int_text_length_le10 (k := j) hj h
  refine ⟨by simp only [PyData.showable, hl, decide_true], ?_, by simp only [PyData.bulk]; omega, by simp only [PyData.depth]; omega, by simp only [PyData.canLay0]⟩
  simp only [PyData.leavesShort, PyData.shown, PySem.ofString_length, decide_eq_true_eq]
  omega
theorem sm_bool {b : Bool} : Sm m 0 0 (.bool b) := ⟨by simp only [PyData.showable], by simp only [PyData.leavesShort], by simp only [PyData.bulk]; omega, by simp only [PyData.depth]; omega, by simp only [PyData.canLay0]⟩
theorem sm_none : Sm m 0 0 .none := ⟨by simp only [PyData.showable], by simp only [PyData.leavesShort], by simp only [PyData.bulk]; omega, by simp only [PyData.depth]; omega, by simp only [PyData.canLay0]⟩
theorem Sm.up (f : Sm m k n d) (hk : k ≤ k') (hn : n ≤ n') : Sm m k' n' d := ⟨f.s, f.l, Nat.le_trans f.b hn, Nat.le_trans f.p hk, f.c⟩
theorem g_reprS (hd : Dp K H v d) (f : Sm 150 8 20000 d) (q : Q (.str d.shown) H) : rRepr K [v] H Q := by
  refine g_repr d hd f.s (Nat.le_trans f.p (by decide)) ?_ q
  have h1 := PyData.shown_le_bulk 150 (by decide) d f.l
  have h2 := f.b
  have h3 : (150 + 2) * d.bulk ≤ 152 * 20000 := Nat.mul_le_mul (by omega) h2
  rw [sizeLine_eq]
  omega
theorem Sm.shaped (f : Sm m k n d) (hk : k ≤ 60) : SeqAt.shaped d = true := by
  have := f.p
  simp only [SeqAt.shaped, f.c, Bool.true_and]
  exact decide_eq_true (by omega)
theorem g_eqF (hd : Dp K H x d) (he : Dp K H y e) (f : Sm 150 8 20000 d) (f' : Sm 150 8 20000 e) (q : Q (.bl (PyData.eqv d e)) H) : rEqD K x y H Q := ⟨d, e, hd, he, f.shaped (by decide), f'.shaped (by decide), q⟩
theorem g_neF (hd : Dp K H x d) (he : Dp K H y e) (f : Sm 150 8 20000 d) (f' : Sm 150 8 20000 e) (q : Q (.bl (!PyData.eqv d e)) H) : rNeD K x y H Q := ⟨d, e, hd, he, f.shaped (by decide), f'.shaped (by decide), q⟩
theorem g_eqR (hd : Dp K H x d) (he : Dp K H y d) (f : Sm 150 8 20000 d) (q : Q (.bl true) H) : rEqD K x y H Q := g_eqF hd he f f (by rw [SeqAt.eqv_refl d f.c]; exact q)
theorem g_neR (hd : Dp K H x d) (he : Dp K H y d) (f : Sm 150 8 20000 d) (q : Q (.bl false) H) : rNeD K x y H Q := g_neF hd he f f (by rw [SeqAt.eqv_refl d f.c]; exact q)
end
section
variable {K : PySem.W.Frag} {H H' : Hp}
theorem sqT_same {a : Addr} {xs : List V} (e : Same H H') (h : SqT K H a xs) : SqT K H' a xs := h.elim (fun h => .inl (h.elim (fun h => .inl (e _ _ h)) fun ⟨o, h⟩ => .inr ⟨o, e _ _ h⟩)) .inr
mutual
theorem dp_same (e : Same H H') : ∀ (d : PyData) (v : V), Dp K H v d → Dp K H' v d
  | .none, _, h => by cases h; exact .non
  | .bool _, _, h => by cases h; exact .bl _
  | .int _, _, h => by cases h; exact .int _
  | .str _, _, h => by cases h; exact .str _
  | .list ds, _, h => by
    cases h with
    | lst h r => exact .lst (e.seq h) (dpAll_same e ds _ r)
  | .tuple ds, _, h => by
    cases h with
    | tup h r => exact .tup (sqT_same e h) (dpAll_same e ds _ r)
  | .dict _, _, h => by cases h
theorem dpAll_same (e : Same H H') : ∀ (ds : List PyData) (vs : List V), DpAll K H vs ds → DpAll K H' vs ds
  | [], _, h => by cases h; exact .nil
  | d :: ds, _, h => by
    cases h with
    | cons h t => exact .cons (dp_same e d _ h) (dpAll_same e ds _ t)
end
theorem DpAll.app : ∀ {vs ws : List V} {ds es : List PyData}, DpAll K H vs ds → DpAll K H ws es → DpAll K H (vs ++ ws) (ds ++ es)
  | _, _, _, _, .nil, s => s
  | _, _, _, _, .cons h t, s => .cons h (DpAll.app t s)
theorem DpAll.rev : ∀ {vs : List V} {ds : List PyData}, DpAll K H vs ds → DpAll K H vs.reverse ds.reverse
  | _, _, .nil => .nil
  | _, _, .cons h t => by
    rw [List.reverse_cons, List.reverse_cons]
    exact DpAll.app (DpAll.rev t) (.cons h .nil)
theorem DpAll.get : ∀ {vs : List V} {ds : List PyData}, DpAll K H vs ds → ∀ {i : Nat} {v : V}, vs[i]? = some v → ∃ d, ds[i]? = some d ∧ Dp K H v d
  | _, _, .nil, _, _, e => by simp at e
  | _, _, .cons h _, 0, _, e => by
    simp at e
    subst e
    exact ⟨_, rfl, h⟩
  | _, _, .cons _ t, i + 1, v, e => by
    obtain ⟨p, h1, h2⟩ := DpAll.get (i := i) (v := v) t (by simpa using e)
    exact ⟨p, by simpa using h1, h2⟩
theorem DpAll.len : ∀ {vs : List V} {ds : List PyData}, DpAll K H vs ds → vs.length = ds.length
  | _, _, .nil => rfl
  | _, _, .cons _ t => congrArg (· + 1) (DpAll.len t)
/-- a heap without one thing -/
def hid (L : Addr) (H : Hp) : Hp := fun b => if b = L then none else H b
theorem hid_same {L : Addr} : Same (hid L H) H := fun b o e => by
  unfold hid at e
  by_cases z : b = L
  · rw [if_pos z] at e
    cases e
  · rw [if_neg z] at e
    exact e
theorem hid_ne {L b : Addr} (h : b ≠ L) : hid L H b = H b := if_neg h
theorem hid_upd {L : Addr} {o : HO} : hid L (L2.upd H L o) = hid L H := by
  funext b
  by_cases z : b = L
  · subst z
    simp [hid]
  · rw [hid_ne z, hid_ne z, upd_ne z]
theorem hid_mono {L : Addr} (s : Same H H') : Same (hid L H) (hid L H') := fun b o e => by
  by_cases z : b = L
  · subst z
    simp [hid] at e
  · rw [hid_ne z] at e ⊢
    exact s _ _ e
theorem tk_hid {L : Addr} {ys : List V} (s : Same (hid L H) (hid L H')) (h : H L = some (.lst ys)) : TupKeep H H' := fun b xs e => by
  have n : b ≠ L := ne_of e h (by intro z; cases z)
  have := s b _ (by rw [hid_ne n]; exact e)
  rw [hid_ne n] at this
  exact this
theorem gr_hid {D : Dk} {H0 : Hp} {L : Addr} (g : Gr D H0 H) (dk : DeckAt D H0) (n : H0 L = none) (s : Same (hid L H) (hid L H')) : Gr D H0 H' := by
  have go : ∀ b o, b ≠ L → H b = some o → H' b = some o := fun b o z e => by
    have := s b o (by rw [hid_ne z]; exact e)
    rw [hid_ne z] at this
    exact this
  obtain ⟨n0, n1, n2⟩ := dk.ne n
  obtain ⟨bs, cs, c, h0, h1, h2, h3⟩ := g.at_.ex
  refine ⟨⟨⟨bs, cs, c, go _ _ n0.symm h0, go _ _ n1.symm h1, go _ _ n2.symm h2, h3⟩, g.at_.n0, g.at_.n1, g.at_.n2, fun b z => ?_⟩, fun b o e m0 m1 => ?_⟩
  · obtain ⟨ys, e⟩ := g.at_.nx b z
    exact ⟨ys, go b _ (fun w => dk.isno n (by rw [← w]; exact z)) e⟩
  · exact go b o (fun w => by subst w; rw [n] at e; cases e) (g.keep b o e m0 m1)
/-! ### lots as data -/
def pairD (p : Int × Int) : PyData := .tuple [.int p.1, .int p.2]
def lotD (lot : List (Int × Int)) : PyData := .tuple (lot.map pairD)
theorem PairAt.dp {v : V} {p : Int × Int} (h : PairAt H v p) : Dp K H v (pairD p) := by
  obtain ⟨a, rfl, h⟩ := h
  exact .tup (SqT.of h) (.cons (.int _) (.cons (.int _) .nil))
theorem PairsAt.dp : ∀ {vs : List V} {ps : List (Int × Int)}, PairsAt H vs ps → DpAll K H vs (ps.map pairD)
  | _, _, .nil => .nil
  | _, _, .cons h t => .cons (PairAt.dp h) (PairsAt.dp t)
theorem LotAt.dp {a : Addr} {lot : List (Int × Int)} (h : LotAt H a lot) : Dp K H (.ref a) (lotD lot) := by
  obtain ⟨vs, e, r⟩ := h.ex
  exact .tup (SqT.of e) r.dp
theorem sm_pair {m j : Nat} {p : Int × Int} (h1 : p.1.natAbs < 10 ^ j) (h2 : p.2.natAbs < 10 ^ j) (hj : 0 < j) (hm : j + 1 ≤ m) (h5 : j ≤ 570) : Sm m 1 2 (pairD p) := by
  refine sm_tup (k := 0) (n := 0) (fun d hd => ?_) (Nat.le_refl _) (Nat.le_refl _)
  rcases List.mem_cons.mp hd with rfl | hd
  · exact sm_int h1 hj hm h5
  · rw [List.mem_singleton.mp hd]
    exact sm_int h2 hj hm h5
theorem sm_pairs {m j n : Nat} {lot : List (Int × Int)} (h : ∀ p ∈ lot, p.1.natAbs < 10 ^ j ∧ p.2.natAbs < 10 ^ j) (hj : 0 < j) (hm : j + 1 ≤ m) (h5 : j ≤ 570) (hn : lot.length * 3 ≤ n) : Sm m 2 n (lotD lot) := by
  refine sm_tup (k := 1) (n := 2) (fun d hd => ?_) (Nat.le_refl _) (by rw [List.length_map]; exact hn)
  obtain ⟨p, hp, rfl⟩ := List.mem_map.mp hd
  exact sm_pair (h p hp).1 (h p hp).2 hj hm h5
theorem sm_lot {lot : List (Int × Int)} (hl : lot.length ≤ 1000) (h : ∀ p ∈ lot, WOk p) : Sm 150 8 20000 (lotD lot) := by
  refine (sm_pairs (m := 150) (j := 13) (n := 3000) (fun p hp => ?_) (by decide) (by decide) (by decide) (by omega)).up (by decide) (by decide)
  obtain ⟨h1, h2, h3, h4⟩ := h p hp
  have e : (10 : Nat) ^ 13 = 10000000000000 := by decide
  rw [e]
  omega
theorem eqv_lot_nil {lot : List (Int × Int)} : PyData.eqv (lotD lot) (.tuple []) = lot.isEmpty := by
  cases lot <;> simp [lotD, PyData.eqv, PyData.eqvAll]
instance (p : Int × Int) : Decidable (WOk p) := by unfold WOk; infer_instance
/-- a lot of watches, as it stands -/
structure Lot (H : Hp) (a : Addr) (lot : List (Int × Int)) : Prop where
  at_ : LotAt H a lot
  len : lot.length ≤ 10
  ok : ∀ p ∈ lot, WOk p
theorem Lot.go {a : Addr} {lot : List (Int × Int)} (h : Lot H a lot) (k : TupKeep H H') : Lot H' a lot := ⟨h.at_.go k, h.len, h.ok⟩
theorem Lot.mk' {a : Addr} {vs : List V} {lot : List (Int × Int)} (h : H a = some (.tup vs)) (r : PairsAt H vs lot) (hl : lot.length ≤ 10) (hw : ∀ p ∈ lot, WOk p) : Lot H a lot := ⟨⟨vs, h, r⟩, hl, hw⟩
theorem Lot.sm {a : Addr} {lot : List (Int × Int)} (h : Lot H a lot) : Sm 150 8 20000 (lotD lot) := sm_lot (by have := h.len; omega) h.ok
theorem Lot.dp {a : Addr} {lot : List (Int × Int)} (h : Lot H a lot) : Dp K H (.ref a) (lotD lot) := h.at_.dp
theorem Lot.vs {a : Addr} {lot : List (Int × Int)} (h : Lot H a lot) : ∃ vs, H a = some (.tup vs) ∧ PairsAt H vs lot ∧ vs.length = lot.length := by
  obtain ⟨vs, e, r⟩ := h.at_.ex
  exact ⟨vs, e, r, r.len⟩
theorem Lot.bd {a : Addr} {lot : List (Int × Int)} (h : Lot H a lot) : ∀ p ∈ lot, 1 ≤ p.1 ∧ p.1 ≤ 1000000000000 := fun p m => ⟨(h.ok p m).1, (h.ok p m).2.1⟩
theorem sm_nil : Sm 150 8 20000 (.tuple []) := (sm_tup (m := 150) (k := 0) (n := 0) (k' := 1) (n' := 0) (ds := []) (fun _ h => nomatch h) (Nat.le_refl _) (by decide)).up (by decide) (by decide)
/-- lot != () -/
theorem g_neNilT {a p : Addr} {lot : List (Int × Int)} {Q : VK} (h : Lot H a lot) (hp : H p = some (.tup [])) (q : Q (.bl (!lot.isEmpty)) H) : rNeD K (.ref a) (.ref p) H Q :=
  g_neF h.dp (.tup (SqT.of hp) .nil) h.sm sm_nil (by rw [eqv_lot_nil]; exact q)
theorem g_eqNilT {a p : Addr} {lot : List (Int × Int)} {Q : VK} (h : Lot H a lot) (hp : H p = some (.tup [])) (q : Q (.bl lot.isEmpty) H) : rEqD K (.ref a) (.ref p) H Q :=
  g_eqF h.dp (.tup (SqT.of hp) .nil) h.sm sm_nil (by rw [eqv_lot_nil]; exact q)
end
/-! ### which watches hold a day -/
/-- whether a watch holds a day -/
def Hld (p : Int × Int) (d : Int) : Bool := decide ((d - p.2) % p.1 = 0)
theorem hld_mod {p : Int × Int} (h : WOk p) (d : Int) : Hld p d = decide (d % p.1 = p.2) := by
  unfold Hld
  obtain ⟨h1, h2, h3, h4⟩ := h
  have e : (d - p.2) % p.1 = 0 ↔ d % p.1 = p.2 := by
    constructor
    · intro z
      have q := Int.emod_emod_of_dvd d (Int.dvd_refl p.1)
      have y : d % p.1 = p.2 % p.1 := Int.emod_eq_emod_iff_emod_sub_eq_zero.mpr z
      rw [y, Int.emod_eq_of_lt h3 h4]
    · intro z
      refine Int.emod_eq_emod_iff_emod_sub_eq_zero.mp ?_
      rw [z, Int.emod_eq_of_lt h3 h4]
  simp only [e]
/-- .. of the first n watches -/
def heldUp (lot : List (Int × Int)) (d : Int) (n : Nat) : List Int := List.map (fun i : Nat => (i : Int)) ((List.range n).filter fun i => (lot[i]?).any fun p => Hld p d)
theorem heldUp_step {lot : List (Int × Int)} {d : Int} {n : Nat} {p : Int × Int} (h : lot[n]? = some p) : heldUp lot d (n + 1) = heldUp lot d n ++ (if Hld p d = true then [(n : Int)] else []) := by
  unfold heldUp
  rw [List.range_succ, List.filter_append, List.map_append]
  congr 1
  by_cases z : Hld p d = true
  · simp [h, z]
  · simp [h, z]
theorem heldUp_len {lot : List (Int × Int)} {d : Int} {n : Nat} : (heldUp lot d n).length ≤ n := by
  unfold heldUp
  rw [List.length_map]
  exact Nat.le_trans (List.length_filter_le _ _) (by rw [List.length_range]; exact Nat.le_refl _)
theorem heldUp_mem {lot : List (Int × Int)} {d : Int} {n : Nat} : ∀ i ∈ heldUp lot d n, 0 ≤ i ∧ i < n := by
  intro i hi
  unfold heldUp at hi
  obtain ⟨j, hj, rfl⟩ := List.mem_map.mp hi
  have := List.mem_range.mp (List.mem_filter.mp hj).1
  omega
def heldIx (lot : List (Int × Int)) (d : Int) : List Int := heldUp lot d lot.length
/-! ### slices, sums of tuples -/
section
variable {K : PySem.W.Frag} {H H' : Hp} {a b : Addr} {xs ys : List V} {Q : VK} {lo hi : Option Int}
theorem g_catB (ha : H a = some (.tup xs)) (hb : H b = some (.tup ys)) (hz : xs.length + ys.length ≤ 1000000) (q : ∀ p H', Same H H' → H' p = some (.tup (xs ++ ys)) → Q (.ref p) H') : rCatA K (.ref a) (.ref b) H Q := by
  refine ⟨a, b, xs, ys, rfl, rfl, SqT.of ha, SqT.of hb, Nat.le_of_lt (small hz), fun e => ?_, fun _ e => ?_, fun _ _ p hp => q p _ (same_new hp) upd_same⟩
  · subst e
    exact q b H (Same.refl _) hb
  · subst e
    exact q a H (Same.refl _) (by rw [List.append_nil]; exact ha)
theorem cut_whole {xs : List V} {lo hi : Option Int} (h : HT.sIx xs.length 0 lo = 0 ∧ HT.sIx xs.length xs.length hi = xs.length) : cutV xs lo hi = xs := by
  unfold cutV
  rw [h.1, h.2, List.drop_zero, Nat.sub_zero, List.take_length]
theorem g_slB (ha : H a = some (.tup xs)) (q : ∀ p H', Same H H' → H' p = some (.tup (cutV xs lo hi)) → Q (.ref p) H') : rSlA K (.ref a) lo hi H Q :=
  ⟨a, xs, rfl, SqT.of ha, fun e => q a H (Same.refl _) (by rw [cut_whole e]; exact ha), fun _ p hp => q p _ (same_new hp) upd_same⟩
theorem cut_last (xs : List V) : cutV xs none (some (-1)) = xs.take (xs.length - 1) := by
  unfold cutV
  have e : HT.sIx xs.length xs.length (some (-1)) = xs.length - 1 := by
    simp only [HT.sIx]
    split <;> omega
  rw [e, HT.sIx_none, List.drop_zero, Nat.sub_zero]
end
/-! ### lists of lists, as data -/
section
variable {K : PySem.W.Frag} {g : TG} {σ : L2.St} {H : Hp} {tt : TT} {te : TE} {vs : List Nat} {Q : VK} {a : Addr} {xs : List V}
theorem dpAll_hid {L : Addr} {H' : Hp} {vs : List V} {ds : List PyData} (h : DpAll K (hid L H) vs ds) (s : Same H H') : DpAll K (hid L H') vs ds := dpAll_same (hid_mono s) _ _ h
theorem c_lstD (ds : List PyData) (ha : H a = some (.lst xs)) (hz : xs.length ≤ 1000000) (hn : ds.length = xs.length)
    (hs : ∀ (i : Nat) x d D H' acc (Kt : V → Hp → Prop) (Kf : Hp → Prop), xs[i]? = some x → ds[i]? = some d → Same H H' → H' D = some (.lst acc) →
      (∀ y H4, Same H' H4 → Dp K (hid D H4) y d → Kt y H4) →
      g x (wipe σ vs) H' fun σ2 H2 => wipe σ2 vs = wipe σ vs ∧ tt σ2 H2 fun b H3 => if b = true then te σ2 H3 Kt else Kf H3)
    (hd : ∀ D H' acc, H D = none → Same H H' → H' D = some (.lst acc) → DpAll K H' acc ds → Q (.ref D) H') : tLc (fun _ H R => R (Itl K a) H) g tt te vs σ H Q := by
  refine c_list (xs := xs) (fun D i H' => H D = none ∧ Same H H' ∧ ∃ acc, H' D = some (.lst acc) ∧ acc.length ≤ i ∧ DpAll K (hid D H') acc (ds.take i))
    (fun D hD => ⟨hD, same_new hD, [], upd_same, Nat.le_refl _, .nil⟩) (fun D i H' q => SqL.of (q.2.1 _ _ ha)) ?_ ?_
  · rintro D i x H' hx ⟨nD, s, acc, e, hl, r⟩
    have hi : i < xs.length := (List.getElem?_eq_some_iff.mp hx).1
    have hd' : ds[i]? = some ds[i] := List.getElem?_eq_getElem (by omega)
    refine hs i x _ D H' acc _ _ hx hd' s e (fun y H4 s4 r4 => ?_)
    refine ⟨acc, s4 _ _ e, small (by omega), nD, same_mut (s.trans s4) nD, acc ++ [y], upd_same, by rw [List.length_append]; show acc.length + 1 ≤ _; omega, ?_⟩
    rw [hid_upd, take_step hd']
    exact DpAll.app (dpAll_hid r s4) (.cons r4 .nil)
  · rintro D H' ⟨nD, s, acc, e, hl, r⟩
    rw [← hn, List.take_length] at r
    exact hd D H' acc nD s e (dpAll_same hid_same _ _ r)
end
theorem atI_last (xs : List V) (v : V) : atI (xs ++ [v]) (-1) = some v := by
  have e : ixN (xs ++ [v]).length (-1) = some xs.length := by
    unfold ixN
    rw [if_neg (by omega), List.length_append, if_pos (by show -((xs.length + 1 : Nat) : Int) ≤ -1; omega)]
    show some ((-1 : Int) + ((xs.length + 1 : Nat) : Int)).toNat = _
    congr 1
    omega
  unfold atI
  rw [e]
  simp
theorem g_listRg {te : L2.St → Hp → (Int → Int → Hp → Prop) → Prop} {σ : L2.St} {H : Hp} {Q : VK} (h : te σ H fun a b H1 => RgOk a b ∧ ∀ q, H1 q = none → Q (.ref q) (upd H1 q (.lst (rgV a b)))) : tLstRg te σ H Q := h
theorem g_tupRg {te : L2.St → Hp → (Int → Int → Hp → Prop) → Prop} {σ : L2.St} {H : Hp} {Q : VK} (h : te σ H fun a b H1 => RgOk a b ∧ ∀ q, H1 q = none → Q (.ref q) (upd H1 q (.tup (rgV a b)))) : tTupRg te σ H Q := h
theorem g_rg1 {ta : TE} {σ : L2.St} {H : Hp} {Q : Int → Int → Hp → Prop} (h : ta σ H fun x H1 => ∃ n, x = .int n ∧ Q 0 n H1) : tRg1 ta σ H Q := h
theorem g_rg2 {ta tb : TE} {σ : L2.St} {H : Hp} {Q : Int → Int → Hp → Prop} (h : ta σ H fun x H1 => tb σ H1 fun y H2 => ∃ i j, x = .int i ∧ y = .int j ∧ Q i j H2) : tRg2 ta tb σ H Q := h
theorem g_rev {K : PySem.W.Frag} {te : TE} {σ : L2.St} {H : Hp} {Q : VK} (h : te σ H fun x H1 => ∃ a xs, x = .ref a ∧ SqL K H1 a xs ∧ ∀ p, H1 p = none → Q (.ref p) (upd H1 p (.lst xs.reverse))) : tRevL K te σ H Q := h
/-! ### what is due of a day -/
section
variable {K : PySem.W.Frag} {H : Hp}
/-- how many watches hold a day -/
def tallyZ (lot : List (Int × Int)) (d : Int) : Int := ((heldIx lot d).length : Int)
theorem sm_ints {ns : List Int} {n : Nat} (h : ∀ i ∈ ns, i.natAbs < 10 ^ 39) (hl : ns.length ≤ n) : Sm 150 1 n (.tuple (ns.map PyData.int)) := by
  refine sm_tup (k := 0) (n := 0) (fun d hd => ?_) (Nat.le_refl _) (by rw [List.length_map]; omega)
  obtain ⟨i, hi, rfl⟩ := List.mem_map.mp hd
  exact sm_int (h i hi) (by decide) (by decide) (by decide)
theorem held_small {lot : List (Int × Int)} {d : Int} (hl : lot.length ≤ 10) : (∀ i ∈ heldIx lot d, i.natAbs < 10 ^ 39) ∧ (heldIx lot d).length ≤ 10 := by
  refine ⟨fun i hi => ?_, Nat.le_trans heldUp_len hl⟩
  have := heldUp_mem i hi
  exact Nat.lt_of_lt_of_le (show i.natAbs < 10 by omega) (by decide)
theorem tally_small {lot : List (Int × Int)} {d : Int} (hl : lot.length ≤ 10) : 0 ≤ tallyZ lot d ∧ tallyZ lot d ≤ 10 := by
  have := (held_small (d := d) hl).2
  unfold tallyZ
  omega
end
def spTally : Sp := fun vs H Q _ => ∃ (a : Addr) (lot : List (Int × Int)) (d : Int), vs = [.ref a, .int d] ∧ Lot H a lot ∧
  ∀ H', Same H H' → Q (.int (tallyZ lot d)) H'
theorem heldUp_filter {lot : List (Int × Int)} {d : Int} : ∀ n, n ≤ lot.length → (heldUp lot d n).length = ((lot.take n).filter fun p => Hld p d).length
  | 0, _ => rfl
  | n + 1, h => by
    have hn : n < lot.length := h
    have e := List.getElem?_eq_getElem hn
    rw [heldUp_step e, take_step e, List.filter_append, List.length_append, List.length_append, heldUp_filter n (by omega)]
    congr 1
    by_cases z : Hld lot[n] d = true
    · simp [z]
    · simp [z]
theorem tally_filter {lot : List (Int × Int)} {d : Int} : tallyZ lot d = ((lot.filter fun p => Hld p d).length : Int) := by
  unfold tallyZ heldIx
  rw [heldUp_filter _ (Nat.le_refl _), List.take_length]
/-- a statement that is never come to -/
theorem ps_never {X : Cx} {st : Stmt} : PS X st (fun _ _ _ => False) := ⟨fun _ _ _ _ _ _ h => h.elim⟩
end DW
/-! DWZip: zip of a list and a tuple, either way. -/
namespace DW
open PySem PySem.Spec PyProof.Rows L2
/-- a list or a tuple -/
def SqB : Bool → PySem.W.Frag → Hp → Addr → List V → Prop
  | true => SqT
  | false => SqL
/-- an iterator of one -/
def ItB : Bool → Heap → Addr → Addr → Nat → Prop
  | true => fun h it a i => h.IsTupleIter it a i
  | false => fun h it a i => h.IsListIter it a i
theorem ItB.fld {k : Bool} {h : Heap} {it a : Addr} {i : Nat} (z : ItB k h it a i) : ∃ o fs, h.get? it = some o ∧ o.data = .fields fs := by
  cases k with
  | true => exact (let ⟨o, e, _, d⟩ := (show h.IsTupleIter it a i from z); ⟨o, _, e, d⟩)
  | false => exact (let ⟨o, e, _, d⟩ := (show h.IsListIter it a i from z); ⟨o, _, e, d⟩)
theorem ItB.at {k : Bool} {h h' : Heap} {it a : Addr} {i : Nat} (z : ItB k h it a i) (q : ∀ o, h.get? it = some o → h'.get? it = some o) : ItB k h' it a i := by
  cases k with
  | true => exact (show h.IsTupleIter it a i from z).at q
  | false => exact (show h.IsListIter it a i from z).at q
section
variable {X : Cx} {pins : List (Addr × Obj)} {σ : L2.St} {H : Hp} {s : Shared}
theorem drawB {k : Bool} {a it : Addr} {xs : List V} (I : Inv X pins σ H s) (hq : SqB k X.K H a xs) (hh : X.A.in1.handled = none) (ne : a ≠ it) :
    ∃ (its : List Value) (S : Heap → Prop), Vals xs its ∧ S s.heap ∧ Draws X.prog X.w X.A.in1 it [it, a] its.toArray.size (fun i v => its.toArray[i]? = some v) (fun i h => ItB k h it a i ∧ S h) ∧
      (∀ ys, SqB k X.K H a ys → ys = xs) ∧ a < s.heap.objs.size := by
  cases k with
  | true =>
    have hq : SqT X.K H a xs := hq
    obtain ⟨its, rv, p, _⟩ := I.tuple hq
    refine ⟨its, fun h => h.IsTuple a its.toArray, rv, p, Draws.tuple hh it a ne its.toArray, fun ys hy => I.tuple_inj hy hq, ?_⟩
    obtain ⟨o, ho, _⟩ := id p
    exact Heap.lt_size ho
  | false =>
    have hq : SqL X.K H a xs := hq
    obtain ⟨its, rv, p, _⟩ := I.list hq
    exact ⟨its, fun h => h.IsList a its.toArray, rv, p.isList, Draws.list hh it a ne its.toArray, fun ys hy => I.list_inj hy hq, p.lt⟩
end
/-- both as they stand at each turn, the items in new pairs -/
def ItzB (k1 k2 : Bool) (K : PySem.W.Frag) (a b : Addr) : It where
  go := fun i H => ∃ (xs ys : List V) (x y : V), SqB k1 K H a xs ∧ SqB k2 K H b ys ∧ xs[i]? = some x ∧ ys[i]? = some y
  yld := fun i H v H' => ∃ p x y, v = .ref p ∧ H p = none ∧ H' = L2.upd H p (.tup [x, y]) ∧ (∀ l, SqB k1 K H a l → l[i]? = some x) ∧ (∀ l, SqB k2 K H b l → l[i]? = some y)
  stop := fun i H => ∃ (xs ys : List V), SqB k1 K H a xs ∧ SqB k2 K H b ys ∧ i ≤ xs.length ∧ i ≤ ys.length ∧ (xs.length ≤ i ∨ ys.length ≤ i)
section
variable {z t o p q a b x : Addr}
theorem five {R : Addr → Prop} (h : R z ∧ R t ∧ R o ∧ R p ∧ R q) : ∀ c ∈ [z, t, o, p, q], R c := by
  obtain ⟨h1, h2, h3, h4, h5⟩ := h
  intro c m
  simp only [List.mem_cons, List.not_mem_nil, or_false] at m
  rcases m with m | m | m | m | m <;> subst m <;> assumption
theorem five_not (h : x ∉ [z, t, o, p, q]) : x ≠ z ∧ x ≠ t ∧ x ≠ o ∧ x ≠ p ∧ x ≠ q := by
  simp only [List.mem_cons, List.not_mem_nil, or_false, not_or] at h
  exact h
theorem two_not (h1 : x ≠ p) (h2 : x ≠ a) : x ∉ [p, a] := by
  simp only [List.mem_cons, List.not_mem_nil, or_false, not_or]
  exact ⟨h1, h2⟩
/-- the five cells of a zip lie apart from each other and from what is gone through -/
theorem sep_of (D : ZipApart z t o p q a b) : ZipSep2 z t o p q [p, a] [q, b] :=
  ⟨D.TIz, D.TOz, D.TITO, D.TIi1, List.mem_cons_self, two_not D.i1z.symm D.l1z.symm, two_not D.TOi1 D.l1TO.symm, D.TIi2, List.mem_cons_self,
    two_not D.i2z.symm D.l2z.symm, two_not D.TOi2 D.l2TO.symm, two_not D.i12 D.l2i1.symm, two_not D.i12.symm D.l1i2.symm⟩
/-- a zip that has given i pairs -/
structure ZipSt (k1 k2 : Bool) (z t o p q a b : Addr) (i : Nat) (h : Heap) : Prop where
  zip : IsZip h z t o .none
  its : IsTupOf2 h t (.ref p) (.ref q)
  last : ∃ u v, IsTupOf2 h o u v
  one : ItB k1 h p a i
  two : ItB k2 h q b i
variable {k1 k2 : Bool} {i : Nat} {h h' : Heap}
theorem ZipSt.there (S : ZipSt k1 k2 z t o p q a b i h) : ∀ c ∈ [z, t, o, p, q], ∃ ob, h.get? c = some ob ∧ ∀ v, ob.data ≠ .cell v := by
  obtain ⟨u, v, e⟩ := S.last
  obtain ⟨o1, f1, e1, d1⟩ := S.one.fld
  obtain ⟨o2, f2, e2, d2⟩ := S.two.fld
  exact five ⟨⟨_, S.zip, nofun⟩, ⟨_, S.its, nofun⟩, ⟨_, e, nofun⟩, ⟨o1, e1, by rw [d1]; exact nofun⟩, ⟨o2, e2, by rw [d2]; exact nofun⟩⟩
theorem ZipSt.move (S : ZipSt k1 k2 z t o p q a b i h) (m : ∀ c ∈ [z, t, o, p, q], ∀ ob, h.get? c = some ob → h'.get? c = some ob) : ZipSt k1 k2 z t o p q a b i h' := by
  obtain ⟨u, v, e⟩ := S.last
  refine ⟨m z ?_ _ S.zip, m t ?_ _ S.its, ⟨u, v, m o ?_ _ e⟩, S.one.at (m p ?_), S.two.at (m q ?_)⟩
  all_goals simp
end
theorem turn_zipB {k1 k2 : Bool} {P : Program} {w : World} {K : PySem.W.Frag} {elts : List Expr} {kk : Nat} {tpos : Pos} {z t o p q a b : Addr} (D : ZipApart z t o p q a b) :
    Turn P w K (.Tuple elts kk tpos) (ItzB k1 k2 K a b) [z, t, o, p, q] z (ZipSt k1 k2 z t o p q a b) := by
  constructor
  case mem => exact List.mem_cons_self
  case obj => exact fun _ _ S => S.there
  case keep => exact fun _ _ _ S m => S.move m
  case self => exact fun _ _ _ _ _ S r => wpAny_pyIter_zip S.zip r
  case item =>
    rintro X rfl rfl rfl calm n pins s σ H E I fp S ⟨xs, ys, x, y, qa, qb, ha, hb⟩
    obtain ⟨us, S1, ru, c1, dr1, inj1, _⟩ := drawB I qa (I.ok.hd calm) D.l1i1
    obtain ⟨ws, S2, rw', c2, dr2, inj2, _⟩ := drawB I qb (I.ok.hd calm) D.l2i2
    have ha : xs[n]? = some x := ha
    have hb : ys[n]? = some y := hb
    obtain ⟨u, eu, rx⟩ := ru.get ha
    obtain ⟨v, ev, ry⟩ := rw'.get hb
    have n1 : n < us.toArray.size := (List.getElem?_eq_some_iff.mp eu).1
    have n2 : n < ws.toArray.size := (List.getElem?_eq_some_iff.mp ev).1
    obtain ⟨_, _, el⟩ := S.last
    have inz := Heap.lt_size S.zip
    refine wpAny_pyNext_zipD2_item (sep_of D) dr1 dr2 S.zip S.its el ⟨S.one, c1⟩ ⟨S.two, c2⟩ n1 n2 ?_
    rintro u2 v2 g tk (eu2 : us.toArray[n]? = some u2) (ev2 : ws.toArray[n]? = some v2) zg og st1 st2 pg _ kept
    obtain rfl : u = u2 := Option.some.inj ((by rw [List.getElem?_toArray]; exact eu.symm : some u = us.toArray[n]?).trans eu2)
    obtain rfl : v = v2 := Option.some.inj ((by rw [List.getElem?_toArray]; exact ev.symm : some v = ws.toArray[n]?).trans ev2)
    refine ⟨_, rfl, wpAny_letOwnedTupleGo_zip (s := { s with heap := g, toks := tk }) zg fun g' zg' same => ?_⟩
    have new := same.2 s.heap.objs.size (Nat.ne_of_gt inz)
    have stay : ∀ c ob, c ∉ [z, t, o, p, q] → s.heap.get? c = some ob → g'.get? c = some ob := fun c ob out e => by
      obtain ⟨c1, c2, c3, c4, c5⟩ := five_not out
      exact (same.2 c c1).trans (kept c ob c1 c3 c4 c5 e)
    have obj : ObjOk X.prog X.w (L2.upd H s.heap.objs.size (.tup [x, y])) g' s.heap.objs.size (.tup [x, y]) :=
      ⟨(by decide : 2 ≤ sizeLine), _, .cons rx (.cons ry .nil), _, new.trans pg, rfl, _, rfl⟩
    have J := I.turnedNew (t' := tk) (ch := [z, t, o, p, q]) stay fp (Nat.le_refl _) obj
    refine ⟨.ref s.heap.objs.size, _, J, rfl, ⟨_, x, y, rfl, I.fresh, rfl, fun l q => ?_, fun l q => ?_⟩, ⟨zg', ?_, ⟨u, v, ?_⟩, ?_, ?_⟩, fun c m => ?_⟩
    · exact (inj1 l q).symm ▸ ha
    · exact (inj2 l q).symm ▸ hb
    · exact (same.2 t D.TIz).trans (kept t _ D.TIz D.TITO D.TIi1 D.TIi2 S.its)
    · exact (same.2 o D.TOz).trans og
    · exact st1.1.at fun _ e => (same.2 p D.i1z).trans e
    · exact st2.1.at fun _ e => (same.2 q D.i2z).trans e
    · obtain ⟨ob, e, _⟩ := S.there c m
      exact (upd_ne (Nat.ne_of_lt (Heap.lt_size e))).trans (fp c m).1
  case done =>
    rintro X rfl rfl rfl calm n pins s σ H E I fp S ⟨xs, ys, qa, qb, le1, le2, last⟩
    obtain ⟨us, S1, ru, c1, dr1, _, _⟩ := drawB I qa (I.ok.hd calm) D.l1i1
    obtain ⟨ws, S2, rw', c2, dr2, _, _⟩ := drawB I qb (I.ok.hd calm) D.l2i2
    have e1 : us.toArray.size = xs.length := ru.length.symm
    have e2 : ws.toArray.size = ys.length := rw'.length.symm
    obtain ⟨_, _, el⟩ := S.last
    refine wpAny_pyNext_zipD2_end (sep_of D) dr1 dr2 S.zip S.its el ⟨S.one, c1⟩ ⟨S.two, c2⟩ (by omega) (by omega) (by omega) fun g tk kept => ⟨rfl, ?_⟩
    refine I.turnedL (t' := tk) (ch := [z, t, o, p, q]) (fun c ob out e => ?_) fp
    obtain ⟨c1, _, c3, c4, c5⟩ := five_not out
    exact kept c ob c1 c3 c4 c5 e
/-- what zip goes through -/
def iZipB (K : PySem.W.Frag) (ta : TA) : TI := fun σ H R => ta σ H fun vs H1 => ∃ k1 k2 a b xs ys, vs = [.ref a, .ref b] ∧ SqB k1 K H1 a xs ∧ SqB k2 K H1 b ys ∧ R (ItzB k1 k2 K a b) H1
theorem beginsB {X : Cx} {pins : List (Addr × Obj)} {σ : L2.St} {H : Hp} {s : Shared} {k : Bool} {a : Addr} {xs : List V} (I : Inv X pins σ H s) (hq : SqB k X.K H a xs) :
    ∃ (o : Obj) (C : Heap → Prop), Begins (.ref a) o C ∧ C s.heap ∧ a < s.heap.objs.size ∧ ∀ h it, h.get? it = some o → ItB k h it a 0 := by
  cases k with
  | true =>
    obtain ⟨its, _, p, _⟩ := I.tuple (show SqT X.K H a xs from hq)
    exact ⟨_, _, begins_tuple a its.toArray, p, (let ⟨_, e, _⟩ := id p; Heap.lt_size e), fun _ _ e => ⟨_, e, rfl, rfl⟩⟩
  | false =>
    obtain ⟨its, _, p, _⟩ := I.list (show SqL X.K H a xs from hq)
    exact ⟨_, _, begins_list a its.toArray, p.isList, p.lt, fun _ _ e => ⟨_, e, rfl, rfl⟩⟩
theorem vals_two {a b : Addr} {us : List Value} (r : Vals [V.ref a, V.ref b] us) : us = [.ref a, .ref b] := by
  cases r with
  | cons r1 r =>
    cases r with
    | cons r2 r =>
      cases r
      rw [show _ = Value.ref a from r1, show _ = Value.ref b from r2]
/-- zip(e, e2), the target written as a tuple -/
theorem pi_zipB {X : Cx} {e e2 : Expr} {ta : TA} {p pos tpos : Pos} {elts : List Expr} {kk : Nat} (hg : Gl X "zip") (hm : X.mg "zip" = none) (ha : PA X [e, e2] ta)
    (star : starEach [e, e2] X.env = (false, eval e X.env) :: starEach [e2] X.env := by rfl) (plain : (backTo pos (starEach [e2] X.env)).any (·.1) = false := by rfl) :
    PI X (.Tuple elts kk tpos) (.Call (.Name "zip" p) [e, e2] [] pos) (iZipB X.K ta) := by
  constructor
  intro pins s σ H R I h
  refine Call_ (ld_blt I hg hm PyProof.Rows.boot_zip (PyProof.Rows.callWith_type1 (thn (ha.run pos pins s σ H _ I h) ?_) star plain))
  rintro us s1 ⟨vs, H1, J, r, k1, k2, a, b, xs, ys, rfl, qa, qb, rest⟩
  rw [vals_two r]
  obtain ⟨o1, C1, b1, c1, la, m1⟩ := beginsB J qa
  obtain ⟨o2, C2, b2, c2, lb, m2⟩ := beginsB J qb
  refine zip_begins2 b1 b2 c1 c2 fun g zip its last e1 e2 _ kept => wpAny_pyIter_zip zip ?_
  have far : ∀ c, s1.heap.objs.size ≤ c → FpOk X pins H1 c := fun c le => J.fpOk le (J.hok.fresh le)
  generalize s1.heap.objs.size = N at *
  refine ⟨N + 4, [N + 4, N + 2, N + 3, N, N + 1], ZipSt k1 k2 (N + 4) (N + 2) (N + 3) N (N + 1) a b, _, H1, rfl, J.kept (t' := s1.toks) kept, ?_, ?_, ?_, rest⟩
  · exact turn_zipB (PySem.W.ktu_apart N a b la lb)
  · exact ⟨zip, its, ⟨_, _, last⟩, m1 _ _ e1, m2 _ _ e2⟩
  · exact five ⟨far _ (by omega), far _ (by omega), far _ (by omega), far _ (by omega), far _ (by omega)⟩
/-- a loop over zip of a list or tuple and another one, of one length -/
theorem f_zipB {k1 k2 : Bool} {K : PySem.W.Frag} {a b : Addr} {xs ys : List V} {g : TG} {tb : TS} {D : Ends} {σ : L2.St} {H : Hp} (hl : xs.length = ys.length) (Pv : Nat → L2.St → Hp → Prop) (h0 : Pv 0 σ H)
    (hq : ∀ i σ H, Pv i σ H → SqB k1 K H a xs ∧ SqB k2 K H b ys)
    (hs : ∀ (i : Nat) (x y : V) (T : Addr) (σ : L2.St) (H : Hp), xs[i]? = some x → ys[i]? = some y → Pv i σ H → H T = none →
      g (.ref T) σ (L2.upd H T (.tup [x, y])) fun σ2 H2 => tb { D with nx := Pv (i + 1), ct := Pv (i + 1), bk := D.nx } σ2 H2)
    (hd : ∀ σ H, Pv xs.length σ H → D.nx σ H) : tFor (fun _ H R => R (ItzB k1 k2 K a b) H) g tb D σ H := by
  refine ⟨fun i m σ H => m + i = xs.length ∧ Pv i σ H, ⟨xs.length, rfl, h0⟩, ?_⟩
  rintro i m σ H ⟨hm, p⟩
  obtain ⟨qa, qb⟩ := hq i σ H p
  rcases Nat.eq_zero_or_pos m with z | z
  · have e : i = xs.length := by omega
    exact .inl ⟨⟨xs, ys, qa, qb, by omega, by omega, .inl (by omega)⟩, hd σ H (e ▸ p)⟩
  · have ex := List.getElem?_eq_getElem (show i < xs.length by omega)
    have ey := List.getElem?_eq_getElem (show i < ys.length by omega)
    refine .inr ⟨⟨xs, ys, _, _, qa, qb, ex, ey⟩, Pv (i + 1), fun _ _ n => ⟨m - 1, by omega, by omega, n⟩, ?_⟩
    rintro v H' ⟨T, x, y, rfl, new, rfl, f1, f2⟩
    exact hs i x y T σ H (f1 xs qa) (f2 ys qb) p new
theorem g_forZ {K : PySem.W.Frag} {ta : TA} {g : TG} {tb : TS} {D : Ends} {σ : L2.St} {H : Hp} (h : ta σ H fun vs H1 => ∃ k1 k2 a b xs ys, vs = [.ref a, .ref b] ∧ SqB k1 K H1 a xs ∧ SqB k2 K H1 b ys ∧ tFor (fun _ H R => R (ItzB k1 k2 K a b) H) g tb D σ H1) : tFor (iZipB K ta) g tb D σ H := h
end DW
/-! DWSun: days that some watches leave open are never far away: as many days in a row as their sums tell fractions decide for all days. -/
namespace DW
namespace Sun
/-! ### sums over a few numbers, periods -/
def tot : Nat → (Nat → Int) → Int
  | 0, _ => 0
  | n + 1, f => tot n f + f n
theorem tot_const {c : Int} {f : Nat → Int} : ∀ n, (∀ s, s < n → f s = c) → tot n f = n * c
  | 0, _ => by simp [tot]
  | n + 1, h => by
    have e := tot_const (f := f) n fun s hs => h s (by omega)
    show tot n f + f n = _
    rw [e, h n (by omega), Int.natCast_add, Int.add_mul]
    simp
theorem tot_tele {h : Nat → Int} : ∀ n, tot n (fun s => h s - h (s + 1)) = h 0 - h n
  | 0 => by simp [tot]
  | n + 1 => by
    show tot n _ + (h n - h (n + 1)) = _
    rw [tot_tele n]
    omega
theorem tot_sub {f g : Nat → Int} : ∀ n, tot n (fun s => f s - g s) = tot n f - tot n g
  | 0 => by simp [tot]
  | n + 1 => by
    show tot n _ + (f n - g n) = tot n f + f n - (tot n g + g n)
    rw [tot_sub n]
    omega
def Per (z : Int) (g : Int → Int) : Prop := ∀ y, g (y + z) = g y
theorem Per.zero {g : Int → Int} : Per 0 g := fun y => by rw [Int.add_zero]
theorem Per.add {a b : Int} {g : Int → Int} (h : Per a g) (k : Per b g) : Per (a + b) g := fun y => by
  rw [← Int.add_assoc, k, h]
theorem Per.neg {a : Int} {g : Int → Int} (h : Per a g) : Per (-a) g := fun y => by
  have := h (y + -a)
  rw [show y + -a + a = y by omega] at this
  exact this.symm
theorem Per.mulN {a : Int} {g : Int → Int} (h : Per a g) : ∀ n : Nat, Per (a * n) g
  | 0 => by simpa using Per.zero (g := g)
  | n + 1 => by
    have e : a * ((n + 1 : Nat) : Int) = a * n + a := by rw [Int.natCast_add, Int.mul_add]; simp
    rw [e]
    exact (h.mulN n).add h
theorem Per.mul {a : Int} {g : Int → Int} (h : Per a g) (m : Int) : Per (a * m) g := by
  by_cases hm : 0 ≤ m
  · obtain ⟨n, rfl⟩ : ∃ n : Nat, m = n := ⟨m.toNat, by omega⟩
    exact h.mulN n
  · obtain ⟨n, rfl⟩ : ∃ n : Nat, m = -n := ⟨(-m).toNat, by omega⟩
    have := (h.mulN n).neg
    rwa [← Int.mul_neg] at this
theorem Per.dvd {a z : Int} {g : Int → Int} (h : Per a g) (d : a ∣ z) : Per z g := by
  obtain ⟨m, rfl⟩ := d
  exact h.mul m
theorem Per.gcd {g : Int → Int} : ∀ m n : Nat, Per (m : Int) g → Per (n : Int) g → Per ((Nat.gcd m n : Nat) : Int) g := by
  intro m n
  induction m, n using Nat.gcd.induction with
  | H0 n => intro _ h; rw [Nat.gcd_zero_left]; exact h
  | H1 m n hm ih =>
    intro h k
    rw [Nat.gcd_rec]
    refine ih ?_ h
    have e : ((n % m : Nat) : Int) = n + -((m : Int) * ((n / m : Nat) : Int)) := by
      have := Nat.div_add_mod n m
      have e2 : ((m * (n / m) + n % m : Nat) : Int) = n := by rw [this]
      rw [Int.natCast_add, Int.natCast_mul] at e2
      omega
    rw [e]
    exact k.add (h.mul _).neg
/-! ### primes -/
def Pr (p : Nat) : Prop := 2 ≤ p ∧ ∀ d, d ∣ p → d = 1 ∨ d = p
theorem pr_ex : ∀ n : Nat, 2 ≤ n → ∃ p, Pr p ∧ p ∣ n := by
  intro n
  induction n using Nat.strongRecOn with
  | ind n ih =>
    intro hn
    by_cases h : ∃ d, d ∣ n ∧ d ≠ 1 ∧ d ≠ n
    · obtain ⟨d, hd, h1, h2⟩ := h
      have hle := Nat.le_of_dvd (by omega) hd
      have h0 : d ≠ 0 := fun z => by
        subst z
        have := Nat.eq_zero_of_zero_dvd hd
        omega
      obtain ⟨p, hp, hpd⟩ := ih d (by omega) (by omega)
      exact ⟨p, hp, Nat.dvd_trans hpd hd⟩
    · refine ⟨n, ⟨hn, fun d hd => ?_⟩, Nat.dvd_refl _⟩
      by_cases h1 : d = 1
      · exact .inl h1
      by_cases h2 : d = n
      · exact .inr h2
      exact absurd ⟨d, hd, h1, h2⟩ h
theorem pr_cop {p q : Nat} (hp : Pr p) (hq : Pr q) (h : p ≠ q) : Nat.Coprime p q := by
  rcases hp.2 _ (Nat.gcd_dvd_left p q) with e | e
  · exact e
  · rcases hq.2 _ (Nat.gcd_dvd_right p q) with e2 | e2
    · exact e2
    · exact absurd (e.symm.trans e2) h
/-- the greatest power of p that divides n -/
theorem top_pow {p n : Nat} (hp : 2 ≤ p) (hn : 0 < n) : ∃ k, p ^ k ∣ n ∧ ¬ p ^ (k + 1) ∣ n := by
  have step : ∀ j, p ^ j ∣ n ∨ ∃ k, p ^ k ∣ n ∧ ¬ p ^ (k + 1) ∣ n := by
    intro j
    induction j with
    | zero => exact .inl (by simp)
    | succ j ih =>
      rcases ih with h | h
      · by_cases d : p ^ (j + 1) ∣ n
        · exact .inl d
        · exact .inr ⟨j, h, d⟩
      · exact .inr h
  rcases step n with h | h
  · have h1 := Nat.le_of_dvd hn h
    have h2 : n < 2 ^ n := Nat.lt_two_pow_self
    have h3 : 2 ^ n ≤ p ^ n := Nat.pow_le_pow_left hp n
    omega
  · exact h
/-! ### a row of numbers that sums up to 0 along each prime part of the round -/
def Kil (N : Nat) (p : Nat) (g : Int → Int) : Prop := ∀ y, tot p (fun s => g (y + s * ((N / p : Nat) : Int))) = 0
/-- what is less what stands further on -/
def dif (c : Int) (g : Int → Int) : Int → Int := fun y => g y - g (y + c)
theorem Per.dif {z c : Int} {g : Int → Int} (h : Per z g) : Per z (dif c g) := fun y => by
  show g (y + z) - g (y + z + c) = g y - g (y + c)
  rw [h, show y + z + c = y + c + z by omega, h]
theorem Kil.dif {N p : Nat} {c : Int} {g : Int → Int} (h : Kil N p g) : Kil N p (dif c g) := fun y => by
  have e : (fun s : Nat => DW.Sun.dif c g (y + s * ((N / p : Nat) : Int))) = fun s : Nat => g (y + s * ((N / p : Nat) : Int)) - g ((y + c) + s * ((N / p : Nat) : Int)) := by
    funext s
    show g _ - g _ = _
    rw [show y + s * ((N / p : Nat) : Int) + c = y + c + s * ((N / p : Nat) : Int) by omega]
  rw [e, tot_sub, h, h]
  rfl
theorem kil_new {N p : Nat} {g : Int → Int} (hN : p ∣ N) (h : Per (N : Int) g) : Kil N p (dif ((N / p : Nat) : Int) g) := fun y => by
  have e : (fun s : Nat => dif ((N / p : Nat) : Int) g (y + s * ((N / p : Nat) : Int))) = fun s : Nat => (fun k : Nat => g (y + k * ((N / p : Nat) : Int))) s - (fun k : Nat => g (y + k * ((N / p : Nat) : Int))) (s + 1) := by
    funext s
    show g _ - g _ = g _ - g _
    have : y + (s : Int) * ((N / p : Nat) : Int) + ((N / p : Nat) : Int) = y + ((s + 1 : Nat) : Int) * ((N / p : Nat) : Int) := by
      rw [Int.natCast_add, Int.add_mul]
      simp
      omega
    rw [this]
  rw [e, tot_tele]
  show g (y + ((0 : Nat) : Int) * ((N / p : Nat) : Int)) - g (y + (p : Int) * ((N / p : Nat) : Int)) = 0
  have : (p : Int) * ((N / p : Nat) : Int) = N := by
    rw [← Int.natCast_mul, Nat.mul_div_cancel' hN]
  rw [this, h]
  simp
def start (N : Nat) (ps : List Nat) : Int → Int := ps.foldr (fun p g => dif ((N / p : Nat) : Int) g) fun y => if (N : Int) ∣ y then 1 else 0
theorem start_per (N : Nat) : ∀ ps, Per (N : Int) (start N ps)
  | [] => fun y => by
    show (if (N : Int) ∣ y + N then (1 : Int) else 0) = if (N : Int) ∣ y then 1 else 0
    have e : ((N : Int) ∣ y + N) ↔ (N : Int) ∣ y := ⟨fun h => by have := Int.dvd_sub h (Int.dvd_refl (N : Int)); rwa [Int.add_sub_cancel] at this, fun h => Int.dvd_add h (Int.dvd_refl _)⟩
    by_cases h : (N : Int) ∣ y
    · rw [if_pos h, if_pos (e.mpr h)]
    · rw [if_neg h, if_neg fun z => h (e.mp z)]
  | p :: ps => (start_per N ps).dif
theorem start_kil {N : Nat} : ∀ {ps : List Nat}, (∀ p ∈ ps, p ∣ N) → ∀ p ∈ ps, Kil N p (start N ps)
  | [], _, _, h => nomatch h
  | q :: ps, hN, p, hp => by
    rcases List.mem_cons.mp hp with e | e
    · subst e
      exact kil_new (hN p List.mem_cons_self) (start_per N ps)
    · exact (start_kil (fun r hr => hN r (List.mem_cons_of_mem _ hr)) p e).dif
/-- it is 0 but at what a number divides that divides all its steps -/
theorem start_off {N : Nat} {P : Int} (hP : P ∣ (N : Int)) : ∀ {ps : List Nat}, (∀ p ∈ ps, P ∣ ((N / p : Nat) : Int)) → ∀ y, ¬ P ∣ y → start N ps y = 0
  | [], _, y, h => if_neg fun z => h (Int.dvd_trans hP z)
  | q :: ps, hs, y, h => by
    have hs' := fun p hp => hs p (List.mem_cons_of_mem _ hp)
    show start N ps y - start N ps (y + _) = 0
    rw [start_off hP hs' y h, start_off hP hs' _ fun z => h ?_]
    · rfl
    · have := Int.dvd_sub z (hs q List.mem_cons_self)
      rwa [Int.add_sub_cancel] at this
theorem start_one {N : Nat} (hN0 : 0 < N) : ∀ {ps : List Nat}, ps.Nodup → (∀ p ∈ ps, Pr p ∧ p ∣ N) → start N ps 0 = 1
  | [], _, _ => by
    show (if (N : Int) ∣ 0 then (1 : Int) else 0) = 1
    exact if_pos (Int.dvd_zero _)
  | p :: ps, nd, h => by
    obtain ⟨n1, n2⟩ := List.nodup_cons.mp nd
    have ih := start_one hN0 n2 fun q hq => h q (List.mem_cons_of_mem _ hq)
    obtain ⟨hp, hpN⟩ := h p List.mem_cons_self
    obtain ⟨k, k1, k2⟩ := top_pow hp.1 hN0
    show start N ps 0 - start N ps (0 + ((N / p : Nat) : Int)) = 1
    rw [ih, start_off (P := ((p ^ k : Nat) : Int)) (Int.natCast_dvd_natCast.mpr k1) (fun q hq => ?_) _ fun z => k2 ?_]
    · rfl
    · obtain ⟨hq1, hqN⟩ := h q (List.mem_cons_of_mem _ hq)
      refine Int.natCast_dvd_natCast.mpr ?_
      have hc : Nat.Coprime (p ^ k) q := Nat.Coprime.pow_left k (pr_cop hp hq1 fun e => n1 (by rw [e]; exact hq))
      refine hc.dvd_of_dvd_mul_left ?_
      rw [Nat.mul_div_cancel' hqN]
      exact k1
    · rw [Int.zero_add] at z
      have z := Int.natCast_dvd_natCast.mp z
      have : N = p * (N / p) := (Nat.mul_div_cancel' hpN).symm
      rw [this, Nat.pow_succ, Nat.mul_comm]
      exact Nat.mul_dvd_mul_left p z
/-- what does not change along a step that is no round is 0 -/
theorem peel {N : Nat} {g : Int → Int} (hN : 0 < N) (hp : Per (N : Int) g) (hk : ∀ p, Pr p → p ∣ N → Kil N p g) {c : Int} (hc : ¬ (N : Int) ∣ c) (h : ∀ y, g y - g (y + c) = 0) : ∀ y, g y = 0 := by
  have pc : Per c g := fun y => by have := h y; omega
  have pa : Per ((c.natAbs : Nat) : Int) g := by
    rcases Int.natAbs_eq c with e | e
    · rw [← e]; exact pc
    · have := pc.neg
      rw [e, Int.neg_neg] at this
      exact this
  have pg := Per.gcd _ _ pa hp
  have hg : Nat.gcd c.natAbs N ∣ N := Nat.gcd_dvd_right _ _
  have hg0 : 0 < Nat.gcd c.natAbs N := Nat.gcd_pos_of_pos_right _ hN
  obtain ⟨d, hd⟩ := hg
  have hd2 : 2 ≤ d := by
    rcases Nat.lt_or_ge d 2 with z | z
    · have hd1 : d = 0 ∨ d = 1 := by omega
      rcases hd1 with e | e
      · rw [e, Nat.mul_zero] at hd
        omega
      · rw [e, Nat.mul_one] at hd
        refine absurd ?_ hc
        have : N ∣ c.natAbs := by
          have := Nat.gcd_dvd_left c.natAbs N
          rw [← hd] at this
          exact this
        exact Int.dvd_natAbs.mp (Int.natCast_dvd_natCast.mpr this)
    · exact z
  obtain ⟨p, pp, pd⟩ := pr_ex d hd2
  have pN : p ∣ N := Nat.dvd_trans pd ⟨_, by rw [hd, Nat.mul_comm]⟩
  have gN : Nat.gcd c.natAbs N ∣ N / p := by
    obtain ⟨e, he⟩ := pd
    refine ⟨e, ?_⟩
    have : N = p * (Nat.gcd c.natAbs N * e) := by
      rw [Nat.mul_left_comm, ← he]
      exact hd
    refine Nat.div_eq_of_eq_mul_right (by have := pp.1; omega) this
  have per : Per ((N / p : Nat) : Int) g := pg.dvd (Int.natCast_dvd_natCast.mpr gN)
  intro y
  have z := hk p pp pN y
  rw [tot_const (c := g y) p fun s _ => by
    rw [Int.mul_comm]
    exact per.mulN s y] at z
  have hp2 := pp.1
  rcases Int.mul_eq_zero.mp z with z | z
  · omega
  · exact z
/-! ### sums of rows, each moved on as many steps a day -/
abbrev Tm := Int × (Int → Int)
def ev (L : List Tm) (x y : Int) : Int := (L.map fun m => m.2 (y + m.1 * x)).sum
theorem ev_nil (x y : Int) : ev [] x y = 0 := rfl
theorem ev_cons (m : Tm) (L : List Tm) (x y : Int) : ev (m :: L) x y = m.2 (y + m.1 * x) + ev L x y := by
  unfold ev
  rw [List.map_cons, List.sum_cons]
theorem ev_app (L M : List Tm) (x y : Int) : ev (L ++ M) x y = ev L x y + ev M x y := by
  unfold ev
  rw [List.map_append, List.sum_append]
/-- one step on, less what moves by f -/
def mv (f : Int) (m : Tm) : Tm := (m.1, fun z => m.2 (z + m.1) - m.2 (z + f))
theorem ev_mv (f : Int) : ∀ (L : List Tm) (x y : Int), ev (L.map (mv f)) x y = ev L (x + 1) y - ev L x (y + f)
  | [], x, y => rfl
  | m :: L, x, y => by
    rw [List.map_cons, ev_cons, ev_cons, ev_cons, ev_mv f L x y]
    show m.2 (y + m.1 * x + m.1) - m.2 (y + m.1 * x + f) + _ = _
    rw [show y + m.1 * (x + 1) = y + m.1 * x + m.1 by rw [Int.mul_add]; omega, show y + f + m.1 * x = y + m.1 * x + f by omega]
    omega
open Classical in
theorem ev_drop {N f : Int} : ∀ {L : List Tm}, (∀ m ∈ L, Per N m.2) → ∀ x y, ev ((L.filter fun m => ¬ N ∣ m.1 - f).map (mv f)) x y = ev (L.map (mv f)) x y
  | [], _, x, y => rfl
  | m :: L, h, x, y => by
    have ih := ev_drop (f := f) (fun k hk => h k (List.mem_cons_of_mem _ hk)) x y
    rw [List.map_cons, ev_cons]
    by_cases d : N ∣ m.1 - f
    · have e : (m :: L).filter (fun m => ¬ N ∣ m.1 - f) = L.filter fun m => ¬ N ∣ m.1 - f := List.filter_cons_of_neg (by simp [d])
      rw [e, ih]
      have z : (mv f m).2 (y + (mv f m).1 * x) = 0 := by
        show m.2 (_ + m.1) - m.2 (_ + f) = 0
        have := (h m List.mem_cons_self).dvd d (y + (mv f m).1 * x + f)
        rw [show y + (mv f m).1 * x + f + (m.1 - f) = y + (mv f m).1 * x + m.1 by omega] at this
        omega
      rw [z, Int.zero_add]
    · have e : (m :: L).filter (fun m => ¬ N ∣ m.1 - f) = m :: L.filter fun m => ¬ N ∣ m.1 - f := List.filter_cons_of_pos (by simp [d])
      rw [e, List.map_cons, ev_cons, ih]
theorem Per.mv {N f : Int} {m : Tm} (h : Per N m.2) : Per N (mv f m).2 := fun y => by
  show m.2 (y + N + m.1) - m.2 (y + N + f) = m.2 (y + m.1) - m.2 (y + f)
  rw [show y + N + m.1 = y + m.1 + N by omega, show y + N + f = y + f + N by omega, h, h]
/-- such sums that are 0 on as many days in a row as there are unlike steps are 0 on all days -/
theorem zeros {N x0 : Int} : ∀ (F : List Int) (L : List Tm), (∀ m ∈ L, Per N m.2 ∧ ∃ f ∈ F, N ∣ m.1 - f) → (∀ k : Nat, k < F.length → ∀ y, ev L (x0 + k) y = 0) → ∀ x y, ev L x y = 0
  | [], L, h, _ => by
    have e : L = [] := List.eq_nil_iff_forall_not_mem.mpr fun m hm => by
      obtain ⟨_, f, hf, _⟩ := h m hm
      cases hf
    subst e
    exact fun x y => rfl
  | f :: F, L, h, z => by
    have hd : ∀ x y, ev (L.map (mv f)) x y = 0 := by
      intro x y
      rw [← ev_drop (N := N) (fun m hm => (h m hm).1)]
      refine zeros (N := N) (x0 := x0) F _ (fun m hm => ?_) (fun k hk y => ?_) x y
      · obtain ⟨m0, hm0, rfl⟩ := List.mem_map.mp hm
        obtain ⟨hm1, hm2⟩ := List.mem_filter.mp hm0
        obtain ⟨hP, g, hg, d⟩ := h m0 hm1
        refine ⟨hP.mv, g, ?_, d⟩
        rcases List.mem_cons.mp hg with e | e
        · subst e
          exact absurd d (by simpa using hm2)
        · exact e
      · rw [ev_drop (N := N) (fun m hm => (h m hm).1), ev_mv]
        have z1 := z (k + 1) (by simpa using hk) y
        have z0 := z k (by have : (f :: F).length = F.length + 1 := rfl; omega) (y + f)
        rw [show x0 + ((k + 1 : Nat) : Int) = x0 + k + 1 by omega] at z1
        rw [z1, z0]
        rfl
    have go : ∀ x y, ev L (x + 1) y = ev L x (y + f) := fun x y => by
      have := hd x y
      rw [ev_mv] at this
      omega
    have z0 : ∀ y, ev L x0 y = 0 := fun y => by
      have := z 0 (by simp) y
      simpa using this
    have up : ∀ n : Nat, ∀ y, ev L (x0 + n) y = 0 := by
      intro n
      induction n with
      | zero => intro y; simpa using z0 y
      | succ n ih =>
        intro y
        rw [show x0 + ((n + 1 : Nat) : Int) = x0 + n + 1 by omega, go]
        exact ih _
    have dn : ∀ n : Nat, ∀ y, ev L (x0 - n) y = 0 := by
      intro n
      induction n with
      | zero => intro y; simpa using z0 y
      | succ n ih =>
        intro y
        have := go (x0 - ((n + 1 : Nat) : Int)) (y - f)
        rw [show x0 - ((n + 1 : Nat) : Int) + 1 = x0 - n by omega, show y - f + f = y by omega] at this
        rw [← this]
        exact ih _
    intro x y
    by_cases c : x0 ≤ x
    · have := up (x - x0).toNat y
      rwa [show x0 + ((x - x0).toNat : Int) = x by omega] at this
    · have := dn (x0 - x).toNat y
      rwa [show x0 - ((x0 - x).toNat : Int) = x by omega] at this
/-! ### the watches: (b, a) holds the days x for which the round divides b * (x - a) -/
def G (t : Int → Int) : List (Int × Int) → Int → Int → Int
  | [], _, y => t y
  | (b, a) :: l, x, y => G t l x y - G t l x (y + b * (x - a))
def tms (t : Int → Int) : List (Int × Int) → List Tm
  | [] => [(0, t)]
  | (b, a) :: l => tms t l ++ (tms t l).map fun m => (m.1 + b, fun z => -m.2 (z - b * a))
theorem ev_back (b a : Int) : ∀ (L : List Tm) (x y : Int), ev (L.map fun m => (m.1 + b, fun z => -m.2 (z - b * a))) x y = -ev L x (y + b * (x - a))
  | [], x, y => rfl
  | m :: L, x, y => by
    rw [List.map_cons, ev_cons, ev_cons, ev_back b a L x y]
    show -m.2 (y + (m.1 + b) * x - b * a) + _ = _
    rw [show y + (m.1 + b) * x - b * a = y + b * (x - a) + m.1 * x by rw [Int.add_mul, Int.mul_sub]; omega]
    omega
theorem G_ev (t : Int → Int) : ∀ (l : List (Int × Int)) (x y : Int), G t l x y = ev (tms t l) x y
  | [], x, y => by
    show t y = ev [(0, t)] x y
    rw [ev_cons, ev_nil]
    simp
  | (b, a) :: l, x, y => by
    show G t l x y - G t l x (y + b * (x - a)) = ev (tms t l ++ _) x y
    rw [ev_app, ev_back, G_ev t l x y, G_ev t l x (y + b * (x - a))]
    omega
/-- all sums of some of the steps -/
def steps : List (Int × Int) → List Int
  | [] => [0]
  | (b, _) :: l => steps l ++ (steps l).map (· + b)
theorem steps_len : ∀ l, (steps l).length = 2 ^ l.length
  | [] => rfl
  | (b, a) :: l => by
    show (steps l ++ (steps l).map (· + b)).length = _
    rw [List.length_append, List.length_map, steps_len l, List.length_cons, Nat.pow_succ]
    omega
theorem tms_ok {N : Int} {t : Int → Int} (ht : Per N t) : ∀ {l : List (Int × Int)}, ∀ m ∈ tms t l, Per N m.2 ∧ m.1 ∈ steps l
  | [], m, h => by
    obtain rfl := List.mem_singleton.mp h
    exact ⟨ht, List.mem_singleton.mpr rfl⟩
  | (b, a) :: l, m, h => by
    rcases List.mem_append.mp h with h | h
    · obtain ⟨h1, h2⟩ := tms_ok ht m h
      exact ⟨h1, List.mem_append_left _ h2⟩
    · obtain ⟨k, hk, rfl⟩ := List.mem_map.mp h
      obtain ⟨h1, h2⟩ := tms_ok ht k hk
      refine ⟨fun y => ?_, List.mem_append_right _ (List.mem_map.mpr ⟨_, h2, rfl⟩)⟩
      show -k.2 (y + N - b * a) = -k.2 (y - b * a)
      rw [show y + N - b * a = y - b * a + N by omega, h1]
theorem G_per {N : Int} {t : Int → Int} (ht : Per N t) : ∀ (l : List (Int × Int)) (x : Int), Per N (G t l x)
  | [], _ => ht
  | (b, a) :: l, x => (G_per ht l x).dif (c := b * (x - a))
theorem G_kil {N p : Nat} {t : Int → Int} (ht : Kil N p t) : ∀ (l : List (Int × Int)) (x : Int), Kil N p (G t l x)
  | [], _ => ht
  | (b, a) :: l, x => (G_kil ht l x).dif (c := b * (x - a))
theorem G_held {N : Int} {t : Int → Int} (ht : Per N t) : ∀ {l : List (Int × Int)} {x : Int}, (∃ m ∈ l, N ∣ m.1 * (x - m.2)) → ∀ y, G t l x y = 0
  | [], x, ⟨_, h, _⟩, _ => nomatch h
  | (b, a) :: l, x, ⟨m, h, d⟩, y => by
    show G t l x y - G t l x (y + b * (x - a)) = 0
    rcases List.mem_cons.mp h with e | e
    · subst e
      rw [(G_per ht l x).dvd d]
      omega
    · rw [G_held ht ⟨m, e, d⟩, G_held ht ⟨m, e, d⟩]
      rfl
theorem G_open {N : Nat} {t : Int → Int} (hN : 0 < N) (ht : Per (N : Int) t) (hk : ∀ p, Pr p → p ∣ N → Kil N p t) : ∀ {l : List (Int × Int)} {x : Int}, (∀ m ∈ l, ¬ (N : Int) ∣ m.1 * (x - m.2)) → (∀ y, G t l x y = 0) → ∀ y, t y = 0
  | [], _, _, h => h
  | (b, a) :: l, x, ho, h => G_open hN ht hk (fun m hm => ho m (List.mem_cons_of_mem _ hm)) (peel hN (G_per ht l x) (fun p pp pd => G_kil (hk p pp pd) l x) (ho (b, a) List.mem_cons_self) h)
/-- a round that has been gone through by as many days in a row as the steps have unlike sums -/
theorem all_held {N : Nat} (hN : 0 < N) {l : List (Int × Int)} {F : List Int} {x0 : Int} (hF : ∀ s ∈ steps l, ∃ f ∈ F, (N : Int) ∣ s - f)
    (h : ∀ k : Nat, k < F.length → ∃ m ∈ l, (N : Int) ∣ m.1 * (x0 + k - m.2)) (x : Int) : ∃ m ∈ l, (N : Int) ∣ m.1 * (x - m.2) := by
  classical
  let ps := (List.range (N + 1)).filter fun p => decide (Pr p ∧ p ∣ N)
  have hps : ∀ p ∈ ps, Pr p ∧ p ∣ N := fun p hp => by simpa using (List.mem_filter.mp hp).2
  have hnd : ps.Nodup := List.nodup_range.filter _
  have one := start_one hN hnd hps
  have per := start_per N ps
  have kil : ∀ p, Pr p → p ∣ N → Kil N p (start N ps) := fun p pp pd => start_kil (fun q hq => (hps q hq).2) p (List.mem_filter.mpr ⟨List.mem_range.mpr (by have := Nat.le_of_dvd hN pd; omega), by simpa using ⟨pp, pd⟩⟩)
  have zero : ∀ x y, G (start N ps) l x y = 0 := fun x y => by
    rw [G_ev]
    refine zeros (N := N) (x0 := x0) F _ (fun m hm => ?_) (fun k hk y => ?_) x y
    · obtain ⟨h1, h2⟩ := tms_ok per m hm
      exact ⟨h1, hF _ h2⟩
    · rw [← G_ev]
      exact G_held per (h k hk) y
  refine Classical.byContradiction fun no => ?_
  have := G_open hN per kil (l := l) (x := x) (fun m hm d => no ⟨m, hm, d⟩) (zero x) 0
  rw [one] at this
  cases this
end Sun
end DW
/-! DWFew: what DWSun tells, said of lots. -/
namespace DW
open PySem PySem.Spec PyProof.Rows L2
theorem nat_of {z : Int} (h : 0 ≤ z) : ((z.toNat : Nat) : Int) = z := by omega
/-- a watch with its weight, as steps of a round -/
def stp (N : Int) (z : (Int × Int) × Int) : Int × Int := (z.2 * (N / z.1.1), z.1.2)
structure WtOk (N : Int) (z : (Int × Int) × Int) : Prop where
  t : 0 < z.1.1
  d : z.1.1 ∣ N
  c : Nat.gcd z.2.natAbs z.1.1.natAbs = 1
theorem cop_dvd {n w z : Int} (hc : Nat.gcd w.natAbs n.natAbs = 1) (h : n ∣ w * z) : n ∣ z := by
  have h1 := Int.natAbs_dvd_natAbs.mpr h
  rw [Int.natAbs_mul] at h1
  have h2 : Nat.Coprime n.natAbs w.natAbs := by
    show Nat.gcd _ _ = 1
    rw [Nat.gcd_comm]
    exact hc
  exact Int.natAbs_dvd_natAbs.mp (h2.dvd_of_dvd_mul_left h1)
theorem stp_dvd {N : Int} (hN : 0 < N) {z : (Int × Int) × Int} (h : WtOk N z) (x : Int) : N ∣ (stp N z).1 * (x - (stp N z).2) ↔ Hld z.1 x = true := by
  have ht := h.t
  have hc := h.c
  obtain ⟨k, hk⟩ := h.d
  have ek : N / z.1.1 = k := by
    rw [hk]
    exact Int.mul_ediv_cancel_left k (by omega)
  have hk0 : k ≠ 0 := fun e => by
    rw [e, Int.mul_zero] at hk
    omega
  show N ∣ z.2 * (N / z.1.1) * (x - z.1.2) ↔ decide ((x - z.1.2) % z.1.1 = 0) = true
  rw [ek, decide_eq_true_eq, ← Int.dvd_iff_emod_eq_zero, hk, show z.2 * k * (x - z.1.2) = k * (z.2 * (x - z.1.2)) by rw [Int.mul_comm z.2 k, Int.mul_assoc], Int.mul_comm z.1.1 k]
  rw [Int.mul_dvd_mul_iff_left hk0]
  exact ⟨fun d => cop_dvd hc d, fun d => Int.dvd_mul_of_dvd_right d⟩
def cnt (zs : List ((Int × Int) × Int)) (x : Int) : Nat := zs.countP fun z => Hld z.1 x
theorem cnt_tally (zs : List ((Int × Int) × Int)) (x : Int) : tallyZ (zs.map (·.1)) x = (cnt zs x : Int) := by
  rw [tally_filter, ← List.countP_eq_length_filter, List.countP_map]
  rfl
theorem steps_sub : ∀ {l l' : List (Int × Int)}, l'.Sublist l → ∀ s ∈ Sun.steps l', s ∈ Sun.steps l
  | _, _, .slnil, s, h => h
  | _, _, .cons (a := (b, a)) (l₂ := l) k, s, h => List.mem_append_left _ (steps_sub k s h)
  | _, _, .cons₂ (b, a) k, s, h => by
    rcases List.mem_append.mp h with h | h
    · exact List.mem_append_left _ (steps_sub k s h)
    · obtain ⟨r, hr, rfl⟩ := List.mem_map.mp h
      exact List.mem_append_right _ (List.mem_map.mpr ⟨r, steps_sub k r hr, rfl⟩)
/-- so many days in a row that are held by so many tell all days -/
theorem few_all {N : Int} (hN : 0 < N) {zs : List ((Int × Int) × Int)} (ok : ∀ z ∈ zs, WtOk N z) {F : List Int} (hF : ∀ s ∈ Sun.steps (zs.map (stp N)), ∃ f ∈ F, N ∣ s - f) {x0 : Int} {m : Nat}
    (h : ∀ k : Nat, k < F.length → m ≤ cnt zs (x0 + k)) (x : Int) : m ≤ cnt zs x := by
  refine Classical.byContradiction fun no => ?_
  have hS : (zs.filter fun z => !Hld z.1 x).Sublist zs := List.filter_sublist
  have eN : ((N.toNat : Nat) : Int) = N := by omega
  have key := Sun.all_held (N := N.toNat) (by omega) (l := (zs.filter fun z => !Hld z.1 x).map (stp N)) (F := F) (x0 := x0) (fun s hs => by
    rw [eN]
    exact hF s (steps_sub (hS.map _) s hs)) (fun k hk => ?_) x
  · obtain ⟨q, hq, d⟩ := key
    obtain ⟨z, hz, rfl⟩ := List.mem_map.mp hq
    obtain ⟨z1, z2⟩ := List.mem_filter.mp hz
    rw [eN] at d
    have := (stp_dvd hN (ok z z1) x).mp d
    rw [this] at z2
    cases z2
  · refine Classical.byContradiction fun none => no ?_
    refine Nat.le_trans (h k hk) ?_
    refine List.countP_mono_left fun z hz hy => ?_
    refine Classical.byContradiction fun nh => none ⟨stp N z, List.mem_map_of_mem (List.mem_filter.mpr ⟨hz, by simpa using nh⟩), ?_⟩
    rw [eN]
    exact (stp_dvd hN (ok z hz) _).mpr hy
theorem wt_one {lot : List (Int × Int)} (hw : ∀ p ∈ lot, 0 < p.1) : ∀ z ∈ lot.map (fun p => (p, (1 : Int))), WtOk (roundZ lot) z := fun z hz => by
  obtain ⟨p, hp, rfl⟩ := List.mem_map.mp hz
  exact ⟨hw p hp, dvd_roundZ hp (hw p hp), by show Nat.gcd 1 _ = 1; exact Nat.gcd_one_left _⟩
theorem roundZ_pos {lot : List (Int × Int)} (hw : ∀ p ∈ lot, 0 < p.1) : 0 < roundZ lot := by
  have h := foldl_lcm_pos (lot.map fun p => p.1.toNat) 1 (by decide) fun t h => by
    obtain ⟨p, hp, rfl⟩ := List.mem_map.mp h
    have := hw p hp
    omega
  unfold roundZ lcmN
  omega
theorem one_map (lot : List (Int × Int)) : (lot.map fun p => (p, (1 : Int))).map (·.1) = lot := by
  rw [List.map_map]
  exact List.map_id' lot
/-- 2 ** n days in a row tell all days -/
theorem two_all {lot : List (Int × Int)} (hw : ∀ p ∈ lot, 0 < p.1) {x0 m : Int} (h : ∀ k : Nat, k < 2 ^ lot.length → m ≤ tallyZ lot (x0 + k)) (x : Int) : m ≤ tallyZ lot x := by
  have e : ∀ y, tallyZ lot y = (cnt (lot.map fun p => (p, (1 : Int))) y : Int) := fun y => by rw [← cnt_tally, one_map]
  have := few_all (roundZ_pos hw) (wt_one hw) (F := Sun.steps ((lot.map fun p => (p, (1 : Int))).map (stp (roundZ lot)))) (fun s hs => ⟨s, hs, by rw [Int.sub_self]; exact Int.dvd_zero _⟩) (x0 := x0) (m := m.toNat) (fun k hk => by
    rw [Sun.steps_len, List.length_map, List.length_map] at hk
    have := h k hk
    rw [e] at this
    omega) x
  rw [e]
  omega
theorem tally_round {lot : List (Int × Int)} (hw : ∀ p ∈ lot, 0 < p.1) {z : Int} (hz : roundZ lot ∣ z) (x : Int) : tallyZ lot (x + z) = tallyZ lot x := by
  have e : ∀ p ∈ lot, Hld p (x + z) = Hld p x := fun p hp => by
    obtain ⟨k, hk⟩ := Int.dvd_trans (dvd_roundZ hp (hw p hp)) hz
    unfold Hld
    rw [hk, show x + p.1 * k - p.2 = x - p.2 + p.1 * k by omega, Int.add_mul_emod_self_left]
  rw [tally_filter, tally_filter, List.filter_congr e]
/-- the least day from 0 on that is held by fewer, of so many days -/
def firstLow (lot : List (Int × Int)) (m : Int) (n : Nat) : Option Int := ((List.range n).find? fun i => decide (tallyZ lot ((i : Nat) : Int) < m)).map fun i => ((i : Nat) : Int)
theorem low_hit {lot : List (Int × Int)} {m : Int} {n i : Nat} (hi : i < n) (h0 : ∀ j < i, m ≤ tallyZ lot ((j : Nat) : Int)) (h : tallyZ lot ((i : Nat) : Int) < m) : firstLow lot m n = some ((i : Nat) : Int) := by
  unfold firstLow
  have e : (List.range n).find? (fun i => decide (tallyZ lot ((i : Nat) : Int) < m)) = some i := by
    rw [List.find?_range_eq_some]
    exact ⟨decide_eq_true h, List.mem_range.mpr hi, fun j hj => by have := h0 j hj; simp; omega⟩
  rw [e]
  rfl
theorem low_miss {lot : List (Int × Int)} {m : Int} {n : Nat} (h0 : ∀ j < n, m ≤ tallyZ lot ((j : Nat) : Int)) : firstLow lot m n = none := by
  unfold firstLow
  rw [List.find?_range_eq_none.mpr fun i hi => by have := h0 i hi; simp; omega]
  rfl
theorem low_some {lot : List (Int × Int)} {m x : Int} {n : Nat} (h : firstLow lot m n = some x) : 0 ≤ x ∧ x < n ∧ tallyZ lot x < m ∧ ∀ y, 0 ≤ y → y < x → m ≤ tallyZ lot y := by
  unfold firstLow at h
  obtain ⟨i, hi, rfl⟩ := Option.map_eq_some_iff.mp h
  obtain ⟨h2, h1, h3⟩ := List.find?_range_eq_some.mp hi
  have h1 := List.mem_range.mp h1
  refine ⟨by omega, by omega, by simpa using h2, fun y y0 y1 => ?_⟩
  have := h3 y.toNat (by omega)
  rw [show ((y.toNat : Nat) : Int) = y by omega] at this
  simp at this
  exact this
theorem low_none {lot : List (Int × Int)} {m : Int} {n : Nat} (h : firstLow lot m n = none) {x : Int} (h0 : 0 ≤ x) (h1 : x < n) : m ≤ tallyZ lot x := by
  unfold firstLow at h
  have h := Option.map_eq_none_iff.mp h
  have := List.find?_range_eq_none.mp h x.toNat (by omega)
  rw [show ((x.toNat : Nat) : Int) = x by omega] at this
  simp at this
  exact this
theorem low_all {lot : List (Int × Int)} (hw : ∀ p ∈ lot, 0 < p.1) {m : Int} (h : firstLow lot m (2 ^ lot.length) = none) (x : Int) : m ≤ tallyZ lot x :=
  two_all hw (x0 := 0) (fun k hk => low_none h (by omega) (by omega)) x
/-- the round tells the same -/
theorem low_round {lot : List (Int × Int)} (hw : ∀ p ∈ lot, 0 < p.1) {m : Int} : firstLow lot m (roundZ lot).toNat = firstLow lot m (2 ^ lot.length) := by
  have hr := roundZ_pos hw
  cases e : firstLow lot m (2 ^ lot.length) with
  | none => exact low_miss fun j _ => low_all hw e _
  | some x =>
    obtain ⟨x0, x1, x2, x3⟩ := low_some e
    cases e2 : firstLow lot m (roundZ lot).toNat with
    | none =>
      have h1 := Int.emod_nonneg x (show roundZ lot ≠ 0 by omega)
      have h2 := Int.emod_lt_of_pos x hr
      have h3 := low_none e2 h1 (by omega)
      have h4 := tally_round hw (z := roundZ lot * (x / roundZ lot)) (Int.dvd_mul_right _ _) (x % roundZ lot)
      rw [show x % roundZ lot + roundZ lot * (x / roundZ lot) = x by have := Int.mul_ediv_add_emod x (roundZ lot); omega] at h4
      omega
    | some y =>
      obtain ⟨y0, y1, y2, y3⟩ := low_some e2
      have : y = x := by
        rcases Int.lt_trichotomy x y with z | z | z
        · have := y3 x x0 z
          omega
        · exact z.symm
        · have := x3 y y0 z
          omega
      rw [this]
def oV : Option Int → V | none => .non | some x => .int x
def oD : Option Int → PyData | none => .none | some x => .int x
theorem oD_dp {K : PySem.W.Frag} {H : Hp} (o : Option Int) : Dp K H (oV o) (oD o) := by cases o <;> constructor
theorem oV_none (o : Option Int) : decide (oV o = .non) = o.isNone := by cases o <;> rfl
end DW
/-! DWRng: range with a step of any size; told back places of lists. -/
namespace DW
open PySem PySem.Spec PyProof.Rows L2
/-- how many turns range(i, j, c) has, c above 0 -/
def turns (i j c : Int) : Nat := if i < j then ((j - i - 1) / c + 1).toNat else 0
theorem turns_size {i j c : Int} (hc : 0 < c) : Builtin.Range.rangeSize i j c = (turns i j c : Int) := by
  unfold Builtin.Range.rangeSize turns
  rw [if_pos hc]
  by_cases h : i < j
  · rw [if_pos h, if_pos h]
    have := Int.ediv_nonneg (show 0 ≤ j - i - 1 by omega) (show 0 ≤ c by omega)
    omega
  · rw [if_neg h, if_neg h]
    rfl
/-- such a turn's place lies ahead of j -/
theorem turns_in {i j c : Int} (hc : 0 < c) {k : Nat} (h : k < turns i j c) : i + k * c < j := by
  unfold turns at h
  by_cases hij : i < j
  · rw [if_pos hij] at h
    have h1 : (k : Int) ≤ (j - i - 1) / c := by omega
    have h2 := (Int.le_ediv_iff_mul_le hc).mp h1
    omega
  · rw [if_neg hij] at h
    omega
theorem turns_all {i j c x : Int} (hc : 0 < c) (h0 : i ≤ x) (h1 : x < j) (hd : (x - i) % c = 0) : ∃ k : Nat, k < turns i j c ∧ x = i + k * c := by
  have e : x - i = c * ((x - i) / c) := by
    have := Int.mul_ediv_add_emod (x - i) c
    omega
  have hq : 0 ≤ (x - i) / c := Int.ediv_nonneg (by omega) (by omega)
  refine ⟨((x - i) / c).toNat, ?_, ?_⟩
  · unfold turns
    rw [if_pos (by omega)]
    have : (x - i) / c ≤ (j - i - 1) / c := Int.ediv_le_ediv hc (by omega)
    omega
  · rw [show ((((x - i) / c).toNat : Nat) : Int) = (x - i) / c by omega, Int.mul_comm]
    omega
def iRngB (ta : TA) : TI := fun σ H R => ta σ H fun vs H1 => ∃ (i j c : Int), vs = [.int i, .int j, .int c] ∧ 0 < c ∧ c < 2 ^ 62 ∧ 0 ≤ i ∧ i < 2 ^ 62 ∧ 0 ≤ j ∧ j < 2 ^ 62 ∧ R (Itc i c (turns i j c)) H1
section
variable {X : Cx} {tg : Expr}
theorem pi_rangeB {a b c : Expr} {ta : TA} {p pos : Pos} (hg : Gl X "range") (hm : X.mg "range" = none) (ha : PA X [a, b, c] ta)
    (hs : starEach [a, b, c] X.env = (false, eval a X.env) :: starEach [b, c] X.env := by rfl) (hpl : (backTo pos (starEach [b, c] X.env)).any (·.1) = false := by rfl) :
    PI X tg (.Call (.Name "range" p) [a, b, c] [] pos) (iRngB ta) := by
  refine ⟨fun pins s σ H R I h => ?_⟩
  refine Call_ (ld_blt I hg hm boot_range (PyProof.Rows.callWith_type1 (thn (ha.run pos pins s σ H _ I h) fun us s1 ⟨vs, H1, I1, r1, q1⟩ => ?_) hs hpl))
  obtain ⟨i, j, k, e, c0, c1, i0, i1, j0, j1, q⟩ := q1
  subst e
  obtain ⟨t, t', t'', rfl⟩ : ∃ t t' t'', us = [.int i t, .int j t', .int k t''] := by
    cases r1 with
    | cons r rr =>
      cases rr with
      | cons r' rr =>
        cases rr with
        | cons r'' rr =>
          cases rr
          obtain ⟨t, rfl⟩ := r
          obtain ⟨t', rfl⟩ := r'
          obtain ⟨t'', rfl⟩ := r''
          exact ⟨t, t', t'', rfl⟩
  have hl : k.natAbs.log2 < 9000 := by
    have : k.natAbs.log2 < 62 := (Nat.log2_lt (by omega)).mpr (by omega)
    omega
  have hsm : Builtin.Range.small i j k = true := by
    unfold Builtin.Range.small
    rw [turns_size c0]
    have hb : (turns i j k : Int) ≤ 2 ^ 62 := by
      unfold turns
      by_cases h : i < j
      · rw [if_pos h]
        have := Int.ediv_le_self k (show 0 ≤ j - i - 1 by omega)
        have := Int.ediv_nonneg (show 0 ≤ j - i - 1 by omega) (show 0 ≤ k by omega)
        omega
      · rw [if_neg h]
        decide
    simp only [Builtin.Range.rangeFitsLong, Bool.and_eq_true, Bool.or_eq_true, decide_eq_true_eq, beq_iff_eq, if_pos c0]
    omega
  refine call_range_3 (by omega) ?_ (.inl (PyProof.noPylong_of_log2 hl))
  refine wpAny_pyIter_range (IsRange.new ..) hsm ?_
  have I2 : Inv X pins σ H1 { s1 with heap := s1.heap.push { cls := .type "range", data := .fields #[.int i t, .int j t', .int k t''] } } := I1.kept (t' := s1.toks) fun b o e => Heap.get?_push_of_some _ e
  refine pi_one (tk := s1.toks) I2 _ (turn_rangeC _ i k (turns i j k)) ?_ q
  have e1 : i + ((0 : Nat) : Int) * k = i := by simp
  have e2 : ((turns i j k : Nat) : Int) - ((0 : Nat) : Int) = Builtin.Range.rangeSize i j k := by rw [turns_size c0]; simp
  show IsRangeIter _ _ (i + ((0 : Nat) : Int) * k) (((turns i j k : Nat) : Int) - ((0 : Nat) : Int)) k
  rw [e1, e2]
  exact Heap.get?_push_size _ rfl
end
section
variable {K : PySem.W.Frag} {ta : TA} {g : TG} {tb : TS} {D : Ends} {σ : L2.St} {H : Hp} {a : Addr} {xs : List V} {lo c : Int} {n : Nat}
theorem g_forB (h : ta σ H fun vs H1 => ∃ (i j c : Int), vs = [.int i, .int j, .int c] ∧ 0 < c ∧ c < 2 ^ 62 ∧ 0 ≤ i ∧ i < 2 ^ 62 ∧ 0 ≤ j ∧ j < 2 ^ 62 ∧ tFor (fun _ H R => R (Itc i c (turns i j c)) H) g tb D σ H1) : tFor (iRngB ta) g tb D σ H := h
theorem f_rangeC (Pv : Nat → L2.St → Hp → Prop) (h0 : Pv 0 σ H)
    (hs : ∀ i σ H, i < n → Pv i σ H → g (.int (lo + (i : Nat) * c)) σ H fun σ2 H2 => tb { D with nx := Pv (i + 1), ct := Pv (i + 1), bk := D.nx } σ2 H2)
    (hd : ∀ σ H, Pv n σ H → D.nx σ H) : tFor (fun _ H R => R (Itc lo c n) H) g tb D σ H := for_rangeC Pv h0 hs hd
theorem g_forEL (h : ta σ H fun vs H1 => ∃ (a : Addr) (xs : List V), vs = [.ref a] ∧ SqL K H1 a xs ∧ tFor (fun _ H R => R (Ite K a) H) g tb D σ H1) : tFor (iEnum K ta) g tb D σ H := h
/-- over a list by its places -/
theorem f_enumL (Pv : Nat → L2.St → Hp → Prop) (h0 : Pv 0 σ H) (hl : ∀ i σ H, Pv i σ H → H a = some (.lst xs))
    (hs : ∀ i x σ H p, xs[i]? = some x → Pv i σ H → H p = none → g (.ref p) σ (L2.upd H p (.tup [.int (i : Nat), x])) fun σ2 H2 => tb { D with nx := Pv (i + 1), ct := Pv (i + 1), bk := D.nx } σ2 H2)
    (hd : ∀ σ H, Pv xs.length σ H → D.nx σ H) : tFor (fun _ H R => R (Ite K a) H) g tb D σ H := by
  refine ⟨fun i m σ H => m = xs.length - i ∧ i ≤ xs.length ∧ Pv i σ H, ⟨_, rfl, Nat.zero_le _, h0⟩, ?_⟩
  rintro i m σ H ⟨rfl, hi, p⟩
  have at_ := SqL.of (K := K) (hl i σ H p)
  by_cases lt : i < xs.length
  · refine .inr ⟨⟨xs, xs[i], at_, List.getElem?_eq_getElem lt⟩, Pv (i + 1), fun σ' H' p' => ⟨xs.length - (i + 1), by omega, rfl, lt, p'⟩, ?_⟩
    rintro x H' ⟨T, y, rfl, n, rfl, hy⟩
    exact hs i y σ H T (hy xs at_) p n
  · have e : i = xs.length := by omega
    subst e
    exact .inl ⟨⟨xs, at_, Nat.le_refl _⟩, hd σ H p⟩
end
theorem map_set {f : Nat → V} {N q : Nat} {v : V} : ((List.range N).map f).set q v = (List.range N).map fun k => if k = q then v else f k := by
  refine List.ext_getElem? fun k => ?_
  rw [List.getElem?_set, List.getElem?_map, List.getElem?_map]
  by_cases hk : k < N
  · rw [List.getElem?_range hk, List.length_map, List.length_range]
    by_cases e : q = k
    · subst e
      rw [if_pos rfl, if_pos hk]
      simp
    · rw [if_neg e]
      simp [Ne.symm e]
  · rw [List.getElem?_eq_none (l := List.range N) (by simpa using hk), List.length_map, List.length_range]
    by_cases e : q = k
    · subst e
      rw [if_pos rfl, if_neg hk]
      rfl
    · rw [if_neg e]
      rfl
theorem rep_one {v : V} : ∀ N : Nat, (List.replicate N [v]).flatten = (List.range N).map fun _ => v := fun N => by
  rw [List.map_const', List.length_range]
  induction N with
  | zero => rfl
  | succ n ih => rw [List.replicate_succ, List.flatten_cons, ih]; rfl
/-- a choice as a test -/
def tTif (c a b : TT) : TT := fun σ H Q => c σ H fun k H1 => if k = true then a σ H1 Q else b σ H1 Q
theorem pt_ifExp {X : Cx} {c a b : Expr} {tc ta tb : TT} {pos : Pos} (hc : PT X c tc) (ha : PT X a ta) (hb : PT X b tb) : PT X (.IfExp c a b pos) (tTif tc ta tb) := by
  refine ⟨fun pins s σ H Q I h => ?_⟩
  refine isTrue_IfExp (thn (hc.run pins s σ H _ I h) fun d s1 ⟨H1, I1, q1⟩ => ?_)
  cases d with
  | true => exact ha.run pins s1 σ H1 Q I1 q1
  | false => exact hb.run pins s1 σ H1 Q I1 q1
theorem g_tif {c a b : TT} {σ : L2.St} {H : Hp} {Q : Bool → Hp → Prop} (h : c σ H fun k H1 => if k = true then a σ H1 Q else b σ H1 Q) : tTif c a b σ H Q := h
abbrev rLenK (K : PySem.W.Frag) : List V → Hp → VK → Prop := fun xs H Q => ∃ p ys, xs = [V.ref p] ∧ (SqL K H p ys ∨ SqT K H p ys) ∧ Q (.int ys.length) H
theorem call_lenK {X : Cx} : CallR X (.builtin "len") (rLenK X.K) := call_len_seq
section
variable {K : PySem.W.Frag} {g : TG} {σ : L2.St} {H : Hp} {tt : TT} {te : TE} {vs : List Nat} {Q : VK} {a : Addr} {xs : List V}
/-- over a tuple, each step draws from the deck -/
theorem c_tupG {Dk0 : Dk} (R : Nat → Hp → List V → Prop) (hR : ∀ i H H' acc, TupKeep H H' → R i H acc → R i H' acc) (ha : H a = some (.tup xs)) (hz : xs.length ≤ 1000000) (dk : DeckAt Dk0 H) (h0 : R 0 H [])
    (hs : ∀ i x H' acc (Kt : V → Hp → Prop) (Kf : Hp → Prop), xs[i]? = some x → Gr Dk0 H H' → R i H' acc → acc.length ≤ i →
      (∀ y H4, Gr Dk0 H' H4 → R (i + 1) H4 (acc ++ [y]) → Kt y H4) → (∀ H3, Gr Dk0 H' H3 → R (i + 1) H3 acc → Kf H3) →
      g x (wipe σ vs) H' fun σ2 H2 => wipe σ2 vs = wipe σ vs ∧ tt σ2 H2 fun b H3 => if b = true then te σ2 H3 Kt else Kf H3)
    (hd : ∀ D H' acc, H D = none → Gr Dk0 H H' → Off Dk0 H' D (.lst acc) → acc.length ≤ xs.length → R xs.length H' acc → Q (.ref D) H') : tLc (fun _ H R => R (Itt K a) H) g tt te vs σ H Q := by
  refine c_tup (xs := xs) (fun D i H' => H D = none ∧ Gr Dk0 H H' ∧ ∃ acc, H' D = some (.lst acc) ∧ acc.length ≤ i ∧ R i H' acc)
    (fun D hD => ⟨hD, (Gr.refl dk).new hD, [], upd_same, Nat.le_refl _, hR _ _ _ _ (TupKeep.upd hD) h0⟩) (fun D i H' q => SqT.of (q.2.1.tup dk ha)) ?_ ?_
  · rintro D i x H' hx ⟨nD, s, acc, e, hl, r⟩
    obtain ⟨n0, n1, _⟩ := dk.ne nD
    have hi : i < xs.length := (List.getElem?_eq_some_iff.mp hx).1
    refine hs i x H' acc _ _ hx s r hl (fun y H4 s4 r4 => ?_) (fun H3 s3 r3 => ?_)
    · exact ⟨acc, s4.keep _ _ e n0 n1, small (by omega), nD, (s.trans s4).mut dk nD, acc ++ [y], upd_same, by rw [List.length_append]; show acc.length + 1 ≤ _; omega, hR _ _ _ _ (TupKeep.lst (s4.keep _ _ e n0 n1)) r4⟩
    · exact ⟨nD, s.trans s3, acc, s3.keep _ _ e n0 n1, by omega, r3⟩
  · rintro D H' ⟨nD, s, acc, e, hl, r⟩
    obtain ⟨n0, n1, _⟩ := dk.ne nD
    exact hd D H' acc nD s ⟨e, n0, n1, dk.isno nD⟩ hl r
end
section
variable {K : PySem.W.Frag} {g : TG} {σ : L2.St} {H : Hp} {tt : TT} {te : TE} {vs : List Nat} {Q : VK} {a : Addr} {xs : List V}
/-- as c_lstP; what is said of the list made so far speaks of all but that list -/
theorem c_lstS (R : Nat → Hp → List V → Prop) (hR : ∀ i H H' acc, Same H H' → R i H acc → R i H' acc) (ha : H a = some (.lst xs)) (hz : xs.length ≤ 1000000) (h0 : R 0 H [])
    (hs : ∀ D i x H' acc (Kt : V → Hp → Prop) (Kf : Hp → Prop), xs[i]? = some x → Same H H' → H' D = some (.lst acc) → R i (hid D H') acc → acc.length ≤ i →
      (∀ y H4, Same H' H4 → R (i + 1) (hid D H4) (acc ++ [y]) → Kt y H4) → (∀ H3, Same H' H3 → R (i + 1) (hid D H3) acc → Kf H3) →
      g x (wipe σ vs) H' fun σ2 H2 => wipe σ2 vs = wipe σ vs ∧ tt σ2 H2 fun b H3 => if b = true then te σ2 H3 Kt else Kf H3)
    (hd : ∀ D H' acc, H D = none → Same H H' → H' D = some (.lst acc) → acc.length ≤ xs.length → R xs.length H' acc → Q (.ref D) H') : tLc (fun _ H R => R (Itl K a) H) g tt te vs σ H Q := by
  refine c_list (xs := xs) (fun D i H' => H D = none ∧ Same H H' ∧ ∃ acc, H' D = some (.lst acc) ∧ acc.length ≤ i ∧ R i (hid D H') acc)
    (fun D hD => ⟨hD, same_new hD, [], upd_same, Nat.le_refl _, hR _ _ _ _ (fun b o e => by rw [hid_ne (ne_of_none e hD), upd_ne (ne_of_none e hD)]; exact e) h0⟩) (fun D i H' q => SqL.of (q.2.1 _ _ ha)) ?_ ?_
  · rintro D i x H' hx ⟨nD, s, acc, e, hl, r⟩
    have hi : i < xs.length := (List.getElem?_eq_some_iff.mp hx).1
    refine hs D i x H' acc _ _ hx s e r hl (fun y H4 s4 r4 => ?_) (fun H3 s3 r3 => ?_)
    · exact ⟨acc, s4 _ _ e, small (by omega), nD, same_mut (s.trans s4) nD, acc ++ [y], upd_same, by rw [List.length_append]; show acc.length + 1 ≤ _; omega, by rw [hid_upd]; exact r4⟩
    · exact ⟨nD, s.trans s3, acc, s3 _ _ e, by omega, r3⟩
  · rintro D H' ⟨nD, s, acc, e, hl, r⟩
    exact hd D H' acc nD s e hl (hR _ _ _ _ hid_same r)
theorem pairs_hid {D : Addr} {us ys : List V} {ps : List (Int × Int)} (h : H D = some (.lst ys)) (p : PairsAt H us ps) : PairsAt (hid D H) us ps := p.go fun b xs e => by
  rw [hid_ne fun z => by subst z; rw [h] at e; cases e]
  exact e
end
end DW
/-! DWMeet: watches that meet, choices each two of which meet, and the greatest tally. -/
namespace DW
open PySem PySem.Spec PyProof.Rows L2
/-- what the module has of math, gcd alone -/
structure Mtg (mg : Str → Option Value) : Prop where
  gcd : mg "gcd" = some (.builtin "math.gcd")
theorem g_gcd {a b : Int} {H : Hp} {Q : VK} (q : Q (.int (gcdZ a b)) H) : rGcd [.int a, .int b] H Q := ⟨a, b, rfl, q⟩
/-- some day is held by both -/
def Mt (p q : Int × Int) : Prop := (p.2 - q.2) % gcdZ p.1 q.1 = 0
instance (p q : Int × Int) : Decidable (Mt p q) := by unfold Mt; infer_instance
theorem Mt.symm {p q : Int × Int} (h : Mt p q) : Mt q p := by
  unfold Mt at *
  rw [gcdZ_comm]
  have d := Int.dvd_neg.mpr (Int.dvd_of_emod_eq_zero h)
  rw [show -(p.2 - q.2) = q.2 - p.2 by omega] at d
  exact Int.emod_eq_zero_of_dvd d
theorem mt_comm {p q : Int × Int} : Mt p q ↔ Mt q p := ⟨Mt.symm, Mt.symm⟩
theorem Mt.refl (p : Int × Int) : Mt p p := by
  unfold Mt
  rw [Int.sub_self]
  exact Int.zero_emod _
theorem bez : ∀ m n : Nat, ∃ u v : Int, (m : Int) * u + n * v = ((Nat.gcd m n : Nat) : Int) := by
  intro m n
  induction m, n using Nat.gcd.induction with
  | H0 n => exact ⟨0, 1, by rw [Nat.gcd_zero_left]; simp⟩
  | H1 m n hm ih =>
    obtain ⟨u, v, h⟩ := ih
    refine ⟨v - u * ((n / m : Nat) : Int), u, ?_⟩
    rw [Nat.gcd_rec, ← h]
    have e2 : (n : Int) = m * ((n / m : Nat) : Int) + ((n % m : Nat) : Int) := by
      rw [← Int.natCast_mul, ← Int.natCast_add, Nat.div_add_mod]
    have e3 : (n : Int) * u = m * ((n / m : Nat) : Int) * u + ((n % m : Nat) : Int) * u := by
      rw [← Int.add_mul, ← e2]
    rw [e3, Int.mul_sub, show (m : Int) * (u * ((n / m : Nat) : Int)) = m * ((n / m : Nat) : Int) * u by rw [Int.mul_comm u, Int.mul_assoc]]
    omega
/-- a day in both, told for numbers -/
theorem both_day {R t a b : Int} (hR : 0 < R) (ht : 0 < t) (h : (b - a) % gcdZ R t = 0) : ∃ x, R ∣ x - a ∧ t ∣ x - b := by
  obtain ⟨u, v, e⟩ := bez R.natAbs t.natAbs
  have e : R * u + t * v = gcdZ R t := by
    unfold gcdZ
    rw [← e]
    congr 1
    · congr 1; omega
    · congr 1; omega
  obtain ⟨c, hc⟩ := Int.dvd_of_emod_eq_zero h
  refine ⟨a + R * (u * c), ⟨u * c, by omega⟩, ⟨-(v * c), ?_⟩⟩
  have : b - a = R * (u * c) + t * (v * c) := by
    rw [hc, ← e, Int.add_mul, Int.mul_assoc, Int.mul_assoc]
  rw [Int.mul_neg]
  omega
/-- watches each two of which meet have a day that all hold -/
theorem common_day {l : List (Int × Int)} (h0 : ∀ q ∈ l, 0 < q.1) (hm : ∀ p ∈ l, ∀ q ∈ l, Mt p q) : ∃ x : Int, ∀ q ∈ l, (x - q.2) % q.1 = 0 := by
  have key : ∀ n, n ≤ l.length → ∃ x : Int, ∀ q ∈ l.take n, (x - q.2) % q.1 = 0 := by
    intro n
    induction n with
    | zero => exact fun _ => ⟨0, fun q hq => by cases hq⟩
    | succ n ih =>
      intro hn
      obtain ⟨x, hx⟩ := ih (by omega)
      have hln : n < l.length := by omega
      have et : l.take (n + 1) = l.take n ++ [l[n]] := by rw [List.take_add_one, List.getElem?_eq_getElem hln]; rfl
      have hc0 := h0 _ (List.getElem_mem hln)
      have hl0 : ∀ q ∈ l.take n, 0 < q.1 := fun q hq => h0 q (List.mem_of_mem_take hq)
      have hR := roundZ_pos hl0
      have J : JoinL (l.take n) (roundZ (l.take n), x % roundZ (l.take n)) := by
        refine ⟨rfl, Int.emod_nonneg _ (by omega), Int.emod_lt_of_pos _ hR, fun q hq => ?_⟩
        have d1 := dvd_roundZ hq (hl0 q hq)
        have d2 := Int.dvd_of_emod_eq_zero (hx q hq)
        have d3 : q.1 ∣ x % roundZ (l.take n) - x := by
          have := Int.mul_ediv_add_emod x (roundZ (l.take n))
          refine Int.dvd_trans d1 ⟨-(x / roundZ (l.take n)), ?_⟩
          rw [Int.mul_neg]
          omega
        have := Int.dvd_add d3 d2
        rw [show x % roundZ (l.take n) - x + (x - q.2) = x % roundZ (l.take n) - q.2 by omega] at this
        exact Int.emod_eq_zero_of_dvd this
      have M := J.helly (c := l[n]) hl0 hc0 fun q hq => by
        have := hm _ (List.getElem_mem hln) q (List.mem_of_mem_take hq)
        unfold Mt at this
        rw [gcdZ_comm]
        exact this
      obtain ⟨y, y1, y2⟩ := both_day hR hc0 M
      refine ⟨y, fun q hq => ?_⟩
      rw [et] at hq
      rcases List.mem_append.mp hq with hq | hq
      · have d1 := Int.dvd_trans (dvd_roundZ hq (hl0 q hq)) y1
        have := Int.dvd_add d1 (Int.dvd_of_emod_eq_zero (J.h q hq))
        rw [show y - x % roundZ (l.take n) + (x % roundZ (l.take n) - q.2) = y - q.2 by omega] at this
        exact Int.emod_eq_zero_of_dvd this
      · rw [List.mem_singleton.mp hq]
        exact Int.emod_eq_zero_of_dvd y2
  have := key l.length (Nat.le_refl _)
  rwa [List.take_length] at this
theorem hld_iff {p : Int × Int} {x : Int} : Hld p x = true ↔ (x - p.2) % p.1 = 0 := by
  unfold Hld
  rw [decide_eq_true_eq]
theorem mt_of_day {p q : Int × Int} {x : Int} (hp : (x - p.2) % p.1 = 0) (hq : (x - q.2) % q.1 = 0) : Mt p q := by
  have d1 := Int.dvd_trans (gcdZ_left p.1 q.1) (Int.dvd_of_emod_eq_zero hp)
  have d2 := Int.dvd_trans (gcdZ_right p.1 q.1) (Int.dvd_of_emod_eq_zero hq)
  have d3 := Int.dvd_sub d2 d1
  rw [show x - q.2 - (x - p.2) = p.2 - q.2 by omega] at d3
  exact Int.emod_eq_zero_of_dvd d3
/-! ### all choices that fit, in the order in which they are made -/
section
variable {α β : Type}
def grpStep (fit : α → List α → Bool) (gs : List (List α)) (x : α) : List (List α) := gs ++ (gs.filter (fit x)).map (· ++ [x])
def grp (fit : α → List α → Bool) (xs : List α) : List (List α) := xs.foldl (grpStep fit) [[]]
theorem grp_snoc {fit : α → List α → Bool} {xs : List α} {x : α} : grp fit (xs ++ [x]) = grpStep fit (grp fit xs) x := by
  unfold grp
  rw [List.foldl_append]
  rfl
theorem grp_len {fit : α → List α → Bool} : ∀ n, ∀ {xs : List α}, xs.length = n → (grp fit xs).length ≤ 2 ^ n ∧ grp fit xs ≠ [] ∧ ∀ g ∈ grp fit xs, g.length ≤ n := by
  intro n
  induction n with
  | zero =>
    intro xs h
    obtain rfl := List.eq_nil_of_length_eq_zero h
    exact ⟨Nat.le_refl 1, by simp [grp], fun g hg => by simp [grp] at hg; subst hg; simp⟩
  | succ n ih =>
    intro xs h
    obtain ⟨ys, x, rfl⟩ : ∃ ys x, xs = ys ++ [x] := ⟨xs.dropLast, xs.getLast (by intro e; subst e; cases h), (List.dropLast_concat_getLast _).symm⟩
    rw [List.length_append] at h
    obtain ⟨h1, h2, h3⟩ := ih (xs := ys) (by simpa using h)
    rw [grp_snoc]
    unfold grpStep
    refine ⟨?_, by simp [h2], fun g hg => ?_⟩
    · rw [List.length_append, List.length_map]
      have := List.length_filter_le (fit x) (grp fit ys)
      rw [Nat.pow_succ]
      omega
    · rcases List.mem_append.mp hg with hg | hg
      · have := h3 g hg
        omega
      · obtain ⟨g', hg', rfl⟩ := List.mem_map.mp hg
        have := h3 g' (List.mem_filter.mp hg').1
        rw [List.length_append]
        show g'.length + 1 ≤ _
        omega
theorem grp_map {fit : α → List α → Bool} {fit' : β → List β → Bool} (f : α → β) (h : ∀ x ss, fit' (f x) (ss.map f) = fit x ss) (xs : List α) : grp fit' (xs.map f) = (grp fit xs).map (List.map f) := by
  unfold grp
  have key : ∀ (xs : List α) (gs : List (List α)), (xs.map f).foldl (grpStep fit') (gs.map (List.map f)) = (xs.foldl (grpStep fit) gs).map (List.map f) := by
    intro xs
    induction xs with
    | nil => intro gs; rfl
    | cons x xs ih =>
      intro gs
      rw [List.map_cons, List.foldl_cons, List.foldl_cons, ← ih]
      congr 1
      unfold grpStep
      rw [List.map_append, List.filter_map, List.map_map, List.map_map]
      congr 1
      have : (fit' (f x) ∘ List.map f) = fit x := funext fun ss => h x ss
      rw [this]
      refine List.map_congr_left fun ss _ => ?_
      show ss.map f ++ [f x] = (ss ++ [x]).map f
      rw [List.map_append]
      rfl
  exact key xs [[]]
end
theorem grp_sub {α : Type} {fit : α → List α → Bool} : ∀ n, ∀ {xs : List α}, xs.length = n → ∀ g ∈ grp fit xs, ∀ y ∈ g, y ∈ xs := by
  intro n
  induction n with
  | zero =>
    intro xs h g hg y hy
    obtain rfl := List.eq_nil_of_length_eq_zero h
    simp [grp] at hg
    subst hg
    cases hy
  | succ n ih =>
    intro xs h g hg y hy
    obtain ⟨ys, x, rfl⟩ : ∃ ys x, xs = ys ++ [x] := ⟨xs.dropLast, xs.getLast (by intro e; subst e; cases h), (List.dropLast_concat_getLast _).symm⟩
    rw [List.length_append] at h
    have ih := ih (xs := ys) (by simpa using h)
    rw [grp_snoc] at hg
    rcases List.mem_append.mp hg with hg | hg
    · exact List.mem_append_left _ (ih g hg y hy)
    · obtain ⟨g', hg', rfl⟩ := List.mem_map.mp hg
      rcases List.mem_append.mp hy with hy | hy
      · exact List.mem_append_left _ (ih g' (List.mem_filter.mp hg').1 y hy)
      · exact List.mem_append_right _ hy
/-- a watch beside others: it meets each of them -/
def fitW (w : Int × Int) (ws : List (Int × Int)) : Bool := ws.all fun q => decide (Mt w q)
theorem grp_meet {lot : List (Int × Int)} : ∀ g ∈ grp fitW lot, g.Sublist lot ∧ ∀ p ∈ g, ∀ q ∈ g, Mt p q := by
  have key : ∀ n, ∀ lot : List (Int × Int), lot.length = n → ∀ g ∈ grp fitW lot, g.Sublist lot ∧ ∀ p ∈ g, ∀ q ∈ g, Mt p q := by
    intro n
    induction n with
    | zero =>
      intro xs h g hg
      obtain rfl := List.eq_nil_of_length_eq_zero h
      simp [grp] at hg
      subst hg
      exact ⟨.slnil, fun _ h => nomatch h⟩
    | succ n ih =>
      intro xs h g hg
      obtain ⟨ys, x, rfl⟩ : ∃ ys x, xs = ys ++ [x] := ⟨xs.dropLast, xs.getLast (by intro e; subst e; cases h), (List.dropLast_concat_getLast _).symm⟩
      rw [List.length_append] at h
      have ih := ih ys (by simpa using h)
      rw [grp_snoc] at hg
      rcases List.mem_append.mp hg with hg | hg
      · obtain ⟨h1, h2⟩ := ih g hg
        exact ⟨h1.trans (List.sublist_append_left _ _), h2⟩
      · obtain ⟨g', hg', rfl⟩ := List.mem_map.mp hg
        obtain ⟨m1, m2⟩ := List.mem_filter.mp hg'
        obtain ⟨h1, h2⟩ := ih g' m1
        have hx : ∀ q ∈ g', Mt x q := fun q hq => by simpa using List.all_eq_true.mp m2 q hq
        refine ⟨h1.append (List.Sublist.refl _), fun p hp q hq => ?_⟩
        rcases List.mem_append.mp hp with hp | hp <;> rcases List.mem_append.mp hq with hq | hq
        · exact h2 p hp q hq
        · rw [List.mem_singleton.mp hq]
          exact (hx p hp).symm
        · rw [List.mem_singleton.mp hp]
          exact hx q hq
        · rw [List.mem_singleton.mp hp, List.mem_singleton.mp hq]
          exact Mt.refl _
  exact key lot.length lot rfl
theorem grp_has {lot : List (Int × Int)} (f : Int × Int → Bool) (h : ∀ p ∈ lot, ∀ q ∈ lot, f p = true → f q = true → Mt p q) : lot.filter f ∈ grp fitW lot := by
  have key : ∀ n, ∀ lot : List (Int × Int), lot.length = n → (∀ p ∈ lot, ∀ q ∈ lot, f p = true → f q = true → Mt p q) → lot.filter f ∈ grp fitW lot := by
    intro n
    induction n with
    | zero =>
      intro xs h _
      obtain rfl := List.eq_nil_of_length_eq_zero h
      simp [grp]
    | succ n ih =>
      intro xs h hm
      obtain ⟨ys, x, rfl⟩ : ∃ ys x, xs = ys ++ [x] := ⟨xs.dropLast, xs.getLast (by intro e; subst e; cases h), (List.dropLast_concat_getLast _).symm⟩
      rw [List.length_append] at h
      have ih := ih ys (by simpa using h) fun p hp q hq => hm p (List.mem_append_left _ hp) q (List.mem_append_left _ hq)
      rw [grp_snoc, List.filter_append]
      unfold grpStep
      by_cases hx : f x = true
      · rw [show [x].filter f = [x] by simp [hx]]
        refine List.mem_append_right _ (List.mem_map.mpr ⟨_, List.mem_filter.mpr ⟨ih, ?_⟩, rfl⟩)
        unfold fitW
        rw [List.all_eq_true]
        intro q hq
        obtain ⟨q1, q2⟩ := List.mem_filter.mp hq
        simpa using hm x (List.mem_append_right _ List.mem_cons_self) q (List.mem_append_left _ q1) hx q2
      · rw [show [x].filter f = [] by simp [hx], List.append_nil]
        exact List.mem_append_left _ ih
  exact key lot.length lot rfl h
/-- m is the greatest tally of all days -/
structure MostT (lot : List (Int × Int)) (m : Int) : Prop where
  le : ∀ x, tallyZ lot x ≤ m
  at_ : ∃ x, tallyZ lot x = m
theorem most_of {lot : List (Int × Int)} (hw : ∀ p ∈ lot, 0 < p.1) {m : Int} (hm : m ∈ (grp fitW lot).map fun g => ((g.length : Nat) : Int)) (hle : ∀ y ∈ (grp fitW lot).map fun g => ((g.length : Nat) : Int), y ≤ m) : MostT lot m := by
  have le : ∀ x, tallyZ lot x ≤ m := fun x => by
    rw [tally_filter]
    exact hle _ (List.mem_map.mpr ⟨_, grp_has (fun p => Hld p x) (fun p _ q _ hp hq => mt_of_day (hld_iff.mp hp) (hld_iff.mp hq)), rfl⟩)
  refine ⟨le, ?_⟩
  obtain ⟨g, hg, rfl⟩ := List.mem_map.mp hm
  obtain ⟨g1, g2⟩ := grp_meet g hg
  obtain ⟨x, hx⟩ := common_day (fun q hq => hw q (g1.subset hq)) g2
  refine ⟨x, Int.le_antisymm (le x) ?_⟩
  rw [tally_filter]
  have h1 : g.filter (fun p => Hld p x) = g := List.filter_eq_self.mpr fun q hq => hld_iff.mpr (hx q hq)
  have h2 := (g1.filter fun p => Hld p x).length_le
  rw [h1] at h2
  omega
theorem MostT.uniq {lot : List (Int × Int)} {m n : Int} (h : MostT lot m) (k : MostT lot n) : m = n := by
  obtain ⟨x, hx⟩ := h.at_
  obtain ⟨y, hy⟩ := k.at_
  have := h.le y
  have := k.le x
  omega
/-- m is the least tally of all days -/
structure LeastT (lot : List (Int × Int)) (m : Int) : Prop where
  le : ∀ x, m ≤ tallyZ lot x
  at_ : ∃ x, tallyZ lot x = m
theorem LeastT.uniq {lot : List (Int × Int)} {m n : Int} (h : LeastT lot m) (k : LeastT lot n) : m = n := by
  obtain ⟨x, hx⟩ := h.at_
  obtain ⟨y, hy⟩ := k.at_
  have := h.le y
  have := k.le x
  omega
/-- the day of a round that is just as a day is -/
theorem in_round {lot : List (Int × Int)} (hw : ∀ p ∈ lot, 0 < p.1) (x : Int) : 0 ≤ x % roundZ lot ∧ x % roundZ lot < roundZ lot ∧ tallyZ lot (x % roundZ lot) = tallyZ lot x := by
  have hr := roundZ_pos hw
  refine ⟨Int.emod_nonneg x (by omega), Int.emod_lt_of_pos x hr, ?_⟩
  have h4 := tally_round hw (z := roundZ lot * (x / roundZ lot)) (Int.dvd_mul_right _ _) (x % roundZ lot)
  rw [show x % roundZ lot + roundZ lot * (x / roundZ lot) = x by have := Int.mul_ediv_add_emod x (roundZ lot); omega] at h4
  exact h4.symm
end DW
/-! DWTup: t[::-1], () * n, and more of tuples; how long the texts of data are. -/
namespace DW
open PySem PySem.Spec PyProof.Rows L2

/-! ### t[::-1] -/
theorem back_adjust (n : Nat) : Builtin.Slice.sliceAdjust none none (-1) (n : Int) = ((n : Int) - 1, -1) := by
  unfold Builtin.Slice.sliceAdjust
  simp
theorem back_places (n : Nat) : Builtin.Slice.slicePlaces ((n : Int) - 1) (-1) (-1) = n := by
  unfold Builtin.Slice.slicePlaces
  simp only [show ¬ ((-1 : Int) > 0) by omega, if_false, show (- -1 : Int) = 1 by decide, Int.ediv_one]
  split <;> omega
theorem back_pick (xs : Array Value) : ((List.range xs.size).filterMap fun (m : Nat) => xs[(((xs.size : Nat) : Int) - 1 + (m : Int) * -1).toNat]?).toArray = xs.toList.reverse.toArray := by
  have e : (fun (m : Nat) => xs[(((xs.size : Nat) : Int) - 1 + (m : Int) * -1).toNat]?) = (fun i => xs[i]?) ∘ fun m => xs.size - 1 - m := by
    funext m
    have z : (((xs.size : Nat) : Int) - 1 + (m : Int) * -1).toNat = xs.size - 1 - m := by omega
    simp only [Function.comp, z]
  rw [e, ← List.filterMap_map, PySem.W.krv_range, List.filterMap_reverse, PySem.W.krv_all]
section
variable {prog : Program} {w : World} {A : Around} {E : Value → Shared → Prop} {s : Shared}
theorem back_applied {sl : Addr} {vs : Value} {n : Nat} {Q : Int × Int × Nat → Shared → Prop} (hs : s.heap.IsSliceOf sl .none .none vs) (ps : IsPart vs (some (-1)))
    (h : Q ((n : Int) - 1, -1, n) s) : wpAny (model prog w) A (Builtin.Slice.sliceApplied (.ref sl) (pure (n : Int))) Q E s := by
  obtain ⟨ob, hob, hcb, hdb⟩ := id hs
  unfold Builtin.Slice.sliceApplied Builtin.Slice.sliceFields
  refine wpAny_bind (wpAny_bind (wpAny_field hob hdb (x := .none) rfl (wpAny_bind (wpAny_field hob hdb (x := .none) rfl (wpAny_bind (wpAny_field hob hdb (x := vs) rfl (wpAny_pure ?_)))))))
  refine wpAny_bind (HT.slicePart_ ps ?_)
  show wpAny _ _ (if ((-1 : Int) == 0) = true then _ else _) _ _ s
  rw [if_neg (show ¬ ((-1 : Int) == 0) = true by decide)]
  refine wpAny_bind (slicePart_none (wpAny_bind (slicePart_none (wpAny_bind (wpAny_pure ?_)))))
  show wpAny _ _ (match Builtin.Slice.sliceAdjust none none (-1) (n : Int) with | (lo, hi) => pure (lo, (-1 : Int), Builtin.Slice.slicePlaces lo hi (-1))) _ _ s
  rw [back_adjust]
  show wpAny _ _ (pure ((n : Int) - 1, (-1 : Int), Builtin.Slice.slicePlaces ((n : Int) - 1) (-1) (-1))) _ _ s
  rw [back_places]
  exact wpAny_pure h
theorem back_item {t sl : Addr} {items : Array Value} {vs : Value} {Q : Value → Shared → Prop} (ht : IsTup s.heap t items) (hs : s.heap.IsSliceOf sl .none .none vs) (ps : IsPart vs (some (-1)))
    (h : Q (.ref s.heap.objs.size) { s with heap := s.heap.push { cls := .type "tuple", data := .seq items.toList.reverse.toArray } })
    (hsz : items.size ≤ sizeLine) : wpAny (model prog w) A (getItem (.ref t) (.ref sl)) Q E s := by
  have hok : sizeOk (.seq items.toList.reverse.toArray) := by
    show items.toList.reverse.toArray.size ≤ sizeLine
    rw [List.size_toArray, List.length_reverse, Array.length_toList]
    exact hsz
  obtain ⟨ob, hob, hcb, hdb⟩ := id hs
  have hTb : s.TypeIs (.ref sl) "slice" := ⟨ob, hob, hcb⟩
  unfold getItem
  try with_reducible refine wpAny_holding ?_
  first | refine wpAny_bind (wpAny_pure ?_) | skip
  refine wpAny_bind (wpAny_sequenceKey (ht.typeIs) (by decide) ?_)
  refine wpAny_bind (wpAny_callSpecial?_slot (name := Str.ofString "__getitem__") (ht.typeIs) PyProof.Rows.slot_tuple_getitem (wpAny_call_entry PyProof.Rows.slot_tuple_getitem ht.typeIs entry_tuple_getitem ?_ (args_tuple_getitem _ _)))
  show wpAny _ _ (Builtin.Tuple.tupleItemsOf (Value.ref t) >>= _) _ _ s
  refine wpAny_bind (tupleItemsOf_ ht (wpAny_bind (wpAny_typeOf hTb ?_)))
  rw [if_pos (show _ from by decide)]
  refine wpAny_bind (back_applied hs ps ?_)
  show wpAny _ _ (if ((((items.size : Nat) : Int) - 1) == 0 && (-1 : Int) == 1 && items.size == items.size) = true then _ else _) _ _ s
  rw [if_neg (by simp), back_pick]
  first
    | exact wpAny_bind (m := Builtin.Tuple.tupleExact _) (wpAny_newObj_type (wpAny_pure ⟨_, rfl, wpAny_pure h⟩) hok)
    | exact wpAny_bind (m := Builtin.Tuple.tupleExact _) (wpAny_newObj_type (wpAny_bind (wpAny_pure (wpAny_pure ⟨_, rfl, wpAny_pure h⟩))) hok)
    | exact wpAny_bind (wpAny_bind (m := Builtin.Tuple.tupleExact _) (wpAny_newObj_type (wpAny_pure (wpAny_pure ⟨_, rfl, wpAny_pure h⟩)) hok))
    | exact wpAny_bind (wpAny_bind (m := Builtin.Tuple.tupleExact _) (wpAny_newObj_type (wpAny_pure ⟨_, rfl, wpAny_pure h⟩) hok))
end
def tBack (K : PySem.W.Frag) (te : TE) : TE := fun σ H Q => te σ H fun x H1 => ∃ a xs, x = .ref a ∧ SqT K H1 a xs ∧ ∀ p, H1 p = none → Q (.ref p) (L2.upd H1 p (.tup xs.reverse))
section
variable {X : Cx}
theorem pe_back {e : Expr} {te : TE} {k : Nat} {p1 p2 p3 pos : Pos} (he : PE X e te) : PE X (.Subscript e (.Slice none none (some (.UnaryOp .USub (.Constant (.int 1) k p1) p2)) p3) pos) (tBack X.K te) := by
  constructor
  intro pins s σ H Q I h
  refine Subscript_ (thn (he.run pins s σ H _ I h) fun v s1 ⟨x, H1, I1, r1, q1⟩ => ?_)
  obtain ⟨a, xs, rfl, hx, q⟩ := q1
  cases r1
  have hst : PO X (some (.UnaryOp .USub (.Constant (.int 1) k p1) p2)) (tPart (tUn (rU fun i => .int (-i)) (tC (.int 1)))) := po_some (pe_un un_neg pe_int)
  refine wpAny_Slice (thn (po_none.run pins s1 σ H1 (fun o H2 => o = none ∧ H2 = H1) I1 ⟨rfl, rfl⟩) fun v2 s2 ⟨l, H2, I2, pl, el, e2⟩ => ?_)
  subst el e2
  refine thn (po_none.run pins s2 σ H2 (fun o H3 => o = none ∧ H3 = H2) I2 ⟨rfl, rfl⟩) fun v3 s3 ⟨u, H3, I3, pu, eu, e3⟩ => ?_
  subst eu e3
  refine thn (hst.run pins s3 σ H3 (fun o H4 => o = some (-1) ∧ H4 = H3) I3 ⟨1, rfl, -1, rfl, rfl, rfl⟩) fun v4 s4 ⟨o, H4, I4, ps, eo, e4⟩ => ?_
  subst eo e4
  cases pl
  cases pu
  have I5 : Inv X pins σ H4 { s4 with heap := s4.heap.push { cls := .type "slice", data := .fields #[.none, .none, v4] } } := I4.kept (t' := s4.toks) fun b ob q => Heap.get?_push_of_some _ q
  obtain ⟨its, r, ht, hz⟩ := I5.tuple hx
  have hlen := r.length
  show wpAny (model X.prog X.w) X.A (subscriptTail e (.Slice none none (some (.UnaryOp .USub (.Constant (.int 1) k p1) p2)) p3) (.ref a) (.ref s4.heap.objs.size)) (EP X pins σ Q) X.xe { s4 with heap := s4.heap.push { cls := .type "slice", data := .fields #[.none, .none, v4] } }
  refine tail_any (ops := [.ref a, .ref s4.heap.objs.size]) ht.typeIs (PyProof.Rows.slot_tuple_getitem.lookup) ?_ (by with_unfolding_all rfl)
  refine back_item ht (Heap.IsSliceOf.new _ .none .none v4) ps ?_ (by rw [List.size_toArray]; omega)
  refine ⟨.ref _, _, I5.laid (t' := s4.toks) (o := .tup xs.reverse) (fun b ob q => Heap.get?_push_of_some _ q) (Nat.le_refl _) ?_, rfl, q _ (I5.hok.fresh (Nat.le_refl _))⟩
  exact ⟨by rw [List.length_reverse]; exact hz, _, r.reverse, IsTup.new _ _⟩
end

/-! ### t * n, () * n too -/
theorem none_mul (l : Addr) (n : Nat) (dd : Option Addr) (sl : Array (Option Value)) (x : Int) (u : Tok) (c0 : (decide (x < -(2 ^ 63)) || decide (x ≥ 2 ^ 63)) = false) :
    Meets (Builtin.«tuple.__mul__» ⟨[.ref l, .int x u], []⟩) (fun _ R s => s.heap.get? l = some { cls := .type "tuple", dict := dd, data := .seq (#[] : Array Value) n, slots := sl } ∧ R (.ok (.ret (Value.ref l))) s) :=
  .of_wp fun prog w A R s h => by
    obtain ⟨hp, g, d, tk, os⟩ := s
    obtain ⟨hl, h⟩ := h
    have f1 := AutoSeq1.idx_int
    wp_walk using wpAny_loadPart' hl
    repeat (first
      | (refine wpAny_ite_false (decide_eq_false (by rw [c0]; exact Bool.false_ne_true)) ?_; wp_walk using wpAny_loadPart' hl)
      | (refine wpAny_ite_true (decide_eq_true rfl) ?_; wp_walk using wpAny_loadPart' hl))
    exact ⟨_, rfl, h⟩
def rRepA (K : PySem.W.Frag) : R2 := fun x y H Q => ∃ l k xs, x = .ref l ∧ y = .int k ∧ SqT K H l xs ∧ 2 ≤ k ∧ k ≤ 1000 ∧ xs.length ≤ 1000 ∧ (xs = [] → Q (.ref l) H) ∧ (xs ≠ [] → ∀ p, H p = none → Q (.ref p) (L2.upd H p (.tup (List.replicate k.toNat xs).flatten)))
section
variable {X : Cx}
theorem op_repA : OpR X (binaryOp .Mult) (rRepA X.K) := by
  intro pins s σ H x y v u Q I rx ry h
  obtain ⟨l, k, xs, rfl, rfl, hT, h1, h2, hz, q0, q⟩ := h
  by_cases hne : xs = []
  · subst hne
    cases rx
    obtain ⟨t, rfl⟩ := ry
    obtain ⟨its, r, ⟨⟨cls, dd, data, sl⟩, ho, hc, n, hd⟩, hs⟩ := I.tuple hT
    simp only at hc hd
    subst hc hd
    cases r
    have c0 : (decide (k < -(2 ^ 63)) || decide (k ≥ 2 ^ 63)) = false := by
      rw [decide_eq_false (show ¬ k < -(2 ^ 63) by omega), decide_eq_false (show ¬ k ≥ 2 ^ 63 by omega)]
      rfl
    refine wpAny_binaryOp_repeat_ref (T := "tuple") (U := "int") (by decide) ⟨_, ho, rfl⟩ (fun s' => typeIs_int s' k t) noFill_tuple_mul F.fills_int_mul F.slot_int_rmul repeat_tuple F.slot_int_index.lookup
      (call_meets F.slot_int_rmul (typeIs_int s k t) F.entry_int_rmul (F.args_int_rmul_2 _ _) (int_rmul_tuple k t l _ n dd sl) ⟨ho, rfl, ⟨_, ho, rfl⟩, call_meets F.slot_tuple_mul ⟨_, ho, rfl⟩ F.entry_tuple_mul (F.args_tuple_mul_2 _ _) (none_mul l n dd sl k t c0) ⟨ho, ?_⟩⟩)
    exact ⟨.ref l, H, I, rfl, q0 rfl⟩
  · exact op_repT pins s σ H _ _ v u Q I rx ry ⟨l, k, xs, rfl, rfl, hT, hne, h1, h2, hz, q hne⟩
end
end DW
/-! DWDay: days that one lot holds and another does not; days seen by every few. -/
namespace DW
open PySem PySem.Spec PyProof.Rows L2
theorem paired_app {α β : Type} {R : α → β → Prop} {l1 l2 : List α} {m1 m2 : List β} (h : Paired R l1 m1) (k : Paired R l2 m2) : Paired R (l1 ++ l2) (m1 ++ m2) := by
  induction h with
  | nil => exact k
  | cons r _ ih => exact .cons r ih
theorem paired_get {α β : Type} {R : α → β → Prop} : ∀ {l : List α} {m : List β}, Paired R l m → ∀ {i : Nat} {a : α} {b : β}, l[i]? = some a → m[i]? = some b → R a b
  | _, _, .nil, _, _, _, e, _ => by simp at e
  | _, _, .cons r _, 0, _, _, e, f => by
    simp at e f
    subst e f
    exact r
  | _, _, .cons _ t, i + 1, _, _, e, f => paired_get t (by simpa using e) (by simpa using f)
theorem paired_uniq {α β : Type} {R : α → β → Prop} {l : List α} (hu : ∀ a ∈ l, ∀ b c, R a b → R a c → b = c) : ∀ {m n : List β}, Paired R l m → Paired R l n → m = n := by
  induction l with
  | nil => intro m n h k; cases h; cases k; rfl
  | cons a l ih =>
    intro m n h k
    cases h with
    | cons r t =>
      cases k with
      | cons r' t' =>
        rw [hu a List.mem_cons_self _ _ r r', ih (fun a m => hu a (List.mem_cons_of_mem _ m)) t t']
/-- the watches that hold some day of these -/
def dueOf (size rest : Int) (lot : List (Int × Int)) : List (Int × Int) := lot.filter fun p => decide ((p.2 - rest) % gcdZ size p.1 = 0)
theorem seen_tally {lot qs : List (Int × Int)} {size rest : Int} (h0 : ∀ p ∈ lot, 0 < p.1) (pd : Paired (SeenOf size rest) (dueOf size rest lot) qs) (d : Int) : tallyZ qs d = tallyZ lot (rest + size * d) := by
  rw [tally_filter, tally_filter]
  have e1 : ∀ {l m : List (Int × Int)}, Paired (SeenOf size rest) l m → (∀ p ∈ l, 0 < p.1) → (m.filter fun p => Hld p d).length = (l.filter fun p => Hld p (rest + size * d)).length := by
    intro l m h
    induction h with
    | nil => intro _; rfl
    | @cons a b l m r _ ih =>
      intro hp
      have i2 := ih fun p hp' => hp p (List.mem_cons_of_mem _ hp')
      have e : Hld b d = Hld a (rest + size * d) := by
        unfold Hld
        have := r.iff (hp a List.mem_cons_self) d
        simp only [this]
      rw [List.filter_cons, List.filter_cons, e]
      split
      · rw [List.length_cons, List.length_cons, i2]
      · exact i2
  have e2 : (dueOf size rest lot).filter (fun p => Hld p (rest + size * d)) = lot.filter (fun p => Hld p (rest + size * d)) := by
    unfold dueOf
    rw [List.filter_filter]
    refine List.filter_congr fun p hp => ?_
    by_cases z : Hld p (rest + size * d) = true
    · rw [z, Bool.true_and]
      refine decide_eq_true ?_
      unfold Hld at z
      have z : (rest + size * d - p.2) % p.1 = 0 := by simpa using z
      have d1 := Int.dvd_trans (gcdZ_right size p.1) (Int.dvd_of_emod_eq_zero z)
      have d2 : gcdZ size p.1 ∣ size * d := Int.dvd_trans (gcdZ_left size p.1) (Int.dvd_mul_right _ _)
      have d3 := Int.dvd_sub d2 d1
      rw [show size * d - (rest + size * d - p.2) = p.2 - rest by omega] at d3
      exact Int.emod_eq_zero_of_dvd d3
    · have z : Hld p (rest + size * d) = false := by simpa using z
      rw [z, Bool.false_and]
  have h1 : ∀ p ∈ dueOf size rest lot, 0 < p.1 := fun p hp => h0 p (List.mem_filter.mp hp).1
  rw [e1 pd h1, e2]

theorem seen_ex {size rest : Int} {p : Int × Int} (hs : 0 < size) (hp : 0 < p.1) (h : (p.2 - rest) % gcdZ size p.1 = 0) : ∃ q, SeenOf size rest p q := by
  obtain ⟨x, ⟨d, hd⟩, h2⟩ := both_day hs hp h
  have hg := gcdZ_pos (a := size) hp
  have hq : 0 < p.1 / gcdZ size p.1 := Int.ediv_pos_of_pos_of_dvd hp (by omega) (gcdZ_right _ _)
  refine ⟨(p.1 / gcdZ size p.1, d % (p.1 / gcdZ size p.1)), rfl, Int.emod_nonneg _ (by omega), Int.emod_lt_of_pos _ hq, ?_⟩
  show (size * (d % (p.1 / gcdZ size p.1)) - (p.2 - rest)) % p.1 = 0
  have d1 : p.1 ∣ size * (d % (p.1 / gcdZ size p.1) - d) := (short_dvd hp).mpr ⟨-(d / (p.1 / gcdZ size p.1)), by
    have := Int.mul_ediv_add_emod d (p.1 / gcdZ size p.1)
    rw [Int.mul_neg]
    omega⟩
  have d2 := Int.dvd_add d1 h2
  rw [Int.mul_sub] at d2
  rw [show size * (d % (p.1 / gcdZ size p.1)) - size * d + (x - p.2) = size * (d % (p.1 / gcdZ size p.1)) - (p.2 - rest) by omega] at d2
  exact Int.emod_eq_zero_of_dvd d2
theorem seenL_ex {size rest : Int} (hs : 0 < size) : ∀ {l : List (Int × Int)}, (∀ p ∈ l, 0 < p.1 ∧ (p.2 - rest) % gcdZ size p.1 = 0) → ∃ qs, Paired (SeenOf size rest) l qs
  | [], _ => ⟨[], .nil⟩
  | p :: l, h => by
    obtain ⟨q, hq⟩ := seen_ex hs (h p List.mem_cons_self).1 (h p List.mem_cons_self).2
    obtain ⟨qs, hqs⟩ := seenL_ex hs fun r hr => h r (List.mem_cons_of_mem _ hr)
    exact ⟨q :: qs, .cons hq hqs⟩
theorem paired_all {α β : Type} {R : α → β → Prop} {S : β → Prop} {l : List α} {m : List β} (h : Paired R l m) (f : ∀ a ∈ l, ∀ b, R a b → S b) : ∀ b ∈ m, S b := by
  induction h with
  | nil => exact fun b hb => nomatch hb
  | cons r _ ih =>
    intro b hb
    rcases List.mem_cons.mp hb with e | e
    · subst e
      exact f _ List.mem_cons_self _ r
    · exact ih (fun a ha => f a (List.mem_cons_of_mem _ ha)) b e
theorem due_ok {size rest : Int} {lot qs : List (Int × Int)} (h0 : ∀ p ∈ lot, 0 < p.1) (pd : Paired (SeenOf size rest) (dueOf size rest lot) qs) : (∀ q ∈ qs, 0 < q.1) ∧ qs.length ≤ lot.length := by
  refine ⟨paired_all pd fun p hp q s => ?_, ?_⟩
  · have := s.lo
    have := s.hi
    omega
  · rw [← pd.length]
    exact List.length_filter_le _ _
/-- 2 ** n days of every few tell all of these -/
theorem step_all {lot : List (Int × Int)} (hw : ∀ p ∈ lot, 0 < p.1) {t f m : Int} (ht : 0 < t) (h : ∀ k : Nat, k < 2 ^ lot.length → m ≤ tallyZ lot (f + t * k)) (j : Int) : m ≤ tallyZ lot (f + t * j) := by
  obtain ⟨qs, pd⟩ := seenL_ex (rest := f) ht (l := dueOf t f lot) fun p hp => by
    obtain ⟨h1, h2⟩ := List.mem_filter.mp hp
    exact ⟨hw p h1, by simpa using h2⟩
  obtain ⟨hq, hl⟩ := due_ok hw pd
  rw [← seen_tally hw pd]
  refine two_all hq (x0 := 0) (fun k hk => ?_) j
  rw [Int.zero_add, seen_tally hw pd]
  exact h k (Nat.lt_of_lt_of_le hk (Nat.pow_le_pow_right (by decide) hl))
/-- the first of the days that a watch holds, from its first on, that a lot leaves open -/
def stepOut (other : List (Int × Int)) (p : Int × Int) : Option Int := ((List.range (2 ^ other.length)).find? fun j => decide (tallyZ other (p.2 + p.1 * ((j : Nat) : Int)) < 1)).map fun j => p.2 + p.1 * ((j : Nat) : Int)
def dayOut (one other : List (Int × Int)) : Option Int := one.findSome? (stepOut other)
theorem tally_nonneg {lot : List (Int × Int)} {x : Int} : 0 ≤ tallyZ lot x := by
  rw [tally_filter]
  omega
theorem stepOut_none {other : List (Int × Int)} (hw : ∀ p ∈ other, 0 < p.1) {p : Int × Int} (hp : 0 < p.1) (h : stepOut other p = none) {x : Int} (hx : Hld p x = true) : 1 ≤ tallyZ other x := by
  unfold stepOut at h
  have h := List.find?_range_eq_none.mp (Option.map_eq_none_iff.mp h)
  have hx := hld_iff.mp hx
  have e : x = p.2 + p.1 * ((x - p.2) / p.1) := by
    have := Int.mul_ediv_add_emod (x - p.2) p.1
    omega
  rw [e]
  refine step_all hw hp (fun k hk => ?_) _
  have := h k hk
  simp at this
  omega
theorem stepOut_some {other : List (Int × Int)} {p : Int × Int} {x : Int} (h : stepOut other p = some x) : ∃ j : Nat, j < 2 ^ other.length ∧ x = p.2 + p.1 * (j : Int) ∧ tallyZ other x = 0 := by
  unfold stepOut at h
  obtain ⟨j, hj, rfl⟩ := Option.map_eq_some_iff.mp h
  obtain ⟨h2, h1, _⟩ := List.find?_range_eq_some.mp hj
  have h2 : tallyZ other (p.2 + p.1 * (j : Int)) < 1 := by simpa using h2
  have := tally_nonneg (lot := other) (x := p.2 + p.1 * (j : Int))
  exact ⟨j, List.mem_range.mp h1, rfl, by omega⟩
theorem hld_step {p : Int × Int} {j : Int} : Hld p (p.2 + p.1 * j) = true := hld_iff.mpr (by rw [show p.2 + p.1 * j - p.2 = p.1 * j by omega]; exact Int.mul_emod_right _ _)
theorem tally_pos {lot : List (Int × Int)} {x : Int} : 1 ≤ tallyZ lot x ↔ ∃ p ∈ lot, Hld p x = true := by
  rw [tally_filter]
  constructor
  · intro h
    obtain ⟨p, hp⟩ := List.exists_mem_of_length_pos (l := lot.filter fun p => Hld p x) (by omega)
    exact ⟨p, (List.mem_filter.mp hp).1, (List.mem_filter.mp hp).2⟩
  · rintro ⟨p, hp, hx⟩
    have := List.length_pos_of_mem ((List.mem_filter (p := fun p => Hld p x)).mpr ⟨hp, hx⟩)
    omega
theorem dayOut_none {one other : List (Int × Int)} (hw : ∀ p ∈ other, 0 < p.1) (h1 : ∀ p ∈ one, 0 < p.1) (h : dayOut one other = none) {x : Int} (hx : 1 ≤ tallyZ one x) : 1 ≤ tallyZ other x := by
  obtain ⟨p, hp, hd⟩ := tally_pos.mp hx
  exact stepOut_none hw (h1 p hp) (List.findSome?_eq_none_iff.mp h p hp) hd
theorem dayOut_some {one other : List (Int × Int)} {x : Int} (h : dayOut one other = some x) : 1 ≤ tallyZ one x ∧ tallyZ other x = 0 ∧ ∃ p ∈ one, ∃ j : Nat, j < 2 ^ other.length ∧ x = p.2 + p.1 * (j : Int) := by
  obtain ⟨p, hp, e⟩ := List.exists_of_findSome?_eq_some h
  obtain ⟨j, j1, j2, j3⟩ := stepOut_some e
  refine ⟨tally_pos.mpr ⟨p, hp, ?_⟩, j3, p, hp, j, j1, j2⟩
  rw [j2]
  exact hld_step
theorem dayOut_iff {one other : List (Int × Int)} (hw : ∀ p ∈ other, 0 < p.1) (h1 : ∀ p ∈ one, 0 < p.1) : dayOut one other = none ↔ ∀ x, 1 ≤ tallyZ one x → 1 ≤ tallyZ other x := by
  constructor
  · exact fun h x hx => dayOut_none hw h1 h hx
  · intro h
    cases e : dayOut one other with
    | none => rfl
    | some x =>
      obtain ⟨a, b, _⟩ := dayOut_some e
      have := h x a
      omega
/-- what is seen of a lot tells the first open step -/
theorem stepOut_seen {other qs : List (Int × Int)} (hw : ∀ p ∈ other, 0 < p.1) {p : Int × Int} (pd : Paired (SeenOf p.1 p.2) (dueOf p.1 p.2 other) qs) : stepOut other p = (firstLow qs 1 (2 ^ qs.length)).map fun j => p.2 + p.1 * j := by
  obtain ⟨hq, hl⟩ := due_ok hw pd
  have hle : 2 ^ qs.length ≤ 2 ^ other.length := Nat.pow_le_pow_right (by decide) hl
  have e : ∀ j : Nat, tallyZ other (p.2 + p.1 * (j : Int)) = tallyZ qs (j : Int) := fun j => (seen_tally hw pd _).symm
  have e2 : firstLow qs 1 (2 ^ qs.length) = firstLow qs 1 (2 ^ other.length) := by
    cases e3 : firstLow qs 1 (2 ^ qs.length) with
    | none => exact (low_miss fun j _ => low_all hq e3 _).symm
    | some x =>
      obtain ⟨x0, x1, x2, x3⟩ := low_some e3
      obtain ⟨n, rfl⟩ : ∃ n : Nat, x = n := ⟨x.toNat, by omega⟩
      exact (low_hit (by omega) (fun j hj => x3 _ (by omega) (by omega)) x2).symm
  rw [e2]
  unfold stepOut firstLow
  rw [Option.map_map]
  simp only [e]
  rfl
end DW
/-! DWFit: how great data is; the judging of watches and lots, as data. -/
namespace DW
open PySem PySem.Spec PyProof.Rows L2

/-- data that is small enough to be told: whether dicts, lists may stand in it; how deep, how many -/
structure Fit (x y : Bool) (k n : Nat) (d : PyData) : Prop where
  s : d.showable = true
  l : d.leavesShort 40 = true
  b : d.bulk ≤ n
  p : d.depth ≤ k
  c : d.hasDict = true → x = true
  h : hasL d = true → y = true
section
variable {x y x' y' : Bool} {k n k' n' : Nat} {d : PyData} {ds : List PyData}
theorem Fit.mono (f : Fit x y k n d) (hx : x = true → x' = true) (hy : y = true → y' = true) (hk : k ≤ k') (hn : n ≤ n') : Fit x' y' k' n' d :=
  ⟨f.s, f.l, Nat.le_trans f.b hn, Nat.le_trans f.p hk, fun z => hx (f.c z), fun z => hy (f.h z)⟩
theorem Fit.up (f : Fit x y k n d) (hk : k ≤ k') (hn : n ≤ n') : Fit x y k' n' d := f.mono id id hk hn
theorem Fit.pure (f : Fit false false k n d) (hk : k ≤ k') (hn : n ≤ n') : Fit x' y' k' n' d := f.mono nofun nofun hk hn
/-- a row of such data -/
theorem fits_all : ∀ {ds : List PyData}, (∀ d ∈ ds, Fit x y k n d) → PyData.showableAll ds = true ∧ PyData.leavesShortAll 40 ds = true ∧ PyData.bulkAll ds ≤ ds.length * (n + 1) ∧ PyData.depthAll ds ≤ k ∧ (PyData.hasDictAll ds = true → x = true) ∧ (hasLAll ds = true → y = true)
  | [], _ => ⟨by simp only [PyData.showableAll], by simp only [PyData.leavesShortAll], by simp only [PyData.bulkAll]; omega, by simp only [PyData.depthAll]; omega, fun z => (by simp only [PyData.hasDictAll] at z; cases z), fun z => (by simp only [hasLAll] at z; cases z)⟩
  | d :: ds, h => by
    have f := h d List.mem_cons_self
    obtain ⟨h1, h2, h3, h4, h5, h6⟩ := fits_all (ds := ds) fun e m => h e (List.mem_cons_of_mem _ m)
    refine ⟨by simp only [PyData.showableAll, f.s, h1, Bool.and_self], by simp only [PyData.leavesShortAll, f.l, h2, Bool.and_self], ?_, ?_, fun z => ?_, fun z => ?_⟩
    · have := f.b
      simp only [PyData.bulkAll, List.length_cons, Nat.add_mul, Nat.one_mul]
      omega
    · have := f.p
      simp only [PyData.depthAll]
      omega
    · simp only [PyData.hasDictAll, Bool.or_eq_true] at z
      exact z.elim f.c h5
    · simp only [hasLAll, Bool.or_eq_true] at z
      exact z.elim f.h h6
theorem fit_tup (h : ∀ d ∈ ds, Fit x y k n d) (hk : k + 1 ≤ k') (hn : ds.length * (n + 1) ≤ n') : Fit x y k' n' (.tuple ds) := by
  obtain ⟨h1, h2, h3, h4, h5, h6⟩ := fits_all h
  exact ⟨by simpa only [PyData.showable] using h1, by simpa only [PyData.leavesShort] using h2, by simp only [PyData.bulk]; omega, by simp only [PyData.depth]; omega, fun z => h5 (by simpa only [PyData.hasDict] using z), fun z => h6 (by simpa only [hasL] using z)⟩
theorem fit_lst (h : ∀ d ∈ ds, Fit false y k n d) (hk : k + 1 ≤ k') (hn : ds.length * (n + 1) ≤ n') : Fit false true k' n' (.list ds) := by
  obtain ⟨h1, h2, h3, h4, h5, h6⟩ := fits_all h
  exact ⟨by simpa only [PyData.showable] using h1, by simpa only [PyData.leavesShort] using h2, by simp only [PyData.bulk]; omega, by simp only [PyData.depth]; omega, fun z => h5 (by simpa only [PyData.hasDict] using z), fun _ => rfl⟩
theorem fit_noDict (h : ∀ d ∈ ds, Fit false y k n d) : PyData.hasDictAll ds = false := by
  obtain ⟨_, _, _, _, h5, _⟩ := fits_all h
  cases q : PyData.hasDictAll ds with
  | false => rfl
  | true => cases h5 q
theorem fit_int {i : Int} (h : i.natAbs < 10 ^ 39) : Fit false false 0 0 (.int i) := by
  have hl : i.natAbs.log2 < 1920 := by
    by_cases z : i.natAbs = 0
    · rw [z]
      decide
    · exact (Nat.log2_lt z).mpr (Nat.lt_trans h (by decide +kernel))
  refine ⟨by simp only [PyData.showable, hl, decide_true], ?_, by simp only [PyData.bulk]; omega, by simp only [PyData.depth]; omega, fun z => (by simp only [PyData.hasDict] at z; cases z), fun z => (by simp only [hasL] at z; cases z)⟩
  have e := int_text_length_le10 (k := 39) (by decide) h
  simp only [PyData.leavesShort, PyData.shown, PySem.ofString_length, decide_eq_true_eq]
  exact e
theorem fit_str {t : String} (h : t.length ≤ n) : Fit false false 0 n (.str t) := by
  refine ⟨by simp only [PyData.showable], ?_, ?_, by simp only [PyData.depth]; omega, fun z => (by simp only [PyData.hasDict] at z; cases z), fun z => (by simp only [hasL] at z; cases z)⟩
  · simp only [PyData.leavesShort, Str.ofString_eq_toList, List.all_eq_true, decide_eq_true_eq]
    intro c hc
    obtain ⟨u, _, rfl⟩ := List.mem_map.mp hc
    exact u.val.toNat_lt
  · have := PySem.ofString_length t
    simp only [PyData.bulk]
    unfold Str.length at this
    omega
theorem fit_bool {b : Bool} : Fit false false 0 0 (.bool b) := ⟨by simp only [PyData.showable], by simp only [PyData.leavesShort], by simp only [PyData.bulk]; omega, by simp only [PyData.depth]; omega, fun z => (by simp only [PyData.hasDict] at z; cases z), fun z => (by simp only [hasL] at z; cases z)⟩
theorem fit_none : Fit false false 0 0 .none := ⟨by simp only [PyData.showable], by simp only [PyData.leavesShort], by simp only [PyData.bulk]; omega, by simp only [PyData.depth]; omega, fun z => (by simp only [PyData.hasDict] at z; cases z), fun z => (by simp only [hasL] at z; cases z)⟩
/-- not both a dict and a list stand in it, and it is small -/
def Good (n : Nat) (d : PyData) : Prop := ∃ x y, Fit x y 12 n d ∧ (x && y) = false
theorem Good.of (f : Fit x y k n d) (hk : k ≤ 12) (hn : n ≤ n') (h : (x && y) = false) : Good n' d := ⟨x, y, f.up hk hn, h⟩
theorem g_reprG {D : Dk} {H : Hp} {v : V} {Q : VK} (hd : Da D H v d) (f : Good 10000 d) (q : Q (.str d.shown) H) : rReprA D [v] H Q := by
  obtain ⟨x, y, f, e⟩ := f
  refine ⟨v, d, rfl, hd, fun z => ?_, f.s, Nat.le_trans f.p (by decide), ?_, q⟩
  · cases w : hasL d with
    | false => rfl
    | true =>
      rw [f.c z, f.h w] at e
      cases e
  · have h1 := PyData.shown_le_bulk 40 (by decide) d f.l
    have h2 := f.b
    have h3 : (40 + 2) * d.bulk ≤ 42 * 10000 := Nat.mul_le_mul (by omega) h2
    rw [sizeLine_eq]
    omega
/-- decided of data that is told -/
def smallB (n : Nat) (d : PyData) : Bool := d.showable && d.leavesShort 40 && decide (d.bulk ≤ n) && decide (d.depth ≤ 5) && !(d.hasDict && hasL d)
theorem smallB_fit (h : smallB n d = true) : ∃ x y, Fit x y 5 n d ∧ (x && y) = false := by
  unfold smallB at h
  simp only [Bool.and_eq_true, decide_eq_true_eq, Bool.not_eq_true'] at h
  obtain ⟨⟨⟨⟨h1, h2⟩, h3⟩, h4⟩, h5⟩ := h
  exact ⟨d.hasDict, hasL d, ⟨h1, h2, h3, h4, id, id⟩, h5⟩
end

/-! ### pairs, lots, as data -/
/-- numbers; tuples of at most ten such; and so on -/
def Bd : Nat → PyData → Prop
  | 0, d => ∃ i : Int, d = .int i ∧ i.natAbs ≤ 10 ^ 14
  | n + 1, d => ∃ ds, d = .tuple ds ∧ ds.length ≤ 10 ∧ ∀ e ∈ ds, Bd n e
def bdM : Nat → Nat
  | 0 => 0
  | n + 1 => 10 * (bdM n + 1)
theorem Bd.fit : ∀ {n : Nat} {d : PyData}, Bd n d → Fit false false n (bdM n) d
  | 0, _, ⟨i, e, h⟩ => by
    subst e
    exact fit_int (Nat.lt_of_le_of_lt h (by decide))
  | n + 1, _, ⟨ds, e, hl, h⟩ => by
    subst e
    refine fit_tup (fun e m => Bd.fit (h e m)) (Nat.le_refl _) ?_
    exact Nat.mul_le_mul_right _ hl
mutual
theorem Da.dp {K : PySem.W.Frag} {D : Dk} {H : Hp} : ∀ (d : PyData) (v : V), Da D H v d → d.hasDict = false → Dp K H v d
  | .none, _, h, _ => by cases h; exact .non
  | .bool _, _, h, _ => by cases h; exact .bl _
  | .int _, _, h, _ => by cases h; exact .int _
  | .str _, _, h, _ => by cases h; exact .str _
  | .list ds, _, h, n => by
    cases h with
    | lst h r _ => exact .lst (SqL.of h.1) (DaAll.dp ds _ r (by simpa only [PyData.hasDict] using n))
  | .tuple ds, _, h, n => by
    cases h with
    | tup h r => exact .tup (SqT.of h) (DaAll.dp ds _ r (by simpa only [PyData.hasDict] using n))
  | .dict _, _, h, n => by simp only [PyData.hasDict] at n; cases n
theorem DaAll.dp {K : PySem.W.Frag} {D : Dk} {H : Hp} : ∀ (ds : List PyData) (vs : List V), DaAll D H vs ds → PyData.hasDictAll ds = false → DpAll K H vs ds
  | [], _, h, _ => by cases h; exact .nil
  | d :: ds, _, h, n => by
    simp only [PyData.hasDictAll, Bool.or_eq_false_iff] at n
    cases h with
    | cons h t => exact .cons (Da.dp d _ h n.1) (DaAll.dp ds _ t n.2)
end

/-! ### judging -/
def isInt? : PyData → Option Int | .int i => some i | _ => none
def wTwo : Option Int → Option Int → Option String
  | none, _ => some "turn"
  | some t, o => if 1 ≤ t ∧ t ≤ 1000000000000 then (match o with | none => some "first" | some f => if 0 ≤ f ∧ f ≤ t - 1 then none else some "first") else some "turn"
/-- the word for a watch's first error -/
def wWord : PyData → Option String
  | .tuple [a, b] => wTwo (isInt? a) (isInt? b)
  | _ => some "watch"
def wordV : Option String → V | none => .non | some x => .str x
def lErrFrom (k : Nat) : List PyData → PyData
  | [] => .none
  | d :: ds => match wWord d with | none => lErrFrom (k + 1) ds | some x => .tuple [.int k, .str x]
def lErr : PyData → PyData
  | .tuple ds => if ds.length ≤ 10 then lErrFrom 0 ds else .tuple [.none, .str "lot"]
  | _ => .tuple [.none, .str "lot"]
theorem lErr_none {k : Nat} {d : PyData} {ds : List PyData} (q : wWord d = none) : lErrFrom k (d :: ds) = lErrFrom (k + 1) ds := by rw [lErrFrom, q]
theorem lErr_some {k : Nat} {d : PyData} {ds : List PyData} {x : String} (q : wWord d = some x) : lErrFrom k (d :: ds) = .tuple [.int k, .str x] := by rw [lErrFrom, q]
theorem wWord_len {d : PyData} {x : String} (h : wWord d = some x) : x.length ≤ 5 := by
  unfold wWord at h
  split at h
  · unfold wTwo at h
    repeat' split at h
    all_goals first | (cases h; done) | (cases h; decide)
  · cases h
    decide
theorem fit_pair {a b : PyData} (ha : Fit false false 0 5 a) (hb : Fit false false 0 5 b) : Good 10000 (.tuple [a, b]) := by
  refine Good.of (fit_tup (x := false) (y := false) (k := 0) (n := 5) (k' := 1) (n' := 12) (fun d m => ?_) (Nat.le_refl _) (show 2 * (5 + 1) ≤ 12 by decide)) (by decide) (by decide) rfl
  simp only [List.mem_cons, List.not_mem_nil, or_false] at m
  rcases m with rfl | rfl
  · exact ha
  · exact hb
theorem lErrFrom_good : ∀ (ds : List PyData) (k : Nat), k + ds.length ≤ 10 → Good 10000 (lErrFrom k ds)
  | [], k, _ => Good.of fit_none (by decide) (by decide) rfl
  | d :: ds, k, h => by
    simp only [List.length_cons] at h
    unfold lErrFrom
    cases e : wWord d with
    | none => exact lErrFrom_good ds (k + 1) (by omega)
    | some x => exact fit_pair ((fit_int (by have : (10 : Nat) ^ 39 > 100 := by decide +kernel
                                             omega)).up (by decide) (by decide)) (fit_str (wWord_len e))
theorem lErr_good (d : PyData) : Good 10000 (lErr d) := by
  have hb : Good 10000 (.tuple [.none, .str "lot"]) := fit_pair (fit_none.up (by decide) (by decide)) ((fit_str (n := 5) (by decide)))
  unfold lErr
  split
  · split
    · rename_i h
      exact lErrFrom_good _ 0 (by omega)
    · exact hb
  · exact hb
end DW
/-! ### readings where what is new is told by what stays -/
namespace DW
open PySem PySem.Spec PyProof.Rows L2
theorem same_of {H H1 : Hp} {p : Addr} {o : HO} (hH : L2.upd H p o = H1) (n : H p = none) : Same H H1 ∧ H1 p = some o := by
  subst hH
  exact ⟨same_new n, upd_same⟩
section
variable {K : PySem.W.Frag} {σ : L2.St} {H : Hp} {Q : VK} {te : TE} {a b : Addr} {xs ys : List V} {lo hi : Option Int}
theorem g_dnew (h : ∀ p, H p = none → Q (.ref p) (L2.upd H p (.dK []))) : tDNewK σ H Q := h
theorem g_back (h : te σ H fun x H1 => ∃ a xs, x = .ref a ∧ SqT K H1 a xs ∧ ∀ p, H1 p = none → Q (.ref p) (L2.upd H1 p (.tup xs.reverse))) : tBack K te σ H Q := h
theorem g_catA (ha : H a = some (.tup xs)) (hb : H b = some (.tup ys)) (hz : xs.length + ys.length ≤ 1000000) (q : ∀ p H', Same H H' → H' p = some (.tup (xs ++ ys)) → Q (.ref p) H') : rCatA K (.ref a) (.ref b) H Q := by
  refine ⟨a, b, xs, ys, rfl, rfl, SqT.of ha, SqT.of hb, Nat.le_of_lt (small hz), fun e => ?_, fun _ e => ?_, fun _ _ p n => q p _ (same_new n) upd_same⟩
  · subst e
    exact q b H (Same.refl _) hb
  · subst e
    rw [List.append_nil] at q
    exact q a H (Same.refl _) ha
theorem g_slA (ha : H a = some (.tup xs)) (q : ∀ p H', Same H H' → H' p = some (.tup (cutV xs lo hi)) → Q (.ref p) H') : rSlA K (.ref a) lo hi H Q := by
  refine ⟨a, xs, rfl, SqT.of ha, fun e => q a H (Same.refl _) ?_, fun _ p n => q p _ (same_new n) upd_same⟩
  have z : cutV xs lo hi = xs := by
    unfold cutV
    rw [e.1, e.2, List.drop_zero, Nat.sub_zero, List.take_length]
  rw [z]
  exact ha
theorem g_repA {k : Int} (ha : H a = some (.tup xs)) (h1 : 2 ≤ k) (h2 : k ≤ 1000) (hz : xs.length ≤ 1000) (q : ∀ p H', Same H H' → H' p = some (.tup (List.replicate k.toNat xs).flatten) → Q (.ref p) H') : rRepA K (.ref a) (.int k) H Q := by
  refine ⟨a, k, xs, rfl, rfl, SqT.of ha, h1, h2, hz, fun e => ?_, fun _ p n => q p _ (same_new n) upd_same⟩
  subst e
  have z : (List.replicate k.toNat ([] : List V)).flatten = [] := by
    rw [List.flatten_replicate_nil]
  rw [z] at q
  exact q a H (Same.refl _) ha
theorem g_isInt' {D : Dk} {v : V} {d : PyData} {b : Bool} (h : Da D H v d) (e : isIntD d = b) (q : Q (.bl b) H) : rIsi K [v, .ty "int"] H Q := g_isInt h (by rw [e]; exact q)
theorem g_isBool' {D : Dk} {v : V} {d : PyData} {b : Bool} (h : Da D H v d) (e : isBoolD d = b) (q : Q (.bl b) H) : rIsi K [v, .ty "bool"] H Q := g_isBool h (by rw [e]; exact q)
theorem g_isTup' {D : Dk} {v : V} {d : PyData} {b : Bool} (h : Da D H v d) (e : isTupD d = b) (q : Q (.bl b) H) : rIsi K [v, .ty "tuple"] H Q := g_isTup h (by rw [e]; exact q)
end
/-- a number, or data that is none -/
theorem int_or {D : Dk} {H : Hp} {v : V} {d : PyData} (h : Da D H v d) : (∃ i, v = .int i ∧ d = .int i) ∨ (isInt? d = none ∧ (isIntD d = false ∨ isIntD d = true ∧ isBoolD d = true)) := by
  cases h with
  | int i => exact .inl ⟨i, rfl, rfl⟩
  | bl b => exact .inr ⟨rfl, .inr ⟨rfl, rfl⟩⟩
  | non => exact .inr ⟨rfl, .inl rfl⟩
  | str x => exact .inr ⟨rfl, .inl rfl⟩
  | lst _ _ _ => exact .inr ⟨rfl, .inl rfl⟩
  | tup _ _ => exact .inr ⟨rfl, .inl rfl⟩
  | dic _ => exact .inr ⟨rfl, .inl rfl⟩
/-- a tuple, or data that is none -/
theorem tup_or {D : Dk} {H : Hp} {v : V} {d : PyData} (h : Da D H v d) : (∃ a xs ds, v = .ref a ∧ d = .tuple ds ∧ H a = some (.tup xs) ∧ DaAll D H xs ds) ∨ (isTupD d = false ∧ wWord d = some "watch" ∧ lErr d = .tuple [.none, .str "lot"]) := by
  cases h with
  | tup h r => exact .inl ⟨_, _, _, rfl, rfl, h, r⟩
  | int i => exact .inr ⟨rfl, rfl, rfl⟩
  | bl b => exact .inr ⟨rfl, rfl, rfl⟩
  | non => exact .inr ⟨rfl, rfl, rfl⟩
  | str x => exact .inr ⟨rfl, rfl, rfl⟩
  | lst _ _ _ => exact .inr ⟨rfl, rfl, rfl⟩
  | dic _ => exact .inr ⟨rfl, rfl, rfl⟩
def intIn (d : PyData) (l m : Int) : Bool := match isInt? d with | some i => decide (l ≤ i) && decide (i ≤ m) | none => false
def spWholeD : Sp := fun vs H Q _ => ∃ (D : Dk) (v : V) (d : PyData) (l m : Int), vs = [v, .int l, .int m] ∧ Da D H v d ∧ Q (.bl (intIn d l m)) H
def spWErrD : Sp := fun vs H Q _ => ∃ (D : Dk) (v : V) (d : PyData), vs = [v] ∧ Da D H v d ∧ Q (wordV (wWord d)) H
def spLErrD : Sp := fun vs H Q _ => ∃ (D : Dk) (v : V) (d : PyData), vs = [v] ∧ Da D H v d ∧ ∀ v' H', Same H H' → Da D H' v' (lErr d) → Q v' H'
def spIsIntD : Sp := fun vs H Q _ => ∃ (D : Dk) (v : V) (d : PyData), vs = [v] ∧ Da D H v d ∧ Q (.bl (isInt? d).isSome) H
def isPairD : PyData → Bool | .tuple [_, _] => true | _ => false
def spIsPairD : Sp := fun vs H Q _ => ∃ (D : Dk) (v : V) (d : PyData), vs = [v] ∧ Da D H v d ∧ Q (.bl (isPairD d)) H
def spIsTurnD : Sp := fun vs H Q _ => ∃ (D : Dk) (v : V) (d : PyData), vs = [v] ∧ Da D H v d ∧ Q (.bl (intIn d 1 1000000000000)) H
/-- what the module has of the bounds -/
structure Bnd (mg : Str → Option Value) : Prop where
  t : ∃ t, mg "MAX_TURN" = some (.int 1000000000000 t)
  w : ∃ t, mg "MAX_WATCHES" = some (.int 10 t)
theorem bnd_of {mg : Str → Option Value} {x : Str} {v : Value} {n : Int} (h : mg x = some v) (f : ∃ t, v = .int n t) : ∃ t, mg x = some (.int n t) := by
  obtain ⟨t, rfl⟩ := f
  exact ⟨t, h⟩
theorem pairs2 {D : Dk} {H : Hp} {xs : List V} {ds : List PyData} (r : DaAll D H xs ds) (h : ds.length = 2) : ∃ x y d e, xs = [x, y] ∧ ds = [d, e] ∧ Da D H x d ∧ Da D H y e := by
  cases r with
  | nil => cases h
  | cons a t => cases t with
    | nil => cases h
    | cons b t => cases t with
      | nil => exact ⟨_, _, _, _, rfl, rfl, a, b⟩
      | cons c t => exact absurd h (by simp only [List.length_cons]; omega)
theorem wWord_two {ds : List PyData} (h : ds.length ≠ 2) : wWord (.tuple ds) = some "watch" ∧ isPairD (.tuple ds) = false := by
  match ds, h with
  | [], _ => exact ⟨rfl, rfl⟩
  | [_], _ => exact ⟨rfl, rfl⟩
  | [_, _], h => exact absurd rfl h
  | _ :: _ :: _ :: _, _ => exact ⟨rfl, rfl⟩
theorem wWord_turn {d e : PyData} (h : intIn d 1 1000000000000 = false) : wWord (.tuple [d, e]) = some "turn" := by
  show wTwo (isInt? d) (isInt? e) = _
  unfold intIn at h
  cases q : isInt? d with
  | none => rfl
  | some t =>
    rw [q] at h
    have h' : (decide (1 ≤ t) && decide (t ≤ 1000000000000)) = false := h
    simp only [wTwo]
    exact if_neg fun z => by simp [z.1, z.2] at h'
theorem wWord_first {d e : PyData} {t : Int} (q : isInt? d = some t) (h : intIn d 1 1000000000000 = true) : wWord (.tuple [d, e]) = if intIn e 0 (t - 1) = true then none else some "first" := by
  show wTwo (isInt? d) (isInt? e) = _
  unfold intIn at h
  rw [q] at h ⊢
  have h' : (decide (1 ≤ t) && decide (t ≤ 1000000000000)) = true := h
  simp only [Bool.and_eq_true, decide_eq_true_eq] at h'
  simp only [wTwo]
  rw [if_pos h']
  unfold intIn
  cases isInt? e with
  | none => simp
  | some f => simp
theorem intIn_int {d : PyData} {l m : Int} (h : intIn d l m = true) : ∃ t, isInt? d = some t ∧ l ≤ t ∧ t ≤ m := by
  unfold intIn at h
  cases q : isInt? d with
  | none =>
    rw [q] at h
    cases h
  | some t =>
    rw [q] at h
    simp only [Bool.and_eq_true, decide_eq_true_eq] at h
    exact ⟨t, rfl, h.1, h.2⟩
theorem isInt_int {D : Dk} {H : Hp} {v : V} {d : PyData} {t : Int} (h : Da D H v d) (e : isInt? d = some t) : v = .int t ∧ d = .int t := by
  rcases int_or h with ⟨i, rfl, rfl⟩ | ⟨h, _⟩
  · cases e
    exact ⟨rfl, rfl⟩
  · rw [e] at h
    cases h
/-! ### a table of data that is laid bit by bit -/
section
variable {D : Dk} {H H0 H1 : Hp} {p b : Addr} {o u : HO} {vs xs : List V} {ds es : List PyData} {v : V} {d : PyData}
theorem Gr.lay (g : Gr D H0 H) (n : H p = none) (hH : L2.upd H p o = H1) : Gr D H0 H1 := hH ▸ g.new n
theorem Off.lay (x : Off D H b u) (n : H p = none) (hH : L2.upd H p o = H1) : Off D H1 b u := hH ▸ x.step n
theorem Off.same (x : Off D H b u) (s : Same H H1) : Off D H1 b u := ⟨s _ _ x.1, x.2⟩
theorem Off.laid (g : DeckAt D H) (n : H p = none) (hH : L2.upd H p o = H1) : Off D H1 p o := hH ▸ Off.new g n
theorem DaAll.lay (tb : DaAll D H vs ds) (n : H p = none) (hH : L2.upd H p o = H1) : DaAll D H1 vs ds := hH ▸ DaAll.go (OffKeep.new n) _ _ tb
theorem DaAll.layT (tb : DaAll D H vs ds) (r : DaAll D H xs es) (n : H p = none) (hH : L2.upd H p (.tup xs) = H1) : DaAll D H1 (.ref p :: vs) (.tuple es :: ds) :=
  .cons (.tup (same_of hH n).2 (r.lay n hH)) (tb.lay n hH)
theorem DaAll.layL (tb : DaAll D H vs ds) (r : DaAll D H xs es) (g : DeckAt D H) (z : PyData.hasDictAll es = false) (n : H p = none) (hH : L2.upd H p (.lst xs) = H1) : DaAll D H1 (.ref p :: vs) (.list es :: ds) :=
  .cons (.lst (Off.laid g n hH) (r.lay n hH) z) (tb.lay n hH)
theorem DaAll.layD (tb : DaAll D H vs ds) (g : DeckAt D H) (n : H p = none) (hH : L2.upd H p (.dK []) = H1) : DaAll D H1 (.ref p :: vs) (.dict [] :: ds) :=
  .cons (.dic (Off.laid g n hH)) (tb.lay n hH)
theorem DaAll.at (tb : DaAll D H vs ds) (i : Nat) (h : vs[i]? = some v) (h2 : ds[i]? = some d) : Da D H v d := by
  obtain ⟨e, h3, r⟩ := tb.get h
  rw [h2] at h3
  cases h3
  exact r
theorem DaAll.mem : ∀ {vs : List V} {ds : List PyData}, DaAll D H vs ds → ∀ {v : V}, v ∈ vs → ∃ d, d ∈ ds ∧ Da D H v d
  | _, _, .nil, _, h => nomatch h
  | _, _, .cons r t, v, h => by
    rcases List.mem_cons.mp h with rfl | h
    · exact ⟨_, List.mem_cons_self, r⟩
    · obtain ⟨d, h1, h2⟩ := t.mem h
      exact ⟨d, List.mem_cons_of_mem _ h1, h2⟩
end
theorem all_of {n : Nat} {d : PyData} {ds : List PyData} (hd : d ∈ ds) (h : ds.all (smallB n) = true) : smallB n d = true := List.all_eq_true.mp h d hd
/-- a value that is small data -/
def OkV (k n : Nat) (D : Dk) (H : Hp) (v : V) : Prop := ∃ d x y, Da D H v d ∧ Fit x y k n d ∧ (x && y) = false
def OkAll (k n : Nat) (D : Dk) (H : Hp) (vs : List V) : Prop := ∀ v ∈ vs, OkV k n D H v
section
variable {k n k' n' m : Nat} {D : Dk} {H H' : Hp} {v : V} {vs ws xs : List V} {d : PyData} {ds : List PyData} {a : Addr} {x y : Bool}
theorem OkV.go {D' : Dk} (o : OkV k n D H v) (z : OffKeep2 D D' H H') : OkV k n D' H' v := by
  obtain ⟨d, x, y, h, f⟩ := o
  exact ⟨d, x, y, Da.go z _ _ h, f⟩
theorem OkV.up (o : OkV k n D H v) (hk : k ≤ k') (hn : n ≤ n') : OkV k' n' D H v := by
  obtain ⟨d, x, y, h, f, e⟩ := o
  exact ⟨d, x, y, h, f.up hk hn, e⟩
theorem OkV.good (o : OkV k n D H v) (hk : k ≤ 12) (hn : n ≤ 10000) : ∃ d, Da D H v d ∧ Good 10000 d := by
  obtain ⟨d, x, y, h, f, e⟩ := o
  exact ⟨d, h, Good.of f hk hn e⟩
theorem OkAll.nil : OkAll k n D H [] := nofun
theorem OkAll.cons (o : OkV k n D H v) (t : OkAll k n D H vs) : OkAll k n D H (v :: vs) := fun w h => by
  rcases List.mem_cons.mp h with rfl | h
  · exact o
  · exact t w h
theorem OkAll.app (s : OkAll k n D H vs) (t : OkAll k n D H ws) : OkAll k n D H (vs ++ ws) := fun w h => (List.mem_append.mp h).elim (s w) (t w)
theorem OkAll.go {D' : Dk} (o : OkAll k n D H vs) (z : OffKeep2 D D' H H') : OkAll k n D' H' vs := fun w h => (o w h).go z
theorem okPure (h : Da D H v d) (f : Fit false false k n d) (hk : k ≤ k') (hn : n ≤ n') : OkV k' n' D H v := ⟨d, false, false, h, f.up hk hn, rfl⟩
theorem okTup (h : H a = some (.tup xs)) (r : DaAll D H xs ds) (f : ∀ d ∈ ds, Fit x y k m d) (e : (x && y) = false) (hk : k + 1 ≤ k') (hn : ds.length * (m + 1) ≤ n') : OkV k' n' D H (.ref a) :=
  ⟨_, x, y, .tup h r, fit_tup f hk hn, e⟩
theorem okLst (h : Off D H a (.lst xs)) (r : DaAll D H xs ds) (f : ∀ d ∈ ds, Fit false y k m d) (hk : k + 1 ≤ k') (hn : ds.length * (m + 1) ≤ n') : OkV k' n' D H (.ref a) :=
  ⟨_, false, true, .lst h r (fit_noDict f), fit_lst f hk hn, rfl⟩
/-- the kept parts of a row and one more -/
theorem fit_mix {es fs : List PyData} (p : ∀ e ∈ es, Fit false false k m e) (q : ∀ e ∈ fs, Fit false false k m e) (f : Fit x y k m d) : ∀ e ∈ es ++ [d] ++ fs, Fit x y k m e := fun e h => by
  simp only [List.mem_append, List.mem_cons, List.not_mem_nil, or_false] at h
  rcases h with (h | rfl) | h
  · exact (p e h).pure (Nat.le_refl _) (Nat.le_refl _)
  · exact f
  · exact (q e h).pure (Nat.le_refl _) (Nat.le_refl _)
theorem mem_cut {α : Type} {ds : List α} {e : α} {i j : Nat} (h : e ∈ (ds.drop i).take j) : e ∈ ds := List.mem_of_mem_drop (List.mem_of_mem_take h)
end
theorem Bd.lay : ∀ {n : Nat} {d : PyData}, Bd n d → d.canLay0 = true
  | 0, _, ⟨i, e, _⟩ => by
    subst e
    simp only [PyData.canLay0]
  | n + 1, _, ⟨ds, e, _, h⟩ => by
    subst e
    simp only [PyData.canLay0]
    have : ∀ ds : List PyData, (∀ e ∈ ds, Bd n e) → PyData.canLayAll0 ds = true := fun ds => by
      induction ds with
      | nil => intro _; simp only [PyData.canLayAll0]
      | cons d ds ih =>
        intro h
        simp only [PyData.canLayAll0, Bd.lay (h d List.mem_cons_self), ih fun e m => h e (List.mem_cons_of_mem _ m), Bool.and_self]
    exact this ds h
theorem Bd.shaped {n : Nat} {d : PyData} (h : Bd n d) (hn : n ≤ 10) : SeqAt.shaped d = true := by
  have e : PyData.depth d ≤ 64 := Nat.le_trans h.fit.p (by omega)
  simp only [SeqAt.shaped, h.lay, Bool.true_and]
  exact decide_eq_true e
/-- t != (), t of pairs or numbers -/
theorem g_neTup {K : PySem.W.Frag} {D : Dk} {H : Hp} {a p : Addr} {xs : List V} {ds : List PyData} {n : Nat} {Q : VK} (hn : n ≤ 10) (h : H a = some (.tup xs)) (r : DaAll D H xs ds) (b : Bd n (.tuple ds)) (hp : H p = some (.tup [])) (q : Q (.bl (!ds.isEmpty)) H) : rNeD K (.ref a) (.ref p) H Q := by
  have nd : PyData.hasDict (.tuple ds) = false := by
    cases z : PyData.hasDict (.tuple ds) with
    | false => rfl
    | true => cases b.fit.c z
  refine ⟨.tuple ds, .tuple [], Da.dp _ _ (.tup h r) nd, .tup (SqT.of hp) .nil, b.shaped hn, by decide, ?_⟩
  have e : PyData.eqv (.tuple ds) (.tuple []) = ds.isEmpty := by
    cases ds <;> simp [PyData.eqv, PyData.eqvAll]
  rw [e]
  exact q
theorem six_last (n : Nat) : HT.sIx n 0 (some (-1)) = n - 1 := by
  show (if ((-1 : Int) < 0) then ((-1 : Int) + (n : Int)).toNat else min (-1 : Int).toNat n) = n - 1
  rw [if_pos (by decide)]
  omega
theorem last_len {α : Type} (xs : List α) (k : Nat) : ((xs.drop (HT.sIx xs.length 0 (some (-1)))).take k).length ≤ 1 := by
  rw [List.length_take, List.length_drop, six_last]
  omega
def bC : Nat → Nat
  | 0 => 30
  | n + 1 => 11 * (bC n + 1)
theorem bC_ge : ∀ n, bdM n ≤ bC n
  | 0 => by decide
  | n + 1 => by
    have := bC_ge n
    simp only [bdM, bC]
    omega
theorem bC_30 : ∀ n, 30 ≤ bC n
  | 0 => by decide
  | n + 1 => by
    have := bC_30 n
    simp only [bC]
    omega
theorem call_reprX {X : Cx} (hg : X.A.guards = some []) (hu : X.A.units + 64 < cLine) : CallR X (.builtin "repr") (fun vs H Q => ∃ D, rReprA D vs H Q) := fun pins s σ H vs us Q I r ⟨D, h⟩ => call_reprA D hg hu pins s σ H vs us Q I r h
/-! ### what the law makes of a lot -/
section
variable {k n m : Nat} {D : Dk} {H H' : Hp} {v : V} {vs xs ys : List V} {d : PyData} {ds es : List PyData} {p a : Addr}
theorem DaAll.rep (r : DaAll D H xs ds) : ∀ k : Nat, DaAll D H (List.replicate k xs).flatten (List.replicate k ds).flatten
  | 0 => .nil
  | k + 1 => by
    rw [List.replicate_succ, List.replicate_succ, List.flatten_cons, List.flatten_cons]
    exact r.app (r.rep k)
theorem mem_rep {α : Type} {ds : List α} {e : α} {k : Nat} (h : e ∈ (List.replicate k ds).flatten) : e ∈ ds := by
  obtain ⟨l, h1, h2⟩ := List.mem_flatten.mp h
  rw [List.eq_of_mem_replicate h1] at h2
  exact h2
theorem okCat {ls ts : List V} (oz : Off D H p (.lst (ls ++ ys))) (h : ∀ v ∈ ls, v ∈ ts) (tb : OkAll k n D H ts) (oy : OkAll k n D H ys) : OkAll k n D H (ls ++ ys) := OkAll.app (fun v m => tb v (h v m)) oy
theorem okPart (h : H p = some (.tup ys)) (r : DaAll D H ys es) (pure : ∀ e ∈ es, Fit false false 1 10 e) (hl : es.length ≤ 40) : OkV 12 10000 D H (.ref p) :=
  okTup h r pure rfl (by decide) (Nat.le_trans (Nat.mul_le_mul_right _ hl) (by decide))
theorem okRep (h : H p = some (.tup (List.replicate k xs).flatten)) (r : DaAll D H xs es) (pure : ∀ e ∈ es, Fit false false 1 10 e) (hl : k * es.length ≤ 40) : OkV 12 10000 D H (.ref p) :=
  okPart h (r.rep k) (fun e m => pure e (mem_rep m)) (by rw [PyProof.Rows.lm_len_rep_flat]; exact hl)
theorem okSmall (dv : Da D H v d) (hs : smallB 30 d = true) : OkV 12 10000 D H v := by
  obtain ⟨x, y, f, e⟩ := smallB_fit hs
  exact ⟨d, x, y, dv, f.up (by decide) (by decide), e⟩
theorem okAdd (h : H p = some (.tup (xs ++ [v]))) (r : DaAll D H xs es) (pure : ∀ e ∈ es, Fit false false 1 10 e) (hl : es.length ≤ 10) (dv : Da D H v d) (hs : smallB 30 d = true) : OkV 12 10000 D H (.ref p) := by
  obtain ⟨x, y, f, e⟩ := smallB_fit hs
  refine okTup h (r.app (.one dv)) (x := x) (y := y) (k := 5) (m := 30) (fun d h => ?_) e (by decide) ?_
  · rcases List.mem_append.mp h with h | h
    · exact (pure d h).pure (by decide) (by decide)
    · rw [List.mem_singleton.mp h]
      exact f
  · rw [List.length_append]
    exact Nat.le_trans (Nat.mul_le_mul_right (30 + 1) (show es.length + [d].length ≤ 11 by simp only [List.length_cons, List.length_nil]; omega)) (by decide)
end
/-! ### one more list that is not meant -/
def Dk.also (D : Dk) (L : Addr) : Dk := ⟨D.dk, D.d0, D.d1, fun b => D.no b ∨ b = L⟩
section
variable {D : Dk} {H H' : Hp} {L : Addr} {ys : List V} {o : HO}
theorem with_no (d : DeckAt D H) (h : H L = some (.lst ys)) : DeckAt (D.also L) H := ⟨d.ex, d.n0, d.n1, d.n2, fun b z => by
  rcases z with z | rfl
  · exact d.nx b z
  · exact ⟨_, h⟩⟩
theorem less_no (d : DeckAt (D.also L) H) : DeckAt D H := ⟨d.ex, d.n0, d.n1, d.n2, fun b z => d.nx b (.inl z)⟩
theorem Gr.less (g : Gr (D.also L) H H') : Gr D H H' := ⟨less_no g.at_, g.keep⟩
theorem keep_less : OffKeep2 (D.also L) D H H := ⟨fun _ _ x => ⟨x.1, x.2.1, x.2.2.1, fun z => x.2.2.2 (.inl z)⟩, fun _ _ e => e⟩
theorem keep_mut (h : H L = some (.lst ys)) {zs : List V} : OffKeep2 (D.also L) (D.also L) H (L2.upd H L (.lst zs)) := by
  refine ⟨fun b o x => ⟨?_, x.2⟩, TupKeep.lst h⟩
  rw [upd_ne (fun e => x.2.2.2 (.inr e))]
  exact x.1
end
def spOdd : Sp := fun vs H Q _ => ∃ (D : Dk), vs = [.ref D.dk] ∧ DeckAt D H ∧ ∀ v H', Gr D H H' → OkV 5 30 D H' v → Q v H'
def spBent (n : Nat) : Sp := fun vs H Q _ => ∃ (D : Dk) (v : V) (d : PyData) (m : Int), vs = [.ref D.dk, v, .int m] ∧ m = n + 1 ∧ DeckAt D H ∧ Da D H v d ∧ Bd n d ∧ ∀ v' H', Gr D H H' → OkV (n + 6) (bC n) D H' v' → Q v' H'
end DW
namespace DW
open PySem PySem.Spec PyProof.Rows L2
/-! ### t * n, from 0 on -/
theorem one_mul (l : Addr) (items : Array Value) (n : Nat) (dd : Option Addr) (sl : Array (Option Value)) (u : Tok) :
    Meets (Builtin.«tuple.__mul__» ⟨[.ref l, .int 1 u], []⟩) (fun _ R s => s.heap.get? l = some { cls := .type "tuple", dict := dd, data := .seq items n, slots := sl } ∧ R (.ok (.ret (Value.ref l))) s) :=
  .of_wp fun prog w A R s h => by
    obtain ⟨hp, g, d, tk, os⟩ := s
    obtain ⟨hl, h⟩ := h
    have f1 := AutoSeq1.idx_int
    have c0 : (decide ((1 : Int) < -(2 ^ 63)) || decide ((1 : Int) ≥ 2 ^ 63)) = false := by decide
    have c1 : (items.isEmpty || (1 : Int) == 1) = true := by simp
    wp_walk using wpAny_loadPart' hl
    repeat (first
      | (refine wpAny_ite_false (decide_eq_false (by rw [c0]; exact Bool.false_ne_true)) ?_; wp_walk using wpAny_loadPart' hl)
      | (refine wpAny_ite_true (decide_eq_true (by rw [c1])) ?_; wp_walk using wpAny_loadPart' hl)
      | (refine wpAny_ite_true (decide_eq_true rfl) ?_; wp_walk using wpAny_loadPart' hl))
    exact ⟨_, rfl, h⟩
theorem nought_mul (l : Addr) (items : Array Value) (n : Nat) (dd : Option Addr) (sl : Array (Option Value)) (u : Tok) (hi : items.isEmpty = false) :
    Meets (Builtin.«tuple.__mul__» ⟨[.ref l, .int 0 u], []⟩) (fun _ R s => s.heap.get? l = some { cls := .type "tuple", dict := dd, data := .seq items n, slots := sl } ∧
      R (.ok (.ret (Value.ref s.heap.objs.size))) { s with heap := s.heap.push { cls := Value.type "tuple", data := Data.seq #[] }, toks := s.toks }) :=
  .of_wp fun prog w A R s h => by
    obtain ⟨hp, g, d, tk, os⟩ := s
    obtain ⟨hl, h⟩ := h
    have f1 := AutoSeq1.idx_int
    have c0 : (decide ((0 : Int) < -(2 ^ 63)) || decide ((0 : Int) ≥ 2 ^ 63)) = false := by decide
    have c1 : (items.isEmpty || (0 : Int) == 1) = false := by rw [hi]; rfl
    have c2 : (decide ((0 : Int) ≤ 0) || items.isEmpty) = true := by simp
    wp_walk using wpAny_loadPart' hl
    repeat (first
      | (refine wpAny_ite_false (decide_eq_false (by rw [c0]; exact Bool.false_ne_true)) ?_; wp_walk using wpAny_loadPart' hl)
      | (refine wpAny_ite_false (decide_eq_false (by rw [c1]; exact Bool.false_ne_true)) ?_; wp_walk using wpAny_loadPart' hl)
      | (refine wpAny_ite_true (decide_eq_true (by rw [c2])) ?_; wp_walk using wpAny_loadPart' hl))
    exact ⟨_, rfl, h⟩
/-- t * k, from 0 on -/
def rRepG : R2 := fun x y H Q => ∃ l k xs, x = .ref l ∧ y = .int k ∧ H l = some (.tup xs) ∧ 0 ≤ k ∧ k ≤ 1000 ∧ xs.length ≤ 1000 ∧ ∀ p H', Same H H' → H' p = some (.tup (List.replicate k.toNat xs).flatten) → Q (.ref p) H'
section
variable {X : Cx}
theorem op_repG : OpR X (binaryOp .Mult) rRepG := by
  intro pins s σ H x y v u Q I rx ry h
  obtain ⟨l, k, xs, rfl, rfl, hT, h1, h2, hz, q⟩ := h
  by_cases hk : 2 ≤ k
  · exact op_repA pins s σ H _ _ v u Q I rx ry ⟨l, k, xs, rfl, rfl, SqT.of hT, hk, h2, hz, fun e => q l H (Same.refl _) (by rw [hT, e]; simp), fun _ p hp => q p _ (same_new hp) upd_same⟩
  cases rx
  obtain ⟨t, rfl⟩ := ry
  obtain ⟨its, r, ⟨⟨cls, dd, data, sl⟩, ho, hc, n, hd⟩, hs⟩ := I.tuple (SqT.of hT)
  simp only at hc hd
  subst hc hd
  have c0 : (decide (k < -(2 ^ 63)) || decide (k ≥ 2 ^ 63)) = false := by
    rw [decide_eq_false (show ¬ k < -(2 ^ 63) by omega), decide_eq_false (show ¬ k ≥ 2 ^ 63 by omega)]
    rfl
  by_cases hne : xs = []
  · subst hne
    cases r
    refine wpAny_binaryOp_repeat_ref (T := "tuple") (U := "int") (by decide) ⟨_, ho, rfl⟩ (fun s' => typeIs_int s' k t) noFill_tuple_mul F.fills_int_mul F.slot_int_rmul repeat_tuple F.slot_int_index.lookup
      (call_meets F.slot_int_rmul (typeIs_int s k t) F.entry_int_rmul (F.args_int_rmul_2 _ _) (int_rmul_tuple k t l _ n dd sl) ⟨ho, rfl, ⟨_, ho, rfl⟩, call_meets F.slot_tuple_mul ⟨_, ho, rfl⟩ F.entry_tuple_mul (F.args_tuple_mul_2 _ _) (none_mul l n dd sl k t c0) ⟨ho, ?_⟩⟩)
    exact ⟨.ref l, H, I, rfl, q l H (Same.refl _) (by rw [hT]; simp)⟩
  · by_cases h0 : k = 0
    · subst h0
      have hi : its.toArray.isEmpty = false := by
        cases r with
        | nil => exact absurd rfl hne
        | cons _ _ => rfl
      refine wpAny_binaryOp_repeat_ref (T := "tuple") (U := "int") (by decide) ⟨_, ho, rfl⟩ (fun s' => typeIs_int s' 0 t) noFill_tuple_mul F.fills_int_mul F.slot_int_rmul repeat_tuple F.slot_int_index.lookup
        (call_meets F.slot_int_rmul (typeIs_int s 0 t) F.entry_int_rmul (F.args_int_rmul_2 _ _) (int_rmul_tuple 0 t l _ n dd sl) ⟨ho, rfl, ⟨_, ho, rfl⟩, call_meets F.slot_tuple_mul ⟨_, ho, rfl⟩ F.entry_tuple_mul (F.args_tuple_mul_2 _ _) (nought_mul l _ n dd sl t hi) ⟨ho, ?_⟩⟩)
      refine ⟨.ref s.heap.objs.size, _, I.laid (t' := s.toks) (o := .tup []) (fun b ob q => Heap.get?_push_of_some _ q) (Nat.le_refl _) ?_, rfl, q _ _ (same_new (I.hok.fresh (Nat.le_refl _))) (by rw [upd_same]; simp)⟩
      exact ⟨Nat.zero_le _, [], .nil, IsTup.new _ _⟩
    · have h1' : k = 1 := by omega
      subst h1'
      refine wpAny_binaryOp_repeat_ref (T := "tuple") (U := "int") (by decide) ⟨_, ho, rfl⟩ (fun s' => typeIs_int s' 1 t) noFill_tuple_mul F.fills_int_mul F.slot_int_rmul repeat_tuple F.slot_int_index.lookup
        (call_meets F.slot_int_rmul (typeIs_int s 1 t) F.entry_int_rmul (F.args_int_rmul_2 _ _) (int_rmul_tuple 1 t l _ n dd sl) ⟨ho, rfl, ⟨_, ho, rfl⟩, call_meets F.slot_tuple_mul ⟨_, ho, rfl⟩ F.entry_tuple_mul (F.args_tuple_mul_2 _ _) (one_mul l _ n dd sl t) ⟨ho, ?_⟩⟩)
      exact ⟨.ref l, H, I, rfl, q l H (Same.refl _) (by rw [hT]; simp)⟩
end
end DW
/-! DWExc: own exceptions held as values: made by place, asked of their class, their fields read. -/
namespace DW
open PySem PySem.Spec PyProof.Rows L2

/-- what the written part says of an exception class of the program -/
structure ErrC (K : PySem.W.Frag) (C : Addr) : Prop where
  o : OexC K C
  ga : PySem.W.findIn K (.ref C) "__getattribute__" = some (some (.builtin "BaseException.__getattribute__"))
  gg : PySem.W.findIn K (.ref C) "__getattr__" = some none
  hd : PySem.W.hasDictIn K C = true
  ha : PySem.W.findIn K (.ref C) "__class__" = some (some (.builtin "object.__class__"))
  hm : PySem.W.mroIn K C (.type "object") = some true
  hn : PySem.W.specialIn K (.builtin "object.__class__") "__get__" = some (some (.builtin "getset_descriptor.__get__"))
  ht : PySem.W.takesIn K (.builtin "object.__class__") = some true
/-- an exception of the class at C: without a dict, or with its fields -/
def ErrAt (H : Hp) (a C : Addr) : Prop := H a = some (ExO (.ref C) a) ∨ ∃ d fs, H a = some (exo a C (some d)) ∧ H d = some (exd d fs)
section
variable {X : Cx} {pins : List (Addr × Obj)} {σ : L2.St} {H : Hp} {s : Shared} {a C : Addr}
theorem inst_err (I : Inv X pins σ H s) (e : ErrAt H a C) : ∃ ox od, PySem.W.InstAt s.heap a ox C od := by
  rcases e with e | ⟨d, fs, e, ed⟩
  · obtain ⟨⟨oe, vs, ho, hz, hd, _⟩, _, _⟩ := I.hok a _ e
    obtain ⟨oc, od, oda, osl⟩ := oe
    obtain ⟨h1, h2⟩ := hz
    dsimp only at h1 h2 hd
    subst h1 h2 hd
    exact ⟨_, none, ho, rfl, rfl, trivial⟩
  · obtain ⟨t1, ho⟩ := exo_at I.hok e
    obtain ⟨mA, hns, _⟩ := exd_at I.hok ed
    obtain ⟨od, hod, _⟩ := lookIn_ns hns
    exact ⟨_, some od, ho, rfl, rfl, hod⟩
def rIsErr (K : PySem.W.Frag) : List V → Hp → VK → Prop := fun xs H Q => ∃ (a D : Addr) (c : V) (u : Value) (b : Bool), xs = [.ref a, c] ∧ ClsV c u ∧ ErrAt H a D ∧ ErrC K D ∧ PySem.W.kitOne K (.ref D) u = some b ∧ Q (.bl b) H
theorem call_isErr : CallR X (.builtin "isinstance") (rIsErr X.K) := by
  intro pins s σ H xs us Q I r h
  obtain ⟨a, D, c, u, b, rfl, k, ea, T, e, q⟩ := h
  obtain ⟨u1, u2, rfl, r1, r2⟩ := vals2 r
  cases (show u1 = Value.ref a from r1)
  have e2 := k.eq r2
  subst e2
  obtain ⟨ox, od, J⟩ := inst_err I ea
  have hcl : (PySem.W.clsIn X.K D).isSome = true := by
    obtain ⟨cd, hc, _⟩ := PySem.W.any_some T.hd
    rw [hc]
    rfl
  exact PySem.W.kia_one (PySem.W.kitx_exc hcl T.ga T.gg T.o.exC T.ha T.hn T.ht T.hm) I.kIn J e (fun z => nomatch z) fun tk => ⟨.bl b, H, I.tok tk, rfl, q⟩
/-- e.f, of an exception that is held -/
def tErrF (K : PySem.W.Frag) (f : Str) (te : TE) : TE := fun σ H Q => te σ H fun x H1 => ∃ (a C d : Addr) (fs : List (Str × V)) (v : V), x = .ref a ∧ ErrC K C ∧ PySem.W.findIn K (.ref C) f = some none ∧ H1 a = some (exo a C (some d)) ∧ H1 d = some (exd d fs) ∧ fs.lookup f = some v ∧ Q v H1
theorem pe_errF {e : Expr} {te : TE} {pos : Pos} {n : Str} (he : PE X e te) (hb : attributeBase e n X.env (eval e X.env) = eval e X.env := by rfl) : PE X (.Attribute e n pos) (tErrF X.K n te) := by
  constructor
  intro pins s σ H Q I h
  refine attr_of hb (thn (he.run pins s σ H _ I h) fun u s1 hh => ?_)
  obtain ⟨x, H1, I1, rx, a, C, d, fs, v, rfl, T, hno, ea, ed, l, q⟩ := hh
  cases (show u = Value.ref a from rx)
  obtain ⟨t1, ho⟩ := exo_at I1.hok ea
  obtain ⟨mA, hns, hr⟩ := exd_at I1.hok ed
  obtain ⟨od, hod, hl⟩ := lookIn_ns hns
  obtain ⟨u, hu, ru⟩ := RelO.some_of (v := v) (o := mA n) (by rw [← l]; exact hr n)
  have J : PySem.W.InstAt s1.heap a _ C (some od) := ⟨ho, rfl, rfl, hod⟩
  exact PySem.HandSPX.exc_get I1.kIn J T.ga T.gg T.o.exC (PySem.W.findObj_own T.hd hno rfl (by rw [hl, hu])) (handed_of ru) ⟨v, H1, I1.tok _, ru, q⟩
end
/-! ### C(f=v), down to __init__ -/
set_option maxHeartbeats 4000000
section
variable {prog : Program} {w : World} {A : Around} {E : Value → Shared → Prop} {R : Result → Shared → Prop} {hp : Heap} {gs : Array GenState} {dr : Drawn} {tk : Nat} {os : OsState}
variable {nm q : Str} {C N : Addr} {bs bm bmB : List Value} {hdct : Bool} {sn : List Str} {sub : List Value} {ab : Bool} {col : Option Bool} {dd : Option Addr} {k0 k1 k2 k3 k5 : Option Value} {B newId initId : String} {kw : List (Str × Value)}
theorem kw_check (Fx : ExcBaseFacts B newId initId bmB) (same : ∀ Y : String, bm.contains (.type Y) = bmB.contains (.type Y)) {Mo : Model} {Q : Unit → Shared → Prop}
    (cC : hp.get? C = some (excClassObj nm q C N bs bm hdct sn sub ab col dd k0 k1 k2 k3 k5 newId)) (hq : Q () ⟨hp, gs, dr, tk, os⟩) : wpAny Mo A (checkBuiltinCall newId ⟨[.ref C], kw⟩) Q E ⟨hp, gs, dr, tk, os⟩ := by
  have below : (Value.ref C :: bm).contains (.type B) = true := by
    rw [List.contains_cons, same, Fx.hasB, Bool.or_true]
  have star := Fx.noStar
  simp only [checkBuiltinCall, Fx.newKind, Fx.newSplit, Fx.newRow]
  repeat (first | refine wpAny_loadPart_at cC ?_ | (refine wpAny_isSubtype_exc cC ?_; rw [below]) | refine wpAny_staticBase_exc cC ?_ | refine wpAny_madeBy_exc cC ?_ | simp only [bne_self_eq_false, Bool.false_eq_true, if_false] | wp_step)
  exact hq
theorem kw_new (Fx : ExcBaseFacts B newId initId bmB) (same : ∀ Y : String, bm.contains (.type Y) = bmB.contains (.type Y))
    (cC : hp.get? C = some (excClassObj nm q C N bs bm hdct sn sub ab col dd k0 k1 k2 k3 k5 newId))
    (hq : R (.ok (.ret (.ref (hp.objs.size + 1)))) ⟨(hp.push (PySem.W.kdv_tup [])).push (PySem.HandSPX.excO C hp.objs.size), gs, dr, tk, os⟩) :
    codeAny (model prog w) A (.builtin newId ⟨[.ref C], kw⟩) R ⟨hp, gs, dr, tk, os⟩ := by
  have ends := Fx.ends
  have belowB : (Value.ref C :: bm).contains (.type B) = true := by
    rw [List.contains_cons, same, Fx.hasB, Bool.or_true]
  have notA : (Value.ref C :: bm).contains (.type "AttributeError") = false := by
    rw [List.contains_cons, same, Fx.noAttr]
    rfl
  have notN : (Value.ref C :: bm).contains (.type "NameError") = false := by
    rw [List.contains_cons, same, Fx.noName]
    rfl
  refine codeAny_builtinAt Fx.entry ?_
  (unfold Builtin.«BaseException.__new__»; refine PySem.wpAt_bind ?_; show PySem.wpAt _ _ _ (stack >>= _) _ _ _)
  refine PySem.wpAt_bind (PySem.wpAt_stack fun top under => PySem.wpAt_of_wpAny ?_)
  wp_walk
  refine PySem.wpAt_of_wpAny ?_
  rw [Fx.owner]
  repeat (first | with_reducible refine wpAny_madeHere_exc Fx.canon cC ?_ | with_reducible refine wpAny_loadPart_at cC ?_ | (with_reducible refine wpAny_isSubtype_exc cC ?_; first | rw [belowB] | rw [notA] | rw [notN]) | wp_step)
  show R _ _
  rw [Heap.size_push]
  exact hq
theorem kw_type (Fx : ExcBaseFacts B newId initId bmB) (same : ∀ Y : String, bm.contains (.type Y) = bmB.contains (.type Y)) {fI : Addr} {Q : PySem.Fin → Shared → Prop}
    (cC : hp.get? C = some (excClassObj nm q C N bs bm hdct sn sub ab col dd k0 k1 k2 k3 k5 newId))
    (hi : PySem.W.Looks (model prog w) hp (typeLookup (.ref C) "__init__") (some (.ref fI))) (hb : ∀ self, PySem.W.Looks (model prog w) hp (bindSpecial (.ref fI) self) (.ref fI, [self]))
    (hq : codeAny (model prog w) A (.call (.ref fI) ⟨[.ref (hp.objs.size + 1)], kw⟩)
      (fun r s' => match r with | .ok (.ret v) => v = .none ∧ Q (.done (.ret (.ref (hp.objs.size + 1)))) s' | .ok _ => False | .error e => E e s')
      ⟨(hp.push (PySem.W.kdv_tup [])).push (PySem.HandSPX.excO C hp.objs.size), gs, dr, tk, os⟩) :
    wpAny (model prog w) A (Builtin.«type.__call__» ⟨[.ref C], kw⟩) Q E ⟨hp, gs, dr, tk, os⟩ := by
  repeat (first | with_reducible refine wpAny_loadPart_at cC ?_ | with_reducible refine wpAny_madeBy_exc cC ?_ | wp_step)
  refine codeAny_call_builtin_code (Code.quiet_builtin _ Fx.quiet) (kw_check Fx same cC ?_)
  refine kw_new Fx same cC ?_
  show wpAny _ _ _ _ _ _
  have up : ∀ b o, hp.get? b = some o → ((hp.push (PySem.W.kdv_tup [])).push (PySem.HandSPX.excO C hp.objs.size)).get? b = some o := fun b o e => Heap.get?_push_of_some _ (Heap.get?_push_of_some _ e)
  have cC1 := up _ _ cC
  have made : ((hp.push (PySem.W.kdv_tup [])).push (PySem.HandSPX.excO C hp.objs.size)).get? (hp.objs.size + 1) = some (PySem.HandSPX.excO C hp.objs.size) := by heap_get
  have self : (Value.ref C :: bm).contains (.ref C) = true := by simp
  have i1 := hi.keeps up
  have b1 := (hb (.ref (hp.objs.size + 1))).keeps up
  unfold isInstance
  repeat (first | with_reducible refine wpAny_loadPart_at made ?_ | (with_reducible refine wpAny_isSubtype_exc cC1 ?_; rw [self]) | wp_step)
  (show wpAny _ _ (typeLookup (.ref C) _) _ _ _); refine i1.at (wpAny_holding (wpAny_bind (b1.at ?_)))
  refine wpAny_bind (wpAny_call (codeAny_mono hq fun res st z => ?_))
  rcases res with er | (val | _ | _ | _) <;> first | exact z | exact z.elim | skip
  obtain ⟨rfl, z⟩ := z
  first
    | exact (wpAny_pure (wpAny_pure z))
    | (wp_walk; exact z)
theorem kw_call (Fx : ExcBaseFacts B newId initId bmB) (same : ∀ Y : String, bm.contains (.type Y) = bmB.contains (.type Y)) {fI : Addr}
    (cC : hp.get? C = some (excClassObj nm q C N bs bm hdct sn sub ab col dd k0 k1 k2 k3 k5 newId))
    (hi : PySem.W.Looks (model prog w) hp (typeLookup (.ref C) "__init__") (some (.ref fI))) (hb : ∀ self, PySem.W.Looks (model prog w) hp (bindSpecial (.ref fI) self) (.ref fI, [self]))
    (hq : codeAny (model prog w) (A.under (.builtin "type.__call__" ⟨[.ref C], kw⟩)) (.call (.ref fI) ⟨[.ref (hp.objs.size + 1)], kw⟩) (PySem.W.InitBack (hp.objs.size + 1) R)
      ⟨(hp.push (PySem.W.kdv_tup [])).push (PySem.HandSPX.excO C hp.objs.size), gs, dr, tk, os⟩) :
    codeAny (model prog w) A (.call (.ref C) ⟨[], kw⟩) R ⟨hp, gs, dr, tk, os⟩ := by
  have f1 := tc_lookup; have f2 := tc_bind (.ref C)
  have ty : (⟨hp, gs, dr, tk, os⟩ : Shared).TypeIs (.ref C) "type" := ⟨_, cC, rfl⟩
  (refine codeAny_of_tree ?_; show wpAny _ _ (callAny (.ref C) _) _ _ _)
  repeat (any_goals (first | assumption | with_reducible refine wpAny_loadPart_at cC ?_ | wp_step))
  refine ⟨rfl, ?_⟩
  refine codeAny_call_builtin_at (Code.quiet_builtin _ (by decide +kernel)) entry_typeCall (wpAny_check_type_call_sub cC (kw_type Fx same cC hi hb ?_))
  refine codeAny_mono hq fun res st z => ?_
  rcases res with er | (val | _ | _ | _) <;> exact z
end
/-! ### own __init__ -/
section
variable {P : Program} {w : World} {K : PySem.W.Frag} {mg : Str → Option Value} {base : Heap}
/-- a def's promise from its body, whatever it is called -/
theorem fun_keeps {x q : Str} {st : Stmt} {ps N : List Str} {f : Addr} {fd : FuncData} {k : Nat} {sp : Sp} {CX : CXT} (F : Fun K x q st f fd) (ba : ∀ us : List Value, us.length = ps.length → bindArgs fd ⟨us, []⟩ = pure (ps.zip us)) (S : FnScope N ps (defScope st))
    (len : ∀ vs H Q E, sp vs H Q E → vs.length = ps.length)
    (hbody : ∀ (cdv : Value) (B : Around) (out : List Env) (s : Shared) (H : Hp) (vs : List V) (Q : VK) (E : XK), B.guards = some [] →
      Room k (B.deeper (envOfC q (defScope st) s.heap.objs.size f cdv)) → sp vs H Q E →
      ∃ t, PSs (cxOf CX P w K mg base N q (defScope st) f cdv B out s H E) (defBody st) t ∧
        t { nx := fun _ H' => Q .non H', rt := Q } (start N vs) H) : FnG P w K mg base CX (k + 1) f fd ps sp := by
  obtain ⟨oc, od, kV, doc, pm, an, cdv, ct, osl, rfl, look, code⟩ := F.ex
  constructor
  · exact len
  intro B out s H gs us vs Q E hg hr e0 hb rv hs
  have hlen := len _ _ _ _ hs
  have inK : K.In s.heap := e0.mod.kin.keeps fun b o q => (e0.bs b o q).1
  have free : s.heap.NoLimit := e0.mod.nolimit.keeps fun b o q => (e0.bs b o q).1
  refine codeAny_call_function hr.depth (inK _ _ look) rfl S.co S.gen rfl (PySem.W.codeRec_of inK code) (hb _ _ _ _ ?_)
  refine wpAny_newFunctionEnv_cells S.kind (fun y hy => ?_) fun env he s1 x1 => ?_
  · have hp := S.par y.1 (List.of_mem_zip (show (y.1, y.2) ∈ _ from hy)).1
    cases hp with
    | inl q => exact Or.inl q
    | inr q => exact Or.inr ⟨q, PySem.W.cellsFrom_some _ _ _ (.inl q)⟩
  subst he
  refine ⟨free.keeps x1.toInCall.keep, codeAny_func ?_⟩
  obtain ⟨t, run, start⟩ := hbody cdv B out s H vs Q E hg (hr.deeper _) hs
  refine wpAny_mono (run.run [] s1 _ H _ (inv_start S hr.hd e0 hlen rv x1) start) ?_ fun e s' q => q
  intro fl s' q
  cases fl with
  | brk => exact (let ⟨_, _, _, z⟩ := q; z : False).elim
  | cont => exact (let ⟨_, _, _, z⟩ := q; z : False).elim
  | next =>
    obtain ⟨σ', H', J, z⟩ := q
    exact ⟨V.non, H', J.os, J.bare, J.base, J.hok, rfl, z⟩
  | ret u =>
    obtain ⟨v, σ', H', J, r, z⟩ := q
    exact ⟨v, H', J.os, J.bare, J.base, J.hok, r, z⟩
/-- an own __init__ that keeps what it is given in one field -/
def spInit (f : Str) (C : Addr) : Sp := fun vs H Q _ => ∃ (a : Addr) (v : V), vs = [.ref a, v] ∧ H a = some (exo a C none) ∧ ∀ dx, H dx = none → dx ≠ a → Q .non (L2.upd (L2.upd H dx (exd dx [(f, v)])) a (exo a C (some dx)))
/-- a class, its __init__, its name at the top -/
structure ErrMk (P : Program) (w : World) (K : PySem.W.Frag) (mg : Str → Option Value) (base : Heap) (x f : Str) (C : Addr) : Prop where
  T : ErrC K C
  at_ : mg x = some (.ref C)
  no : PySem.W.findIn K (.ref C) f = some none
  ex : ∃ (fI : Addr) (fd : FuncData), PySem.W.findIn K (.ref C) "__init__" = some (some (.ref fI)) ∧ PySem.W.typeIn K (.ref fI) = some (.type "function") ∧ FnG P w K mg base CX0 1 fI fd ["self", f] (spInit f C) ∧ Binds K fd ["self", f] [] ∧ ∀ (s : Shared) (u v : Value), BindsTo s fd ⟨[u], [(f, v)]⟩ [("self", u), (f, v)]
end
section
variable {X : Cx} {pins : List (Addr × Obj)} {σ : L2.St} {H : Hp} {s : Shared} {C : Addr} {x f : Str} {p pos : Pos} {e : Expr} {te : TE}
/-- C(e): a new exception, its one field -/
def tErr (C : Addr) (f : Str) (ta : TA) : TE := fun σ H Q => ta σ H fun vs H1 => ∃ v, vs = [v] ∧ ∀ a dx H2, H1 a = none → H1 dx = none → dx ≠ a → Same H1 H2 → H2 a = some (exo a C (some dx)) → H2 dx = some (exd dx [(f, v)]) → Q (.ref a) H2
theorem run_err {us : List Value} {v : V} {Q : VK} (M : ErrMk X.prog X.w X.K X.mg X.base x f C) (hgu : X.A.guards = some []) (hr : Room 2 X.A) (I : Inv X pins σ H s) (r : Vals [v] us)
    (h : ∀ a dx H2, H a = none → H dx = none → dx ≠ a → Same H H2 → H2 a = some (exo a C (some dx)) → H2 dx = some (exd dx [(f, v)]) → Q (.ref a) H2) :
    wpAny (model X.prog X.w) X.A (call (.ref C) us) (EP X pins σ Q) X.xe s := by
  obtain ⟨fI, fd, iC, tI, F1, hb, hbk⟩ := M.ex
  obtain ⟨nm, q, N, bs, bm, sn, sub, ab, col, dd, k0, k1, k2, k3, k5, hC, hbm⟩ := M.T.o.cls
  obtain ⟨hp, g, dr, tk, os⟩ := s
  have hsz : hp.objs.size ≤ hp.objs.size + 1 := Nat.le_succ _
  have hn : H (hp.objs.size + 1) = none := I.hok.fresh hsz
  have kk : ∀ b o, hp.get? b = some o → ((hp.push (PySem.W.kdv_tup us)).push (PySem.HandSPX.excO C hp.objs.size)).get? b = some o := fun b o e => Heap.get?_push_of_some _ (Heap.get?_push_of_some _ e)
  have hget : ((hp.push (PySem.W.kdv_tup us)).push (PySem.HandSPX.excO C hp.objs.size)).get? (hp.objs.size + 1) = some (PySem.HandSPX.excO C hp.objs.size) := by heap_get
  have I2 : Inv X pins σ (L2.upd H (hp.objs.size + 1) (exo (hp.objs.size + 1) C none)) ⟨(hp.push (PySem.W.kdv_tup us)).push (PySem.HandSPX.excO C hp.objs.size), g, dr, tk, os⟩ :=
    I.laid (t' := tk) (a := hp.objs.size + 1) (o := exo (hp.objs.size + 1) C none) (h' := (hp.push (PySem.W.kdv_tup us)).push (PySem.HandSPX.excO C hp.objs.size)) kk hsz (exo_ok hget)
  have r2 : Vals [V.ref (hp.objs.size + 1), v] (Value.ref (hp.objs.size + 1) :: us) := .cons rfl r
  have hl : (Value.ref (hp.objs.size + 1) :: us).length = (["self", f] : List Str).length := r2.length.symm
  have hus : us.length ≤ sizeLine := by
    have e : us.length = 1 := r.length.symm
    rw [e]
    decide
  have hq : spInit f C [V.ref (hp.objs.size + 1), v] (L2.upd H (hp.objs.size + 1) (exo (hp.objs.size + 1) C none)) (fun z H2 => z = .non ∧ Q (.ref (hp.objs.size + 1)) H2) (fun _ _ _ => False) := by
    refine ⟨_, v, rfl, upd_same, fun dx n1 n2 => ⟨rfl, ?_⟩⟩
    have nd : H dx = none := by
      rw [upd_ne n2] at n1
      exact n1
    refine h _ dx _ hn nd n2 ?_ upd_same ?_
    · exact same_mut (same_mut (same_new hn) nd) hn
    · rw [upd_ne n2, upd_same]
  refine wpAny_call (PySem.HandSPX.call_own F.excBase_ValueError (fun Y => PySem.HandSPX.refsVE_contains Y bm hbm) (I.kIn _ _ hC) (PySem.W.looks_findIn I.kIn iC) (fun self => PySem.W.bind_fn I.kIn self tI) hus
    (codeAny_mono (F1.go _ X.stack _ _ ⟨Value.ref (hp.objs.size + 1) :: us, []⟩ (Value.ref (hp.objs.size + 1) :: us) _ _ (fun _ _ _ => False) ?_ (hr.make C us []) (I2.env0.make C us []) (by have := hb ⟨(hp.push (PySem.W.kdv_tup us)).push (PySem.HandSPX.excO C hp.objs.size), g, dr, tk, os⟩ (Value.ref (hp.objs.size + 1) :: us) I2.kIn (by rw [List.append_nil]; exact hl); rwa [List.append_nil] at this) r2 hq) fun r s' hq' => ?_))
  · have e : (Code.builtin "type.__call__" ⟨.ref C :: us, []⟩).isGuard = false := by first | rfl | (simp [Code.isGuard]; done) | (unfold Code.isGuard; decide +kernel)
    simp [Around.under, hgu, Code.guards, pushGuards, e]
  · cases r with
    | error er => exact hq'.elim
    | ok fl =>
      cases fl with
      | ret u =>
        obtain ⟨v2, H', I3, rv, ev, q3⟩ := I2.after hq'
        subst ev
        exact ⟨rv, ⟨V.ref (hp.objs.size + 1), H', I3, rfl, q3⟩⟩
      | next => exact False.elim hq'
      | brk => exact False.elim hq'
      | cont => exact False.elim hq'
theorem run_errK {u0 : Value} {v : V} {Q : VK} (M : ErrMk X.prog X.w X.K X.mg X.base x f C) (hgu : X.A.guards = some []) (hr : Room 2 X.A) (I : Inv X pins σ H s) (r : RelV v u0)
    (h : ∀ a dx H2, H a = none → H dx = none → dx ≠ a → Same H H2 → H2 a = some (exo a C (some dx)) → H2 dx = some (exd dx [(f, v)]) → Q (.ref a) H2) :
    wpAny (model X.prog X.w) X.A (call (.ref C) [] [(f, u0)]) (EP X pins σ Q) X.xe s := by
  obtain ⟨fI, fd, iC, tI, F1, hb, hbk⟩ := M.ex
  obtain ⟨nm, q, N, bs, bm, sn, sub, ab, col, dd, k0, k1, k2, k3, k5, hC, hbm⟩ := M.T.o.cls
  obtain ⟨hp, g, dr, tk, os⟩ := s
  have hsz : hp.objs.size ≤ hp.objs.size + 1 := Nat.le_succ _
  have hn : H (hp.objs.size + 1) = none := I.hok.fresh hsz
  have kk : ∀ b o, hp.get? b = some o → ((hp.push (PySem.W.kdv_tup [])).push (PySem.HandSPX.excO C hp.objs.size)).get? b = some o := fun b o e => Heap.get?_push_of_some _ (Heap.get?_push_of_some _ e)
  have hget : ((hp.push (PySem.W.kdv_tup [])).push (PySem.HandSPX.excO C hp.objs.size)).get? (hp.objs.size + 1) = some (PySem.HandSPX.excO C hp.objs.size) := by heap_get
  have I2 : Inv X pins σ (L2.upd H (hp.objs.size + 1) (exo (hp.objs.size + 1) C none)) ⟨(hp.push (PySem.W.kdv_tup [])).push (PySem.HandSPX.excO C hp.objs.size), g, dr, tk, os⟩ :=
    I.laid (t' := tk) (a := hp.objs.size + 1) (o := exo (hp.objs.size + 1) C none) (h' := (hp.push (PySem.W.kdv_tup [])).push (PySem.HandSPX.excO C hp.objs.size)) kk hsz (exo_ok hget)
  have r2 : Vals [V.ref (hp.objs.size + 1), v] [Value.ref (hp.objs.size + 1), u0] := .cons rfl (.cons r .nil)
  have hq : spInit f C [V.ref (hp.objs.size + 1), v] (L2.upd H (hp.objs.size + 1) (exo (hp.objs.size + 1) C none)) (fun z H2 => z = .non ∧ Q (.ref (hp.objs.size + 1)) H2) (fun _ _ _ => False) := by
    refine ⟨_, v, rfl, upd_same, fun dx n1 n2 => ⟨rfl, ?_⟩⟩
    have nd : H dx = none := by
      rw [upd_ne n2] at n1
      exact n1
    refine h _ dx _ hn nd n2 ?_ upd_same ?_
    · exact same_mut (same_mut (same_new hn) nd) hn
    · rw [upd_ne n2, upd_same]
  refine wpAny_call (kw_call F.excBase_ValueError (fun Y => PySem.HandSPX.refsVE_contains Y bm hbm) (I.kIn _ _ hC) (PySem.W.looks_findIn I.kIn iC) (fun self => PySem.W.bind_fn I.kIn self tI)
    (codeAny_mono (F1.go _ X.stack _ _ ⟨[Value.ref (hp.objs.size + 1)], [(f, u0)]⟩ [Value.ref (hp.objs.size + 1), u0] _ _ (fun _ _ _ => False) ?_ (hr.make C [] [(f, u0)]) (I2.env0.make C [] [(f, u0)]) (hbk _ _ _) r2 hq) fun r s' hq' => ?_))
  · have e : (Code.builtin "type.__call__" ⟨[.ref C], [(f, u0)]⟩).isGuard = false := by first | rfl | (simp [Code.isGuard]; done) | (unfold Code.isGuard; decide +kernel)
    simp [Around.under, hgu, Code.guards, pushGuards, e]
  · cases r with
    | error er => exact hq'.elim
    | ok fl =>
      cases fl with
      | ret u =>
        obtain ⟨v2, H', I3, rv, ev, q3⟩ := I2.after hq'
        subst ev
        exact ⟨rv, ⟨V.ref (hp.objs.size + 1), H', I3, rfl, q3⟩⟩
      | next => exact False.elim hq'
      | brk => exact False.elim hq'
      | cont => exact False.elim hq'
theorem pe_err {es : List Expr} {ta : TA} (M : ErrMk X.prog X.w X.K X.mg X.base x f C) (hgu : X.A.guards = some []) (hr : Room 2 X.A) (hg : Gl X x) (ha : PA X (e :: es) ta)
    (hdb : (x == ("__debug__" : Str)) = false := by decide) (he : starEach (e :: es) X.env = (false, eval e X.env) :: starEach es X.env := by rfl) (hpl : (backTo pos (starEach es X.env)).any (·.1) = false := by rfl) :
    PE X (.Call (.Name x p) (e :: es) [] pos) (tErr C f ta) := by
  constructor
  intro pins s σ H Q I h
  refine wpAny_Call_Name_kw (ld_glob I hg M.at_ ?_ hdb)
  refine PySem.W.callWith_K (h₀ := X.base) I.ok.mod.kin M.T.o.kC ?_ he hpl
  exact thn (ha.run pos pins s σ H _ I h) fun us s1 ⟨vs, H1, I1, r1, v, ev, q1⟩ => ⟨I1.kIn, by subst ev; exact run_err M hgu hr I1 r1 q1⟩
theorem pe_errK {g : Str} {kpos : Pos} {te : TE} (M : ErrMk X.prog X.w X.K X.mg X.base x f C) (hgu : X.A.guards = some []) (hr : Room 2 X.A) (hg : Gl X x) (ha : PE X e te) (hf : g = f)
    (hdb : (x == ("__debug__" : Str)) = false := by decide) (hall : (backToKw pos (keywordEach [⟨some g, e, kpos⟩] X.env)).all (·.1.isSome) = true := by rfl) (hks : (backToKw pos (keywordEach [⟨some g, e, kpos⟩] X.env)).filterMap (·.1) = [g] := by rfl)
    (hpl : ((backTo pos (starEach [] X.env)).any (·.1) || (backToKw pos (keywordEach [⟨some g, e, kpos⟩] X.env)).any (·.1.isNone)) = false := by rfl) :
    PE X (.Call (.Name x p) [] [⟨some g, e, kpos⟩] pos) (tErr C f (tCons te tNil)) := by
  subst hf
  constructor
  intro pins s σ H Q I h
  refine wpAny_Call_Name_kw (ld_glob I hg M.at_ ?_ hdb)
  refine PySem.W.callWith_KW0 (h₀ := X.base) I.ok.mod.kin M.T.o.kC hall ?_ hpl
  refine thn ((pk_cons ha pk_nil).run pos pins s σ H _ I h) fun us s1 ⟨vs, H1, I1, r1, v, ev, q1⟩ => ⟨I1.kIn, ?_⟩
  subst ev
  rw [hks]
  obtain ⟨u, rfl, ru⟩ := vals1 r1
  exact run_errK M hgu hr I1 ru q1
/-- C(): an exception of a class without own __init__ -/
def tErr0 (C : Addr) : TE := fun _ H Q => ∀ a H2, H a = none → Same H H2 → H2 a = some (ExO (.ref C) a) → Q (.ref a) H2
theorem pe_err0 {bmB : List Value} {B newId initId : String} (Fx : ExcBaseFacts B newId initId bmB) (q : PySem.W.excIn X.K C bmB newId = true) (gC : X.mg x = some (.ref C)) (kC : PySem.W.keepIn X.K (.ref C) = true) (hg : Gl X x) (hdb : (x == ("__debug__" : Str)) = false := by decide) :
    PE X (.Call (.Name x p) [] [] pos) (tErr0 C) := by
  constructor
  intro pins s σ H Q I h
  refine wpAny_Call_Name_kw (ld_glob I hg gC (PySem.W.callWith_K0 I.kIn kC ?_) hdb)
  show wpAny _ _ (call (.ref C) []) _ _ _
  obtain ⟨bm, N, nm, qn, bs, hdct, sn, sub, ab, col, dd, k0, k1, k2, k3, k5, mN, hC, hN, hni, T⟩ := exc_obj I.kIn q
  refine wpAny_call_exc_subT Fx T hC hN hni (fun h' a hm => ?_) (show 0 ≤ sizeLine from Nat.zero_le _)
  have hn : H a = none := I.hok.gone hm.new
  obtain ⟨t, ht, _, _⟩ := hm.there
  exact ⟨.ref a, L2.upd H a (ExO (.ref C) a), I.laidN hm.keeps hm.new hn (L2.exO_ok ht ⟨rfl, rfl⟩ rfl rfl rfl (show 4 < 6 by decide)), rfl, h a _ hn (same_new hn) upd_same⟩
end
section
variable {C : Addr} {f : Str} {te : TE} {σ : L2.St} {H : Hp} {Q : VK} {i : Nat} {v : V}
/-- C(x), C(f=x), x a local -/
theorem t_err (h : ∀ a dx H2, H a = none → H dx = none → dx ≠ a → Same H H2 → H2 a = some (exo a C (some dx)) → H2 dx = some (exd dx [(f, v)]) → Q (.ref a) H2) (hv : σ[i]? = some (some v) := by exact rfl) : tErr C f (tCons (tVar i) tNil) σ H Q :=
  ⟨v, hv, v, rfl, h⟩
theorem t_err0 (h : ∀ a H2, H a = none → Same H H2 → H2 a = some (ExO (.ref C) a) → Q (.ref a) H2) : tErr0 C σ H Q := h
end
/-! ### classes of one kind -/
def mroL (D W : Addr) : List Value := [.ref D, .ref W, .type "ValueError", .type "Exception", .type "BaseException", .type "object"]
structure ErrOne (K : PySem.W.Frag) (D W : Addr) : Prop where
  T : ErrC K D
  cls : ∃ cd, PySem.W.clsIn K D = some cd ∧ cd.mro = mroL D W
/-- the classes cs, all right below W -/
structure Errs (K : PySem.W.Frag) (cs : List Addr) (W : Addr) : Prop where
  one : ∀ D ∈ cs, ErrOne K D W
  wc : (PySem.W.clsIn K W).isSome = true
  wt : PySem.W.typeIn K (.ref W) = some (.type "type")
  nW : W ∉ cs
section
variable {K : PySem.W.Frag} {cs : List Addr} {W D U : Addr}
theorem ErrOne.mro (o : ErrOne K D W) (u : Value) : PySem.W.subIn K (.ref D) u = some ((mroL D W).contains u) := by
  obtain ⟨cd, h1, h2⟩ := o.cls
  show PySem.W.mroIn K D u = _
  unfold PySem.W.mroIn
  rw [h1, Option.bind_some, h2]
  rfl
theorem Errs.kit (E : Errs K cs W) (hD : D ∈ cs) (hU : U ∈ cs) : PySem.W.kitOne K (.ref D) (.ref U) = some (decide (D = U)) := by
  unfold PySem.W.kitOne
  by_cases e : D = U
  · subst e
    simp
  · have e1 : ((Value.ref D) == (Value.ref U)) = false := by
      simp [e]
    rw [e1, if_neg Bool.false_ne_true]
    obtain ⟨cd, h1, _⟩ := (E.one U hU).cls
    have e2 : ((PySem.W.clsIn K U).isSome && PySem.W.typeIn K (.ref U) == some (.type "type")) = true := by
      rw [h1, (E.one U hU).T.o.tyC]
      rfl
    show (if ((PySem.W.clsIn K U).isSome && PySem.W.typeIn K (.ref U) == some (.type "type")) = true then PySem.W.subIn K (.ref D) (.ref U) else none) = _
    rw [if_pos e2, (E.one D hD).mro]
    have n1 : U ≠ W := fun z => E.nW (z ▸ hU)
    have n2 : U ≠ D := fun z => e z.symm
    simp [mroL, n1, n2, e]
theorem Errs.kitW (E : Errs K cs W) (hD : D ∈ cs) : PySem.W.kitOne K (.ref D) (.ref W) = some true := by
  unfold PySem.W.kitOne
  by_cases e : D = W
  · subst e
    simp
  · have e1 : ((Value.ref D) == (Value.ref W)) = false := by
      simp [e]
    rw [e1, if_neg Bool.false_ne_true]
    have e2 : ((PySem.W.clsIn K W).isSome && PySem.W.typeIn K (.ref W) == some (.type "type")) = true := by
      rw [E.wc, E.wt]
      rfl
    show (if ((PySem.W.clsIn K W).isSome && PySem.W.typeIn K (.ref W) == some (.type "type")) = true then PySem.W.subIn K (.ref D) (.ref W) else none) = _
    rw [if_pos e2, (E.one D hD).mro]
    simp [mroL]
theorem Errs.kitV (E : Errs K cs W) (hD : D ∈ cs) : PySem.W.kitOne K (.ref D) (.type "ValueError") = some true := by
  unfold PySem.W.kitOne
  rw [show ((Value.ref D) == (Value.type "ValueError")) = false from rfl, if_neg Bool.false_ne_true]
  show (if PySem.W.kitMeta "ValueError" = true then PySem.W.subIn K (.ref D) (.type "ValueError") else none) = _
  rw [if_pos (by decide +kernel), (E.one D hD).mro]
  simp [mroL]
end
theorem ErrAt.go {H H' : Hp} {a C : Addr} (e : ErrAt H a C) (s : Same H H') : ErrAt H' a C := by
  rcases e with e | ⟨d, fs, e, ed⟩
  · exact .inl (s _ _ e)
  · exact .inr ⟨d, fs, s _ _ e, s _ _ ed⟩
/-- an exception with the one field f, v in it -/
def ErrF (H : Hp) (a C : Addr) (f : Str) (v : V) : Prop := ∃ d, H a = some (exo a C (some d)) ∧ H d = some (exd d [(f, v)])
theorem ErrF.go {H H' : Hp} {a C : Addr} {f : Str} {v : V} (e : ErrF H a C f v) (s : Same H H') : ErrF H' a C f v := by
  obtain ⟨d, h1, h2⟩ := e
  exact ⟨d, s _ _ h1, s _ _ h2⟩
theorem ErrF.at {H : Hp} {a C : Addr} {f : Str} {v : V} (e : ErrF H a C f v) : ErrAt H a C := by
  obtain ⟨d, h1, h2⟩ := e
  exact .inr ⟨d, _, h1, h2⟩
/-! ### repr of lists that dicts may stand in -/
mutual
inductive Db (H : Hp) : V → PyData → Prop where
  | non : Db H .non .none
  | bl (b : Bool) : Db H (.bl b) (.bool b)
  | int (i : Int) : Db H (.int i) (.int i)
  | str (x : Str) : Db H (.str x) (.str x)
  | lst {a : Addr} {xs : List V} {ds : List PyData} (h : H a = some (.lst xs)) (r : DbAll H xs ds) : Db H (.ref a) (.list ds)
  | tup {a : Addr} {xs : List V} {ds : List PyData} (h : H a = some (.tup xs)) (r : DbAll H xs ds) : Db H (.ref a) (.tuple ds)
  | dic {a : Addr} (h : H a = some (.dK [])) : Db H (.ref a) (.dict [])
inductive DbAll (H : Hp) : List V → List PyData → Prop where
  | nil : DbAll H [] []
  | cons {v : V} {vs : List V} {d : PyData} {ds : List PyData} (h : Db H v d) (t : DbAll H vs ds) : DbAll H (v :: vs) (d :: ds)
end
mutual
theorem Da.db {D : Dk} {H : Hp} : ∀ (d : PyData) (v : V), Da D H v d → Db H v d
  | .none, _, h => by cases h; exact .non
  | .bool _, _, h => by cases h; exact .bl _
  | .int _, _, h => by cases h; exact .int _
  | .str _, _, h => by cases h; exact .str _
  | .list ds, _, h => by
    cases h with
    | lst h r _ => exact .lst h.1 (DaAll.db ds _ r)
  | .tuple ds, _, h => by
    cases h with
    | tup h r => exact .tup h (DaAll.db ds _ r)
  | .dict _, _, h => by
    cases h with
    | dic h => exact .dic h.1
theorem DaAll.db {D : Dk} {H : Hp} : ∀ (ds : List PyData) (vs : List V), DaAll D H vs ds → DbAll H vs ds
  | [], _, h => by cases h; exact .nil
  | d :: ds, _, h => by
    cases h with
    | cons h t => exact .cons (Da.db d _ h) (DaAll.db ds _ t)
end
mutual
theorem Db.go {H H' : Hp} (s : Same H H') : ∀ (d : PyData) (v : V), Db H v d → Db H' v d
  | .none, _, h => by cases h; exact .non
  | .bool _, _, h => by cases h; exact .bl _
  | .int _, _, h => by cases h; exact .int _
  | .str _, _, h => by cases h; exact .str _
  | .list ds, _, h => by
    cases h with
    | lst h r => exact .lst (s _ _ h) (DbAll.go s ds _ r)
  | .tuple ds, _, h => by
    cases h with
    | tup h r => exact .tup (s _ _ h) (DbAll.go s ds _ r)
  | .dict _, _, h => by
    cases h with
    | dic h => exact .dic (s _ _ h)
theorem DbAll.go {H H' : Hp} (s : Same H H') : ∀ (ds : List PyData) (vs : List V), DbAll H vs ds → DbAll H' vs ds
  | [], _, h => by cases h; exact .nil
  | d :: ds, _, h => by
    cases h with
    | cons h t => exact .cons (Db.go s d _ h) (DbAll.go s ds _ t)
end
/-- what stands at sys.modules is no list and no tuple -/
def NoSys (K : PySem.W.Frag) : Prop := ∃ o, K.lookup sysModules = some o ∧ o.cls = .type "dict"
section
variable {X : Cx} {pins : List (Addr × Obj)} {σ : L2.St} {H : Hp} {s : Shared}
mutual
theorem Db.reads (hn : NoSys X.K) (I : Inv X pins σ H s) : ∀ (d : PyData) (v : V) (u : Value), Db H v d → RelV v u → ∃ as, Reads s.heap u d as ∧ sysModules ∉ as
  | .none, _, _, h, r => by cases h; cases r; exact ⟨_, Reads.none, List.not_mem_nil⟩
  | .bool b, _, _, h, r => by cases h; cases r; exact ⟨_, Reads.bool b, List.not_mem_nil⟩
  | .int i, _, _, h, r => by cases h; obtain ⟨t, rfl⟩ := r; exact ⟨_, Reads.int i t, List.not_mem_nil⟩
  | .str x, _, _, h, r => by cases h; obtain ⟨t, rfl⟩ := r; exact ⟨_, Reads.str x t, List.not_mem_nil⟩
  | .list ds, _, _, h, r => by
    cases h with
    | @lst a xs _ h t =>
      cases r
      obtain ⟨_, its, k, rv, e⟩ := (show ObjOk X.prog X.w H s.heap a (.lst xs) from I.hok _ _ h)
      obtain ⟨as, q, m⟩ := DbAll.reads hn I ds _ _ t rv
      refine ⟨_, Reads.list e rfl rfl q, fun z => ?_⟩
      rcases List.mem_cons.mp z with z | z
      · obtain ⟨o, h1, h2⟩ := hn
        have h3 := I.kIn _ _ h1
        rw [z, e] at h3
        cases h3
        have h2' : (Value.type "list") = Value.type "dict" := h2
        exact absurd h2' (by decide +kernel)
      · exact m z
  | .tuple ds, _, _, h, r => by
    cases h with
    | @tup a xs _ h t =>
      cases r
      obtain ⟨_, its, rv, o, e, c, k, w⟩ := (show ObjOk X.prog X.w H s.heap a (.tup xs) from I.hok _ _ h)
      obtain ⟨as, q, m⟩ := DbAll.reads hn I ds _ _ t rv
      exact ⟨_, Reads.tuple e c w q, m⟩
  | .dict kvs, _, _, h, r => by
    cases h with
    | @dic a h =>
      cases r
      obtain ⟨_, hs, vs, kv, o, es, ep, e, c, w, _, l, _⟩ := (show ObjOk X.prog X.w H s.heap a (.dK []) from I.hok _ _ h)
      cases kv
      have l' : es.toList = [] := by
        generalize es.toList = zs at l
        cases l
        rfl
      refine ⟨_, Reads.dict (as := []) (bs := []) e c.1 w (by rw [l']; exact .nil) (by rw [l']; exact .nil), fun z => ?_⟩
      have z' := List.mem_singleton.mp z
      rw [← z'] at hs
      simp at hs
theorem DbAll.reads (hn : NoSys X.K) (I : Inv X pins σ H s) : ∀ (ds : List PyData) (vs : List V) (us : List Value), DbAll H vs ds → Vals vs us → ∃ as, ReadsAll s.heap us ds as ∧ sysModules ∉ as
  | [], _, _, h, r => by cases h; cases r; exact ⟨_, ReadsAll.nil, List.not_mem_nil⟩
  | d :: ds, _, _, h, r => by
    cases h with
    | cons h t =>
      cases r with
      | cons r1 r2 =>
        obtain ⟨as, q1, m1⟩ := Db.reads hn I d _ _ h r1
        obtain ⟨bs, q2, m2⟩ := DbAll.reads hn I ds _ _ t r2
        exact ⟨_, ReadsAll.cons q1 q2, fun w => (List.mem_append.mp w).elim m1 m2⟩
end
/-- repr of a list of such -/
def rReprB : List V → Hp → VK → Prop := fun vs H Q => ∃ a xs ds, vs = [.ref a] ∧ H a = some (.lst xs) ∧ DbAll H xs ds ∧ PyData.showable (.list ds) = true ∧ PyData.depth (.list ds) ≤ 60 ∧ (PyData.shown (.list ds)).length ≤ sizeLine ∧ Q (.str (PyData.shown (.list ds))) H
theorem call_reprB (hn : NoSys X.K) (hg : X.A.guards = some []) (hu : X.A.units + 64 < cLine) : CallR X (.builtin "repr") rReprB := by
  intro pins s σ H vs us Q I r h
  obtain ⟨a, xs, ds, rfl, hl, hd, hs, hdp, hz, q⟩ := h
  obtain ⟨u, rfl, rv⟩ := vals1 r
  cases (show u = Value.ref a from rv)
  obtain ⟨as, rd, ra⟩ := Db.reads hn I (.list ds) (.ref a) _ (.lst hl hd) rfl
  exact repr_of_reads' rd hs (fun _ => ra) hg (by omega) (fun _ _ e => e) (fun h' t tk hk => ⟨.str _, H, I.kept (t' := tk) hk, ⟨t, rfl⟩, q⟩) hz
end
theorem nosys_mk {K : PySem.W.Frag} {o : Obj} (l : K.lookup sysModules = some o) (c : o.cls = .type "dict") : NoSys K := ⟨o, l, c⟩
/-! ### readings of the law -/
section
variable {P : Program} {w : World} {K : PySem.W.Frag} {mg : Str → Option Value} {base : Heap} {f x : Str} {C a b : Addr} {te : TE} {σ : L2.St} {H : Hp} {Q : VK} {v : V} {d : PyData} {n k : Nat}
theorem g_errF (h : te σ H fun x H1 => ∃ (a C d : Addr) (fs : List (Str × V)) (v : V), x = .ref a ∧ ErrC K C ∧ PySem.W.findIn K (.ref C) f = some none ∧ H1 a = some (exo a C (some d)) ∧ H1 d = some (exd d fs) ∧ fs.lookup f = some v ∧ Q v H1) : tErrF K f te σ H Q := h
theorem getF (e : ErrF H a C f v) (M : ErrMk P w K mg base x f C) (q : Q v H) : ∃ (a' C d : Addr) (fs : List (Str × V)) (v : V), V.ref a = .ref a' ∧ ErrC K C ∧ PySem.W.findIn K (.ref C) f = some none ∧ H a' = some (exo a' C (some d)) ∧ H d = some (exd d fs) ∧ fs.lookup f = some v ∧ Q v H := by
  obtain ⟨d, h1, h2⟩ := e
  exact ⟨a, C, d, _, v, rfl, M.T, M.no, h1, h2, by simp [List.lookup], q⟩
theorem dpBools : ∀ bs : List Bool, DpAll K H (bs.map V.bl) (bs.map PyData.bool)
  | [] => .nil
  | b :: bs => .cons (.bl b) (dpBools bs)
theorem shapedBools (bs : List Bool) : SeqAt.shaped (.list (bs.map PyData.bool)) = true := by
  have h1 : ∀ bs : List Bool, PyData.canLayAll0 (bs.map PyData.bool) = true := fun bs => by
    induction bs with
    | nil => simp only [List.map_nil, PyData.canLayAll0]
    | cons b bs ih => simp only [List.map_cons, PyData.canLayAll0, PyData.canLay0, ih, Bool.and_self]
  have h2 : ∀ bs : List Bool, PyData.depthAll (bs.map PyData.bool) ≤ 1 := fun bs => by
    induction bs with
    | nil => simp [PyData.depthAll]
    | cons b bs ih =>
      simp only [List.map_cons, PyData.depthAll, PyData.depth]
      omega
  have e : PyData.depth (.list (bs.map PyData.bool)) ≤ 64 := by
    have := h2 bs
    simp only [PyData.depth]
    omega
  simp only [SeqAt.shaped, PyData.canLay0, h1, Bool.true_and]
  exact decide_eq_true e
theorem eqBools : ∀ bs : List Bool, PyData.eqvAll (bs.map PyData.bool) (bs.map PyData.bool) = true
  | [] => by simp [PyData.eqvAll]
  | b :: bs => by
    have := eqBools bs
    simp [PyData.eqvAll, PyData.eqv, this]
/-- two lists of the same bools -/
theorem g_neB {bs : List Bool} (ha : H a = some (.lst (bs.map V.bl))) (hb : H b = some (.lst (bs.map V.bl))) (q : Q (.bl false) H) : rNeD K (.ref a) (.ref b) H Q := by
  refine ⟨.list (bs.map PyData.bool), .list (bs.map PyData.bool), .lst (SqL.of ha) (dpBools bs), .lst (SqL.of hb) (dpBools bs), shapedBools bs, shapedBools bs, ?_⟩
  have e : PyData.eqv (.list (bs.map PyData.bool)) (.list (bs.map PyData.bool)) = true := by
    simp only [PyData.eqv, eqBools]
  rw [e]
  exact q
theorem dbRep (h : Db H v d) : ∀ n, DbAll H (List.replicate n v) (List.replicate n d)
  | 0 => .nil
  | n + 1 => .cons h (dbRep h n)
theorem fit_any {ds : List PyData} (h : ∀ d ∈ ds, Fit true true k n d) : Fit true true (k + 1) (ds.length * (n + 1)) (.list ds) := by
  obtain ⟨h1, h2, h3, h4, _, _⟩ := fits_all h
  exact ⟨by simpa only [PyData.showable] using h1, by simpa only [PyData.leavesShort] using h2, by simp only [PyData.bulk]; omega, by simp only [PyData.depth]; omega, fun _ => rfl, fun _ => rfl⟩
def two (d : PyData) : List PyData := [.list (List.replicate 11 d), .list (List.replicate 11 d)]
theorem two_ok {x y : Bool} (f : Fit x y 5 30 d) : PyData.showable (.list (two d)) = true ∧ PyData.depth (.list (two d)) ≤ 60 ∧ (PyData.shown (.list (two d))).length ≤ sizeLine := by
  have f1 : Fit true true 6 (11 * 31) (.list (List.replicate 11 d)) := by
    have h := fit_any (k := 5) (n := 30) (ds := List.replicate 11 d) fun e m => by
      rw [List.eq_of_mem_replicate m]
      exact f.mono (fun _ => rfl) (fun _ => rfl) (Nat.le_refl _) (Nat.le_refl _)
    rw [List.length_replicate] at h
    exact h
  have f2 : Fit true true 7 (2 * (11 * 31 + 1)) (.list (two d)) := fit_any (k := 6) (n := 11 * 31) (ds := two d) fun e m => by
    unfold two at m
    simp only [List.mem_cons, List.not_mem_nil, or_false, or_self] at m
    rw [m]
    exact f1
  refine ⟨f2.s, Nat.le_trans f2.p (by decide), ?_⟩
  have h1 := PyData.shown_le_bulk 40 (by decide) _ f2.l
  have h2 := f2.b
  have h3 : (40 + 2) * PyData.bulk (.list (two d)) ≤ 42 * 684 := Nat.mul_le_mul (by omega) h2
  rw [sizeLine_eq]
  omega
theorem good_small (h : smallB 10000 d = true) : Good 10000 d := by
  obtain ⟨x, y, f, e⟩ := smallB_fit h
  exact Good.of f (by decide) (Nat.le_refl _) e
theorem same_row {cs : List Addr} (nd : cs.Nodup) {j : Nat} {U : Addr} (h : cs[j]? = some U) : (cs.map fun V => decide (U = V)) = (List.range cs.length).map fun i : Nat => decide ((j : Int) = (i : Int)) := by
  apply List.ext_getElem
  · simp
  · intro i h1 h2
    rw [List.getElem_map, List.getElem_map, List.getElem_range]
    obtain ⟨hj, e⟩ := List.getElem?_eq_some_iff.mp h
    have hi : i < cs.length := by simpa using h1
    subst e
    have hp := List.pairwise_iff_getElem.mp nd
    have : cs[j] = cs[i] ↔ ((j : Int) = (i : Int)) := by
      constructor
      · intro z
        rcases Nat.lt_trichotomy j i with lt | eq | gt
        · exact absurd z (hp j i hj hi lt)
        · rw [eq]
        · exact absurd z.symm (hp i j hi hj gt)
      · intro z
        have z' : j = i := by omega
        subst z'
        rfl
    exact decide_eq_decide.mpr this
end
end DW
/-! DWTwo: a display over each item of one tuple with each of another one. -/
namespace DW
open PySem PySem.Spec PyProof.Rows L2
section
variable {K : PySem.W.Frag} {te : TE} {H : Hp} {Q : VK} {a b : Addr} {xs ys : List V} {m v3 v4 : Option V}
/-- each of the one with each of the other; slots 3 and 4 are theirs -/
theorem c_two (R : Nat → Nat → Hp → List V → Prop) (hR : ∀ i j H H' acc, TupKeep H H' → R i j H acc → R i j H' acc) (hn : ∀ i H acc, R i ys.length H acc → R (i + 1) 0 H acc)
    (ha : H a = some (.tup xs)) (hb : H b = some (.tup ys)) (hz : xs.length * ys.length + ys.length ≤ 1000000) (h0 : R 0 0 H [])
    (hs : ∀ i j x y H' acc (Kt : V → Hp → Prop), xs[i]? = some x → ys[j]? = some y → Same H H' → R i j H' acc → acc.length ≤ i * ys.length + j →
      (∀ v H4, Same H' H4 → R i (j + 1) H4 (acc ++ [v]) → Kt v H4) → te [some (.ref a), some (.ref b), m, some x, some y] H' Kt)
    (hd : ∀ D H' acc, H D = none → Same H H' → H' D = some (.lst acc) → R xs.length 0 H' acc → Q (.ref D) H') :
    tLc2 (iTup K (tVar 0)) (gName 3) tYes (iTup K (tVar 1)) (gName 4) tYes te [3, 4] [4] [some (.ref a), some (.ref b), m, v3, v4] H Q := by
  refine ⟨.ref a, rfl, a, rfl, ⟨xs, SqT.of ha⟩, fun D hD => ?_⟩
  have at_ : ∀ {H' : Hp} {c : Addr} {zs ws : List V}, H' c = some (.tup zs) → SqT K H' c ws → ws = zs → True := fun _ _ _ => trivial
  have sq : ∀ {H' : Hp} {c : Addr} {zs : List V} {i : Nat} {x : V}, H' c = some (.tup zs) → (∀ ws, SqT K H' c ws → ws[i]? = some x) → zs[i]? = some x := fun h q => q _ (SqT.of h)
  let St : Nat → Nat → Hp → Prop := fun i j H' => Same H H' ∧ ∃ acc, H' D = some (.lst acc) ∧ acc.length ≤ i * ys.length + j ∧ R i j H' acc
  refine ⟨fun i k H' => k = xs.length - i ∧ i ≤ xs.length ∧ St i 0 H', ⟨xs.length, by simp, Nat.zero_le _, same_new hD, [], upd_same, Nat.zero_le _, hR _ _ _ _ _ (TupKeep.upd hD) h0⟩, ?_⟩
  rintro i k H' ⟨rfl, hi, s, acc, e, hl, r⟩
  have ha' := s _ _ ha
  by_cases lt : i < xs.length
  · refine .inr ⟨⟨xs, xs[i], SqT.of ha', by simp [lt]⟩, St (i + 1) 0, fun H2 p => ⟨xs.length - (i + 1), by omega, rfl, lt, p⟩, fun x H2 yl => ?_⟩
    obtain ⟨rfl, yl⟩ := yl
    have hx := sq ha' yl
    refine ⟨rfl, g_yes ?_⟩
    rw [if_pos rfl]
    have hb' := s _ _ hb
    refine ⟨.ref b, rfl, b, rfl, ⟨ys, SqT.of hb'⟩, ?_⟩
    refine ⟨fun j k H' => k = ys.length - j ∧ j ≤ ys.length ∧ St i j H', ⟨ys.length, by simp, Nat.zero_le _, s, acc, e, hl, r⟩, ?_⟩
    rintro j k H3 ⟨rfl, hj, s3, acc3, e3, hl3, r3⟩
    have hb3 := s3 _ _ hb
    have mulle : i * ys.length + ys.length ≤ xs.length * ys.length := by
      have := Nat.mul_le_mul_right ys.length (show i + 1 ≤ xs.length from lt)
      rw [Nat.add_mul, Nat.one_mul] at this
      exact this
    by_cases lt2 : j < ys.length
    · refine .inr ⟨⟨ys, ys[j], SqT.of hb3, by simp [lt2]⟩, St i (j + 1), fun H4 p => ⟨ys.length - (j + 1), by omega, rfl, lt2, p⟩, fun y H4 yl2 => ?_⟩
      obtain ⟨rfl, yl2⟩ := yl2
      have hy := sq hb3 yl2
      refine ⟨rfl, g_yes ?_⟩
      rw [if_pos rfl]
      refine hs i j x y H4 acc3 _ hx hy s3 r3 hl3 fun v H5 s5 r5 => ?_
      refine ⟨acc3, s5 _ _ e3, small (by omega), ?_⟩
      have e5 := s5 _ _ e3
      exact ⟨same_mut (s3.trans s5) hD, acc3 ++ [v], upd_same, by rw [List.length_append]; show acc3.length + 1 ≤ _; omega, hR _ _ _ _ _ (TupKeep.lst e5) r5⟩
    · have ej : j = ys.length := by omega
      subst ej
      refine .inl ⟨⟨ys, SqT.of hb3, Nat.le_refl _⟩, s3, acc3, e3, ?_, hn _ _ _ r3⟩
      rw [Nat.add_mul, Nat.one_mul]
      omega
  · have ei : i = xs.length := by omega
    subst ei
    exact .inl ⟨⟨xs, SqT.of ha', Nat.le_refl _⟩, hd D H' acc hD s e r⟩
end
end DW
/-! DWExact: days counted; each day held just once. -/
namespace DW
open PySem PySem.Spec PyProof.Rows L2
/-- how many days ahead of a day, told by dividing: one more at each day that is held -/
theorem days_step {t f e : Int} (ht : 0 < t) : (e - f) / t = (e - 1 - f) / t + (if Hld (t, f) e = true then 1 else 0) := by
  have h1 := Int.mul_ediv_add_emod (e - 1 - f) t
  have h2 := Int.emod_nonneg (e - 1 - f) (show t ≠ 0 by omega)
  have h3 := Int.emod_lt_of_pos (e - 1 - f) ht
  generalize (e - 1 - f) / t = q at *
  generalize (e - 1 - f) % t = r at *
  by_cases z : r + 1 = t
  · have e1 : e - f = t * (q + 1) := by rw [Int.mul_add]; omega
    rw [if_pos (hld_iff.mpr (by show (e - f) % t = 0; rw [e1]; exact Int.mul_emod_right _ _)), e1]
    exact Int.mul_ediv_cancel_left _ (by omega)
  · have e1 : e - f = (r + 1) + t * q := by omega
    rw [if_neg fun h => ?_, e1, Int.add_mul_ediv_left _ _ (by omega), Int.ediv_eq_zero_of_lt (by omega) (by omega)]
    · omega
    · have h := hld_iff.mp h
      have h : (e - f) % t = 0 := h
      rw [e1, Int.add_mul_emod_self_left, Int.emod_eq_of_lt (by omega) (by omega)] at h
      omega
def sumTo (g : Int → Int) : Nat → Int
  | 0 => 0
  | n + 1 => sumTo g n + g n
theorem held_days {t f : Int} (ht : 0 < t) : ∀ n : Nat, sumTo (fun x => if Hld (t, f) x = true then 1 else 0) n = ((n : Int) - 1 - f) / t - (-1 - f) / t
  | 0 => by show (0 : Int) = _; rw [show (((0 : Nat) : Int) - 1 - f) = -1 - f by omega]; omega
  | n + 1 => by
    show sumTo _ n + (if Hld (t, f) (n : Int) = true then 1 else 0) = _
    rw [held_days ht n, show (((n + 1 : Nat) : Int) - 1 - f) = (n : Int) - f by omega, days_step ht (e := (n : Int))]
    omega
theorem held_round {t f : Int} (ht : 0 < t) {n : Nat} (h : t ∣ (n : Int)) : sumTo (fun x => if Hld (t, f) x = true then 1 else 0) n = (n : Int) / t := by
  obtain ⟨m, hm⟩ := h
  rw [held_days ht, hm, Int.mul_ediv_cancel_left _ (by omega), show t * m - 1 - f = -1 - f + t * m by omega, Int.add_mul_ediv_left _ _ (by omega)]
  omega
theorem sumTo_add {g h : Int → Int} : ∀ n, sumTo (fun x => g x + h x) n = sumTo g n + sumTo h n
  | 0 => rfl
  | n + 1 => by
    show sumTo _ n + (g (n : Int) + h (n : Int)) = sumTo g n + g n + (sumTo h n + h n)
    rw [sumTo_add n]
    omega
theorem sumTo_congr {g h : Int → Int} (e : ∀ x, g x = h x) : ∀ n, sumTo g n = sumTo h n
  | 0 => rfl
  | n + 1 => by
    show sumTo g n + g n = sumTo h n + h n
    rw [sumTo_congr e n, e]
theorem sumTo_le {g : Int → Int} (h : ∀ x, g x ≤ 1) : ∀ n, sumTo g n ≤ n
  | 0 => by show (0 : Int) ≤ _; omega
  | n + 1 => by
    show sumTo g n + g n ≤ _
    have := sumTo_le h n
    have := h n
    omega
theorem sumTo_full {g : Int → Int} (h : ∀ x, g x ≤ 1) : ∀ n : Nat, sumTo g n = n → ∀ k : Nat, k < n → g k = 1
  | 0, _, k, hk => by omega
  | n + 1, e, k, hk => by
    have e : sumTo g n + g n = ((n + 1 : Nat) : Int) := e
    have h1 := sumTo_le h n
    have h2 := h n
    by_cases z : k = n
    · subst z
      omega
    · exact sumTo_full h n (by omega) k (by omega)
theorem sumTo_one {g : Int → Int} (h : ∀ x, g x = 1) : ∀ n : Nat, sumTo g n = n
  | 0 => rfl
  | n + 1 => by
    show sumTo g n + g n = _
    rw [sumTo_one h n, h]
    omega
theorem tally_cons {p : Int × Int} {l : List (Int × Int)} {x : Int} : tallyZ (p :: l) x = (if Hld p x = true then 1 else 0) + tallyZ l x := by
  rw [tally_filter, tally_filter]
  by_cases h : Hld p x = true
  · rw [if_pos h, List.filter_cons_of_pos (p := fun p => Hld p x) h, List.length_cons]
    omega
  · rw [if_neg h, List.filter_cons_of_neg (p := fun p => Hld p x) h]
    omega
theorem tally_sum {n : Nat} : ∀ {lot : List (Int × Int)}, (∀ p ∈ lot, 0 < p.1 ∧ p.1 ∣ (n : Int)) → sumTo (tallyZ lot) n = (lot.map fun p => (n : Int) / p.1).sum
  | [], _ => by
    have : ∀ n, sumTo (tallyZ []) n = 0 := by
      intro n
      induction n with
      | zero => rfl
      | succ n ih => show sumTo _ n + tallyZ [] _ = 0; rw [ih]; rfl
    rw [this]
    rfl
  | p :: l, h => by
    obtain ⟨h1, h2⟩ := h p List.mem_cons_self
    rw [sumTo_congr (fun x => tally_cons), sumTo_add, tally_sum fun q hq => h q (List.mem_cons_of_mem _ hq), List.map_cons, List.sum_cons]
    congr 1
    exact held_round (t := p.1) (f := p.2) h1 h2
/-- no two of the watches meet -/
def noPair (lot : List (Int × Int)) : Bool := decide (∀ i, i < lot.length → ∀ j, j < lot.length → i < j → ¬ Mt (lot.getD i (1, 0)) (lot.getD j (1, 0)))
theorem noPair_iff {lot : List (Int × Int)} : noPair lot = true ↔ ∀ i j, i < j → j < lot.length → ¬ Mt (lot.getD i (1, 0)) (lot.getD j (1, 0)) := by
  unfold noPair
  rw [decide_eq_true_eq]
  exact ⟨fun h i j hij hj => h i (by omega) j hj hij, fun h i _ j hj hij => h i j hij hj⟩
theorem two_held {lot : List (Int × Int)} {x : Int} : (∀ i j, i < j → j < lot.length → ¬ (Hld (lot.getD i (1, 0)) x = true ∧ Hld (lot.getD j (1, 0)) x = true)) ↔ tallyZ lot x ≤ 1 := by
  induction lot with
  | nil => exact ⟨fun _ => by show (0 : Int) ≤ 1; decide, fun _ i j h1 h2 => by cases h2⟩
  | cons p l ih =>
    rw [tally_cons]
    constructor
    · intro h
      have h1 := ih.mp fun i j hij hj => by
        have := h (i + 1) (j + 1) (by omega) (by simpa using hj)
        simpa using this
      by_cases hp : Hld p x = true
      · rw [if_pos hp]
        have : tallyZ l x = 0 := by
          refine Classical.byContradiction fun hne => ?_
          have hpos : 0 < tallyZ l x := by
            rw [tally_filter] at hne ⊢
            omega
          rw [tally_filter] at hpos
          obtain ⟨q, hq⟩ := List.exists_mem_of_length_pos (l := l.filter fun p => Hld p x) (by omega)
          obtain ⟨q1, q2⟩ := List.mem_filter.mp hq
          obtain ⟨k, hk, ek⟩ := List.mem_iff_getElem.mp q1
          refine h 0 (k + 1) (by omega) (by simpa using hk) ⟨by simpa using hp, ?_⟩
          rw [List.getD_eq_getElem?_getD, List.getElem?_cons_succ, List.getElem?_eq_getElem hk, ek]
          exact q2
        omega
      · rw [if_neg hp]
        omega
    · intro h i j hij hj
      rintro ⟨hi, hj2⟩
      have hj' : j - 1 < l.length := by simp at hj; omega
      obtain ⟨j', rfl⟩ : ∃ j', j = j' + 1 := ⟨j - 1, by omega⟩
      have hjl : j' < l.length := by simpa using hj
      have hj2 : Hld (l.getD j' (1, 0)) x = true := by simpa using hj2
      have hmem : l.getD j' (1, 0) ∈ l := by
        rw [List.getD_eq_getElem?_getD, List.getElem?_eq_getElem hjl]
        exact List.getElem_mem hjl
      have hl : 0 < tallyZ l x := by
        rw [tally_filter]
        have := List.length_pos_of_mem ((List.mem_filter (p := fun p => Hld p x)).mpr ⟨hmem, hj2⟩)
        omega
      cases i with
      | zero =>
        have hi : Hld p x = true := by simpa using hi
        rw [if_pos hi] at h
        omega
      | succ i =>
        have hi : Hld (l.getD i (1, 0)) x = true := by simpa using hi
        have hle : tallyZ l x ≤ 1 := by
          by_cases hp : Hld p x = true
          · rw [if_pos hp] at h
            omega
          · rw [if_neg hp] at h
            omega
        exact ih.mpr hle i j' (by omega) hjl ⟨hi, hj2⟩
theorem noPair_days {lot : List (Int × Int)} (hw : ∀ p ∈ lot, 0 < p.1) : noPair lot = true ↔ ∀ x, tallyZ lot x ≤ 1 := by
  have mem : ∀ i, i < lot.length → lot.getD i (1, 0) ∈ lot := fun i hi => by
    rw [List.getD_eq_getElem?_getD, List.getElem?_eq_getElem hi]
    exact List.getElem_mem hi
  rw [noPair_iff]
  constructor
  · exact fun h x => two_held.mp fun i j hij hj ⟨h1, h2⟩ => h i j hij hj (mt_of_day (hld_iff.mp h1) (hld_iff.mp h2))
  · intro h i j hij hj hm
    obtain ⟨x, hx⟩ := common_day (l := [lot.getD i (1, 0), lot.getD j (1, 0)]) (fun q hq => by
      simp only [List.mem_cons, List.not_mem_nil, or_false] at hq
      rcases hq with rfl | rfl
      · exact hw _ (mem i (by omega))
      · exact hw _ (mem j hj)) (fun p hp q hq => by
      simp only [List.mem_cons, List.not_mem_nil, or_false] at hp hq
      rcases hp with rfl | rfl <;> rcases hq with rfl | rfl
      · exact Mt.refl _
      · exact hm
      · exact hm.symm
      · exact Mt.refl _)
    exact two_held.mpr (h x) i j hij hj ⟨hld_iff.mpr (hx _ List.mem_cons_self), hld_iff.mpr (hx _ (List.mem_cons_of_mem _ List.mem_cons_self))⟩
/-- each day is held just once -/
theorem exact_iff {lot : List (Int × Int)} (hw : ∀ p ∈ lot, 0 < p.1) : (∀ x, tallyZ lot x = 1) ↔ (lot.map fun p => roundZ lot / p.1).sum = roundZ lot ∧ noPair lot = true := by
  have hr := roundZ_pos hw
  obtain ⟨n, hn⟩ : ∃ n : Nat, (n : Int) = roundZ lot := ⟨(roundZ lot).toNat, by omega⟩
  have hs := tally_sum (n := n) (lot := lot) fun p hp => ⟨hw p hp, by rw [hn]; exact dvd_roundZ hp (hw p hp)⟩
  rw [hn] at hs
  constructor
  · intro h
    refine ⟨?_, (noPair_days hw).mpr fun x => by rw [h x]; exact Int.le_refl _⟩
    rw [← hs, sumTo_one h, hn]
  · rintro ⟨h1, h2⟩ x
    have hle := (noPair_days hw).mp h2
    rw [h1, ← hn] at hs
    obtain ⟨r1, r2, r3⟩ := in_round hw x
    have := sumTo_full hle n hs (x % roundZ lot).toNat (by omega)
    rw [show (((x % roundZ lot).toNat : Nat) : Int) = x % roundZ lot by omega, r3] at this
    exact this
/-- the first pair that meets -/
structure FirstPair (lot : List (Int × Int)) (i j : Nat) : Prop where
  lt : i < j
  len : j < lot.length
  m : Mt (lot.getD i (1, 0)) (lot.getD j (1, 0))
  a : ∀ i' j', i' < i → i' < j' → j' < lot.length → ¬ Mt (lot.getD i' (1, 0)) (lot.getD j' (1, 0))
  b : ∀ j', i < j' → j' < j → ¬ Mt (lot.getD i (1, 0)) (lot.getD j' (1, 0))
theorem FirstPair.uniq {lot : List (Int × Int)} {i j i' j' : Nat} (h : FirstPair lot i j) (k : FirstPair lot i' j') : i = i' ∧ j = j' := by
  have hi : i = i' := by
    rcases Nat.lt_trichotomy i i' with z | z | z
    · exact absurd h.m (k.a i j z h.lt h.len)
    · exact z
    · exact absurd k.m (h.a i' j' z k.lt k.len)
  subst hi
  refine ⟨rfl, ?_⟩
  rcases Nat.lt_trichotomy j j' with z | z | z
  · exact absurd h.m (k.b j h.lt z)
  · exact z
  · exact absurd k.m (h.b j' k.lt z)
theorem FirstPair.no {lot : List (Int × Int)} {i j : Nat} (h : FirstPair lot i j) : noPair lot = false := by
  rw [Bool.eq_false_iff]
  exact fun z => noPair_iff.mp z i j h.lt h.len h.m
/-- a common day of two watches, found among as many of the one as the other's turn tells -/
theorem meet_steps {p q : Int × Int} (hp : 0 < p.1) (hq : 0 < q.1) : Mt p q ↔ ∃ k : Nat, (k : Int) < q.1 ∧ Hld q (p.2 + (k : Int) * p.1) = true := by
  constructor
  · intro h
    have h' : (q.2 - p.2) % gcdZ p.1 q.1 = 0 := by
      have := h.symm
      unfold Mt at this
      rw [gcdZ_comm] at this
      exact this
    obtain ⟨x, ⟨c, hc⟩, hx⟩ := both_day hp hq h'
    have l0 := Int.emod_nonneg c (show q.1 ≠ 0 by omega)
    have l1 := Int.emod_lt_of_pos c hq
    have l2 := Int.mul_ediv_add_emod c q.1
    refine ⟨(c % q.1).toNat, by omega, hld_iff.mpr ?_⟩
    rw [show (((c % q.1).toNat : Nat) : Int) = c % q.1 by omega]
    refine Int.emod_eq_zero_of_dvd ?_
    have e : p.2 + c % q.1 * p.1 - q.2 = (x - q.2) - q.1 * (p.1 * (c / q.1)) := by
      have : p.1 * c = q.1 * (p.1 * (c / q.1)) + c % q.1 * p.1 := by
        rw [Int.mul_left_comm, Int.mul_comm (c % q.1), ← Int.mul_add, l2]
      omega
    rw [e]
    exact Int.dvd_sub hx (Int.dvd_mul_right _ _)
  · rintro ⟨k, _, h⟩
    exact mt_of_day (x := p.2 + (k : Int) * p.1) (by rw [show p.2 + (k : Int) * p.1 - p.2 = (k : Int) * p.1 by omega]; exact Int.mul_emod_left _ _) (hld_iff.mp h)
section
variable {X : Cx}
def rIsB : V → V → Hp → VK → Prop := fun x y H Q => ∃ b c, x = .bl b ∧ y = .bl c ∧ Q (.bl (b == c)) H
def rNotB : V → V → Hp → VK → Prop := fun x y H Q => ∃ b c, x = .bl b ∧ y = .bl c ∧ Q (.bl (!(b == c))) H
theorem op_isB : OpR X (compareOp .Is) rIsB := by
  intro pins s σ H x y v u Q I rx ry h
  obtain ⟨b, c, rfl, rfl, q⟩ := h
  cases rx
  cases ry
  exact wpAny_is_plain rfl (fin_bl I q (by cases b <;> cases c <;> rfl))
theorem op_notB : OpR X (compareOp .IsNot) rNotB := by
  intro pins s σ H x y v u Q I rx ry h
  obtain ⟨b, c, rfl, rfl, q⟩ := h
  cases rx
  cases ry
  exact wpAny_isNot_plain rfl (fin_bl I q (by cases b <;> cases c <;> rfl))
theorem g_isBl {b c : Bool} {H : Hp} {Q : VK} (q : Q (.bl (b == c)) H) : rIsB (.bl b) (.bl c) H Q := ⟨b, c, rfl, rfl, q⟩
theorem g_notBl {b c : Bool} {H : Hp} {Q : VK} (q : Q (.bl (!(b == c))) H) : rNotB (.bl b) (.bl c) H Q := ⟨b, c, rfl, rfl, q⟩
theorem sm_bl {b : Bool} : Sm 150 8 20000 (.bool b) := by cases b <;> exact ⟨rfl, by decide, by decide, by decide, rfl⟩
theorem g_reprBl {K : PySem.W.Frag} {H : Hp} {b : Bool} {Q : VK} (q : Q (.str (PyData.bool b).shown) H) : rRepr K [.bl b] H Q := g_reprS (.bl b) sm_bl q
end
section
variable {K : PySem.W.Frag} {g : TG} {σ : L2.St} {H : Hp} {tt : TT} {te : TE} {vs : List Nat} {Q : VK} {a : Addr} {xs : List V}
/-- over a list, each step draws from the deck -/
theorem c_lstG {Dk0 : Dk} (R : Nat → Hp → List V → Prop) (hR : ∀ i H H' acc, TupKeep H H' → R i H acc → R i H' acc) (ha : Off Dk0 H a (.lst xs)) (hz : xs.length ≤ 1000000) (dk : DeckAt Dk0 H) (h0 : R 0 H [])
    (hs : ∀ i x H' acc (Kt : V → Hp → Prop) (Kf : Hp → Prop), xs[i]? = some x → Gr Dk0 H H' → R i H' acc → acc.length ≤ i →
      (∀ y H4, Gr Dk0 H' H4 → R (i + 1) H4 (acc ++ [y]) → Kt y H4) → (∀ H3, Gr Dk0 H' H3 → R (i + 1) H3 acc → Kf H3) →
      g x (wipe σ vs) H' fun σ2 H2 => wipe σ2 vs = wipe σ vs ∧ tt σ2 H2 fun b H3 => if b = true then te σ2 H3 Kt else Kf H3)
    (hd : ∀ D H' acc, H D = none → Gr Dk0 H H' → Off Dk0 H' D (.lst acc) → acc.length ≤ xs.length → R xs.length H' acc → Q (.ref D) H') : tLc (fun _ H R => R (Itl K a) H) g tt te vs σ H Q := by
  refine c_list (xs := xs) (fun D i H' => H D = none ∧ Gr Dk0 H H' ∧ ∃ acc, H' D = some (.lst acc) ∧ acc.length ≤ i ∧ R i H' acc)
    (fun D hD => ⟨hD, (Gr.refl dk).new hD, [], upd_same, Nat.le_refl _, hR _ _ _ _ (TupKeep.upd hD) h0⟩) (fun D i H' q => SqL.of (ha.go q.2.1).1) ?_ ?_
  · rintro D i x H' hx ⟨nD, s, acc, e, hl, r⟩
    obtain ⟨n0, n1, _⟩ := dk.ne nD
    have hi : i < xs.length := (List.getElem?_eq_some_iff.mp hx).1
    refine hs i x H' acc _ _ hx s r hl (fun y H4 s4 r4 => ?_) (fun H3 s3 r3 => ?_)
    · exact ⟨acc, s4.keep _ _ e n0 n1, small (by omega), nD, (s.trans s4).mut dk nD, acc ++ [y], upd_same, by rw [List.length_append]; show acc.length + 1 ≤ _; omega, hR _ _ _ _ (TupKeep.lst (s4.keep _ _ e n0 n1)) r4⟩
    · exact ⟨nD, s.trans s3, acc, s3.keep _ _ e n0 n1, by omega, r3⟩
  · rintro D H' ⟨nD, s, acc, e, hl, r⟩
    obtain ⟨n0, n1, _⟩ := dk.ne nD
    exact hd D H' acc nD s ⟨e, n0, n1, dk.isno nD⟩ hl r
end
end DW
/-! DWBoth: what two watches hold together, by Euclid's steps from both turns. -/
namespace DW
open PySem PySem.Spec PyProof.Rows L2
/-- a step of Euclid's, from a and m on -/
structure EuSt (a m x y u v : Int) : Prop where
  hx : 1 ≤ x
  hy : 0 ≤ y
  ex : m ∣ x - u * a
  ey : m ∣ y - v * a
  g : Nat.gcd x.natAbs y.natAbs = Nat.gcd a.natAbs m.natAbs
  d : x * v - y * u = m ∨ x * v - y * u = -m
  s : u * v ≤ 0
  bu : -m ≤ u ∧ u ≤ m
  bv : -m ≤ v ∧ v ≤ m
  lx : x ≤ a + m
  ly : y ≤ a + m
theorem EuSt.start {a m : Int} (ha : 0 < a) (hm : 0 < m) : EuSt a m a m 1 0 :=
  ⟨by omega, by omega, by rw [Int.one_mul, Int.sub_self]; exact Int.dvd_zero m, by rw [Int.zero_mul, Int.sub_zero]; exact Int.dvd_refl m, rfl, .inr (by omega), by omega, by omega, by omega, by omega, by omega⟩
theorem EuSt.next {a m x y u v : Int} (h : EuSt a m x y u v) (hm : 0 < m) (hy : 0 < y) : EuSt a m y (x - x / y * y) v (u - x / y * v) := by
  have e : x - x / y * y = x % y := by
    have := Int.emod_add_ediv_mul x y
    omega
  have w0 : 0 ≤ x / y := Int.ediv_nonneg (by have := h.hx; omega) (by omega)
  have h1 := Int.emod_nonneg x (show y ≠ 0 by omega)
  have h2 := Int.emod_lt_of_pos x hy
  have e2 : y * (u - x / y * v) - (x - x / y * y) * v = -(x * v - y * u) := by
    rw [Int.mul_sub, Int.sub_mul]
    have a1 : y * (x / y * v) = x / y * y * v := by rw [← Int.mul_assoc, Int.mul_comm y]
    rw [a1]
    omega
  have dd : y * (u - x / y * v) - (x - x / y * y) * v = m ∨ y * (u - x / y * v) - (x - x / y * y) * v = -m := by
    rw [e2]
    rcases h.d with h | h <;> omega
  have sg : v * (u - x / y * v) ≤ 0 := by
    rw [Int.mul_sub]
    have a1 : v * u = u * v := Int.mul_comm _ _
    have a2 : v * (x / y * v) = x / y * (v * v) := by rw [Int.mul_comm v (x / y * v), Int.mul_assoc]
    have a3 : 0 ≤ v * v := by
      rcases Int.le_total 0 v with z | z
      · exact Int.mul_nonneg z z
      · exact Int.mul_nonneg_of_nonpos_of_nonpos z z
    have a4 := Int.mul_nonneg w0 a3
    have := h.s
    omega
  refine ⟨by omega, by omega, h.ey, ?_, ?_, dd, sg, h.bv, ?_, h.ly, by have := h.ly; omega⟩
  · have d1 := Int.dvd_sub h.ex (Int.dvd_trans h.ey (Int.dvd_mul_left (x / y) _))
    have e3 : x - u * a - x / y * (y - v * a) = x - x / y * y - (u - x / y * v) * a := by
      rw [Int.mul_sub, Int.sub_mul, Int.mul_assoc]
      omega
    rw [e3] at d1
    exact d1
  · rw [e, ← h.g]
    obtain ⟨n, rfl⟩ : ∃ n : Nat, x = (n : Int) := ⟨x.toNat, by have := h.hx; omega⟩
    obtain ⟨k, rfl⟩ : ∃ k : Nat, y = (k : Int) := ⟨y.toNat, by omega⟩
    rw [← Int.natCast_emod, Int.natAbs_natCast, Int.natAbs_natCast, Int.natAbs_natCast, Nat.gcd_comm k, ← Nat.gcd_rec, Nat.gcd_comm]
  · -- y * w and the like have one sign: none is longer than m
    generalize u - x / y * v = w at dd sg
    generalize x - x / y * y = z at dd e
    have hz : 0 ≤ z := by omega
    have key : y * w ≤ m ∧ -m ≤ y * w := by
      rcases Int.le_total 0 w with q | q
      · have v0 : w = 0 ∨ v ≤ 0 := by
          by_cases z0 : w = 0
          · exact .inl z0
          · refine .inr ?_
            by_cases z1 : v ≤ 0
            · exact z1
            · have : 1 * 1 ≤ v * w := Int.mul_le_mul (by omega) (by omega) (by decide) (by omega)
              omega
        rcases v0 with v0 | v0
        · rw [v0, Int.mul_zero]
          omega
        · have p1 := Int.mul_nonneg (show 0 ≤ y by omega) q
          have p2 := Int.mul_nonpos_of_nonneg_of_nonpos hz v0
          omega
      · have v0 : w = 0 ∨ 0 ≤ v := by
          by_cases z0 : w = 0
          · exact .inl z0
          · refine .inr ?_
            by_cases z1 : 0 ≤ v
            · exact z1
            · have : 1 * 1 ≤ (-v) * (-w) := Int.mul_le_mul (by omega) (by omega) (by decide) (by omega)
              rw [Int.neg_mul_neg] at this
              omega
        rcases v0 with v0 | v0
        · rw [v0, Int.mul_zero]
          omega
        · have p1 := Int.mul_nonpos_of_nonneg_of_nonpos (show 0 ≤ y by omega) q
          have p2 := Int.mul_nonneg hz v0
          omega
    constructor
    · by_cases z0 : 0 ≤ w
      · omega
      · have : y * w ≤ 1 * w := Int.mul_le_mul_of_nonpos_right (by omega) (by omega)
        omega
    · by_cases z0 : 0 ≤ w
      · have : 1 * w ≤ y * w := Int.mul_le_mul_of_nonneg_right (by omega) z0
        omega
      · omega
theorem EuSt.last {a m x u v : Int} (h : EuSt a m x 0 u v) : x = gcdZ a m := by
  have g := h.g
  rw [show (0 : Int).natAbs = 0 from rfl, Nat.gcd_zero_right] at g
  have := h.hx
  unfold gcdZ
  omega
/-- the first day that both hold, told by u -/
theorem EuSt.both {t f n e u v : Int} (h : EuSt t n (gcdZ t n) 0 u v) (ht : 0 < t) (hn : 0 < n) (hw : (e - f) % gcdZ t n = 0) :
    JoinOf (t, f) (n, e) (t / gcdZ t n * n, (f + (e - f) / gcdZ t n * u * t) % (t / gcdZ t n * n)) := by
  have hg := gcdZ_pos (a := t) hn
  have g1 := gcdZ_left t n
  have g2 := gcdZ_right t n
  have el : t / gcdZ t n * n = ((Nat.lcm t.natAbs n.natAbs : Nat) : Int) := by
    rw [← lcm_as ht hn]
    obtain ⟨c, hc⟩ := g1
    obtain ⟨c', hc'⟩ := g2
    have q1 : t / gcdZ t n = c := by
      conv => lhs; lhs; rw [hc]
      exact Int.mul_ediv_cancel_left _ (by omega)
    have q2 : n / gcdZ t n = c' := by
      conv => lhs; lhs; rw [hc']
      exact Int.mul_ediv_cancel_left _ (by omega)
    rw [q1, q2]
    conv => lhs; rhs; rw [hc']
    conv => rhs; lhs; rw [hc]
    rw [← Int.mul_assoc, Int.mul_comm c]
  have d1 : t ∣ t / gcdZ t n * n := by
    rw [el]
    exact Int.natAbs_dvd.mp (Int.ofNat_dvd.mpr (Nat.dvd_lcm_left _ _))
  have d2 : n ∣ t / gcdZ t n * n := Int.dvd_mul_left _ _
  have pos : 0 < t / gcdZ t n * n := by
    obtain ⟨c, hc⟩ := d1
    have : 0 < ((Nat.lcm t.natAbs n.natAbs : Nat) : Int) := by
      have := Nat.lcm_pos (m := t.natAbs) (n := n.natAbs) (by omega) (by omega)
      omega
    omega
  generalize t / gcdZ t n * n = M at el d1 d2 pos
  have back := @Int.dvd_self_sub_emod (f + (e - f) / gcdZ t n * u * t) M
  generalize hR : (f + (e - f) / gcdZ t n * u * t) % M = R at back
  refine ⟨el, by show 0 ≤ R; rw [← hR]; exact Int.emod_nonneg _ (by omega), by show R < M; rw [← hR]; exact Int.emod_lt_of_pos _ pos, ?_, ?_⟩
  · show (R - f) % t = 0
    refine Int.emod_eq_zero_of_dvd ?_
    have z := Int.dvd_trans d1 back
    have z2 := Int.dvd_sub (Int.dvd_mul_left ((e - f) / gcdZ t n * u) t) z
    rw [show (e - f) / gcdZ t n * u * t - (f + (e - f) / gcdZ t n * u * t - R) = R - f by omega] at z2
    exact z2
  · show (R - e) % n = 0
    refine Int.emod_eq_zero_of_dvd ?_
    have z := Int.dvd_trans d2 back
    have z2 := Int.dvd_trans h.ex (Int.dvd_mul_left ((e - f) / gcdZ t n) _)
    have z3 := Int.dvd_add z z2
    have q := Int.ediv_mul_cancel (Int.dvd_of_emod_eq_zero hw)
    rw [Int.mul_sub, q, ← Int.mul_assoc] at z3
    rw [show f + (e - f) / gcdZ t n * u * t - R + (e - f - (e - f) / gcdZ t n * u * t) = -(R - e) by omega] at z3
    exact Int.dvd_neg.mp z3
end DW
/-! DWCross: the lot of what each watch of the one and each of the other hold together. -/
namespace DW
open PySem PySem.Spec PyProof.Rows L2
theorem EuSt.ends {a m : Int} (hm : 0 < m) : ∀ (c : Nat) {x y u v : Int}, EuSt a m x y u v → y.toNat = c → ∃ u v, EuSt a m (gcdZ a m) 0 u v := by
  intro c
  induction c using Nat.strongRecOn with
  | ind c ih =>
    intro x y u v h e
    by_cases z : y = 0
    · subst z
      have ex := h.last
      subst ex
      exact ⟨u, v, h⟩
    · have hy : 0 < y := by have := h.hy; omega
      have h2 := h.next hm hy
      have e2 : x - x / y * y = x % y := by
        have := Int.emod_add_ediv_mul x y
        omega
      have l1 := Int.emod_nonneg x (show y ≠ 0 by omega)
      have l2 := Int.emod_lt_of_pos x hy
      exact ih (x - x / y * y).toNat (by omega) h2 rfl
theorem join_ex {p q : Int × Int} (hp : 0 < p.1) (hq : 0 < q.1) (h : Meets2 p q) : ∃ r, JoinOf p q r := by
  obtain ⟨t, f⟩ := p
  obtain ⟨n, e⟩ := q
  obtain ⟨u, v, I⟩ := EuSt.ends hq _ (EuSt.start hp hq) rfl
  exact ⟨_, I.both hp hq h⟩
open Classical in
noncomputable def joinO (p q : Int × Int) : Option (Int × Int) := if h : ∃ r, JoinOf p q r then some (Classical.choose h) else none
theorem joinO_some {p q r : Int × Int} (h : JoinOf p q r) : joinO p q = some r := by
  unfold joinO
  have h2 : ∃ r, JoinOf p q r := ⟨r, h⟩
  rw [dif_pos h2]
  exact congrArg some ((Classical.choose_spec h2).uniq h)
theorem joinO_none {p q : Int × Int} (h : ¬ Meets2 p q) : joinO p q = none := by
  unfold joinO
  rw [dif_neg fun ⟨r, z⟩ => h z.meets]
theorem joinO_of {p q r : Int × Int} (h : joinO p q = some r) : JoinOf p q r := by
  unfold joinO at h
  by_cases z : ∃ r, JoinOf p q r
  · rw [dif_pos z] at h
    cases h
    exact Classical.choose_spec z
  · rw [dif_neg z] at h
    cases h
theorem JoinOf.hld {p q r : Int × Int} (h : JoinOf p q r) (d : Int) : Hld r d = (Hld p d && Hld q d) := by
  rw [Bool.eq_iff_iff, Bool.and_eq_true, hld_iff, hld_iff, hld_iff]
  have da := Int.dvd_of_emod_eq_zero h.ha
  have db := Int.dvd_of_emod_eq_zero h.hb
  have la : p.1 ∣ r.1 := by
    rw [h.t]
    exact Int.natAbs_dvd.mp (Int.ofNat_dvd.mpr (Nat.dvd_lcm_left _ _))
  have lb : q.1 ∣ r.1 := by
    rw [h.t]
    exact Int.natAbs_dvd.mp (Int.ofNat_dvd.mpr (Nat.dvd_lcm_right _ _))
  constructor
  · intro z
    have z := Int.dvd_of_emod_eq_zero z
    refine ⟨Int.emod_eq_zero_of_dvd ?_, Int.emod_eq_zero_of_dvd ?_⟩
    · have := Int.dvd_add (Int.dvd_trans la z) da
      rw [show d - r.2 + (r.2 - p.2) = d - p.2 by omega] at this
      exact this
    · have := Int.dvd_add (Int.dvd_trans lb z) db
      rw [show d - r.2 + (r.2 - q.2) = d - q.2 by omega] at this
      exact this
  · rintro ⟨z1, z2⟩
    have z1 := Int.dvd_sub (Int.dvd_of_emod_eq_zero z1) da
    have z2 := Int.dvd_sub (Int.dvd_of_emod_eq_zero z2) db
    rw [show d - p.2 - (r.2 - p.2) = d - r.2 by omega] at z1
    rw [show d - q.2 - (r.2 - q.2) = d - r.2 by omega] at z2
    refine Int.emod_eq_zero_of_dvd ?_
    rw [h.t]
    exact lcm_dvd_int z1 z2
theorem meets_of {p q : Int × Int} {d : Int} (h1 : Hld p d = true) (h2 : Hld q d = true) : Meets2 p q := by
  have h1 := Int.dvd_trans (gcdZ_left p.1 q.1) (Int.dvd_of_emod_eq_zero (hld_iff.mp h1))
  have h2 := Int.dvd_trans (gcdZ_right p.1 q.1) (Int.dvd_of_emod_eq_zero (hld_iff.mp h2))
  refine Int.emod_eq_zero_of_dvd ?_
  have := Int.dvd_sub h1 h2
  rw [show d - p.2 - (d - q.2) = q.2 - p.2 by omega] at this
  exact this
noncomputable def crossL (one other : List (Int × Int)) : List (Int × Int) := one.flatMap fun p => other.filterMap (joinO p)
theorem row_count {p : Int × Int} {d : Int} (hp : 0 < p.1) : ∀ other : List (Int × Int), (∀ q ∈ other, 0 < q.1) → ((other.filterMap (joinO p)).filter fun r => Hld r d).length = if Hld p d = true then (other.filter fun q => Hld q d).length else 0
  | [], _ => by simp
  | q :: other, h => by
    have ih := row_count (d := d) hp other fun y hy => h y (List.mem_cons_of_mem _ hy)
    have hq := h q List.mem_cons_self
    by_cases m : Meets2 p q
    · obtain ⟨r, hr⟩ := join_ex hp hq m
      rw [List.filterMap_cons_some (joinO_some hr)]
      have e := hr.hld d
      by_cases z : Hld r d = true
      · rw [List.filter_cons_of_pos (by simpa using z), List.length_cons, ih]
        rw [z] at e
        have e := e.symm
        rw [Bool.and_eq_true] at e
        rw [if_pos e.1, if_pos e.1, List.filter_cons_of_pos (by simpa using e.2), List.length_cons]
      · rw [List.filter_cons_of_neg (by simpa using z), ih]
        by_cases z1 : Hld p d = true
        · have z2 : ¬ Hld q d = true := fun z2 => z (by rw [e, z1, z2]; rfl)
          rw [if_pos z1, if_pos z1, List.filter_cons_of_neg (by simpa using z2)]
        · rw [if_neg z1, if_neg z1]
    · rw [List.filterMap_cons_none (joinO_none m), ih]
      by_cases z1 : Hld p d = true
      · have z2 : ¬ Hld q d = true := fun z2 => m (meets_of z1 z2)
        rw [if_pos z1, if_pos z1, List.filter_cons_of_neg (by simpa using z2)]
      · rw [if_neg z1, if_neg z1]
theorem cross_count {d : Int} {other : List (Int × Int)} (hq : ∀ q ∈ other, 0 < q.1) : ∀ one : List (Int × Int), (∀ p ∈ one, 0 < p.1) → ((crossL one other).filter fun r => Hld r d).length = (one.filter fun p => Hld p d).length * (other.filter fun q => Hld q d).length
  | [], _ => by simp [crossL]
  | p :: one, h => by
    have ih := cross_count (d := d) hq one fun y hy => h y (List.mem_cons_of_mem _ hy)
    have e : crossL (p :: one) other = other.filterMap (joinO p) ++ crossL one other := by
      unfold crossL
      rw [List.flatMap_cons]
    rw [e, List.filter_append, List.length_append, ih, row_count (h p List.mem_cons_self) other hq]
    by_cases z : Hld p d = true
    · rw [if_pos z, List.filter_cons_of_pos (by simpa using z), List.length_cons, Nat.add_mul, Nat.one_mul, Nat.add_comm]
    · rw [if_neg z, List.filter_cons_of_neg (by simpa using z), Nat.zero_add]
theorem cross_tally {one other : List (Int × Int)} (h1 : ∀ p ∈ one, 0 < p.1) (h2 : ∀ q ∈ other, 0 < q.1) (d : Int) : tallyZ (crossL one other) d = tallyZ one d * tallyZ other d := by
  rw [tally_filter, tally_filter, tally_filter, cross_count h2 one h1, Int.natCast_mul]
/-- what comes of it are watches, but for their length -/
theorem cross_mem {one other : List (Int × Int)} (h1 : ∀ p ∈ one, WOk p) (h2 : ∀ q ∈ other, WOk q) : ∀ r ∈ crossL one other, 1 ≤ r.1 ∧ r.1 ≤ 1000000000000000000000000 ∧ 0 ≤ r.2 ∧ r.2 < r.1 := by
  intro r hr
  obtain ⟨p, hp, hr⟩ := List.mem_flatMap.mp hr
  obtain ⟨q, hq, hr⟩ := List.mem_filterMap.mp hr
  have J := joinO_of hr
  have a := h1 p hp
  have b := h2 q hq
  have l1 := J.lo
  have l2 := J.hi
  refine ⟨by omega, ?_, l1, l2⟩
  rw [J.t]
  have z : Nat.lcm p.1.natAbs q.1.natAbs ≤ p.1.natAbs * q.1.natAbs := by
    unfold Nat.lcm
    exact Nat.div_le_self _ _
  have z2 : p.1.natAbs * q.1.natAbs ≤ 1000000000000 * 1000000000000 := Nat.mul_le_mul (by have := a.1; have := a.2.1; omega) (by have := b.1; have := b.2.1; omega)
  omega
theorem cross_len {one other : List (Int × Int)} : (crossL one other).length ≤ one.length * other.length := by
  induction one with
  | nil => simp [crossL]
  | cons p one ih =>
    have e : crossL (p :: one) other = other.filterMap (joinO p) ++ crossL one other := by
      unfold crossL
      rw [List.flatMap_cons]
    rw [e, List.length_append, List.length_cons, Nat.add_mul, Nat.one_mul]
    have := List.length_filterMap_le (joinO p) other
    omega
/-! ### places that may be empty -/
def OptAt (H : Hp) (v : V) (o : Option (Int × Int)) : Prop := match o with
  | none => v = .non
  | some p => PairAt H v p
def OptsAt (H : Hp) (vs : List V) (os : List (Option (Int × Int))) : Prop := Paired (OptAt H) vs os
theorem OptsAt.go {H H' : Hp} {vs : List V} {os : List (Option (Int × Int))} (h : OptsAt H vs os) (k : TupKeep H H') : OptsAt H' vs os :=
  paired_imp (fun v o q => by
    cases o with
    | none => exact q
    | some p => exact PairAt.go q k) h
theorem opts_pairs {H : Hp} : ∀ (os : List (Option (Int × Int))) (vs : List V), OptsAt H vs os → PairsAt H (vs.filter fun v => !decide (v = .non)) (os.filterMap id)
  | [], vs, h => by
    cases h
    exact .nil
  | none :: os, vs, h => by
    cases h with
    | cons h t =>
      have h := (show _ = V.non from h)
      subst h
      rw [List.filter_cons_of_neg (by simp)]
      exact opts_pairs os _ t
  | some p :: os, vs, h => by
    cases h with
    | cons h t =>
      obtain ⟨z, rfl, e⟩ := (show PairAt H _ p from h)
      rw [List.filter_cons_of_pos (by rw [decide_eq_false (show ¬ V.ref z = V.non from nofun)]; rfl)]
      exact .cons ⟨z, rfl, e⟩ (opts_pairs os _ t)
theorem OptsAt.snoc {H : Hp} {v : V} {o : Option (Int × Int)} : ∀ {vs : List V} {os : List (Option (Int × Int))}, OptsAt H vs os → OptAt H v o → OptsAt H (vs ++ [v]) (os ++ [o])
  | _, _, .nil, k => .cons k .nil
  | _, _, .cons h t, k => .cons h (OptsAt.snoc t k)
/-- all that has been looked at, up to the place (i, j) -/
noncomputable def crossTo (one other : List (Int × Int)) (i j : Nat) : List (Option (Int × Int)) :=
  ((one.take i).flatMap fun p => other.map (joinO p)) ++ (((one.drop i).take 1).flatMap fun p => (other.take j).map (joinO p))
theorem crossTo_row {one other : List (Int × Int)} {i : Nat} : crossTo one other i other.length = crossTo one other (i + 1) 0 := by
  unfold crossTo
  rw [List.take_length, List.take_zero]
  have e0 : (((one.drop (i + 1)).take 1).flatMap fun p => (([] : List (Int × Int))).map (joinO p)) = [] := by
    rw [List.flatMap_eq_nil_iff]
    intro p _
    rfl
  rw [e0, List.append_nil]
  by_cases h : i < one.length
  · rw [take_step (List.getElem?_eq_getElem h), List.flatMap_append]
    congr 1
    rw [List.drop_eq_getElem_cons h]
    rfl
  · rw [List.drop_eq_nil_of_le (by omega), List.take_of_length_le (show one.length ≤ i by omega), List.take_of_length_le (show one.length ≤ i + 1 by omega)]
    simp
theorem crossTo_step {one other : List (Int × Int)} {i j : Nat} {p q : Int × Int} (h : one[i]? = some p) (k : other[j]? = some q) : crossTo one other i (j + 1) = crossTo one other i j ++ [joinO p q] := by
  unfold crossTo
  obtain ⟨hi, rfl⟩ := List.getElem?_eq_some_iff.mp h
  rw [List.append_assoc]
  congr 1
  rw [List.drop_eq_getElem_cons hi]
  simp only [List.take_succ_cons, List.take_zero, List.flatMap_cons, List.flatMap_nil, List.append_nil]
  rw [take_step k, List.map_append]
  rfl
theorem crossTo_end {one other : List (Int × Int)} : (crossTo one other one.length 0).filterMap id = crossL one other := by
  unfold crossTo crossL
  rw [List.drop_length, List.take_length]
  simp only [List.take_nil, List.flatMap_nil, List.append_nil]
  induction one with
  | nil => rfl
  | cons p one ih =>
    rw [List.flatMap_cons, List.flatMap_cons, List.filterMap_append, ih]
    congr 1
    rw [List.filterMap_map]
    rfl
theorem flat_len {α β : Type} {f : α → List β} {n : Nat} : ∀ l : List α, (∀ x ∈ l, (f x).length ≤ n) → (l.flatMap f).length ≤ l.length * n
  | [], _ => by simp
  | x :: l, h => by
    rw [List.flatMap_cons, List.length_append, List.length_cons, Nat.add_mul, Nat.one_mul]
    have := h x List.mem_cons_self
    have := flat_len l fun y hy => h y (List.mem_cons_of_mem _ hy)
    omega
theorem crossTo_len {one other : List (Int × Int)} (h1 : one.length ≤ 10) (h2 : other.length ≤ 10) (i j : Nat) : (crossTo one other i j).length ≤ 110 := by
  unfold crossTo
  rw [List.length_append]
  have a := flat_len (f := fun p => other.map (joinO p)) (n := 10) (one.take i) fun x _ => by rw [List.length_map]; exact h2
  have b := flat_len (f := fun p => (other.take j).map (joinO p)) (n := 10) ((one.drop i).take 1) fun x _ => by rw [List.length_map, List.length_take]; omega
  have c : (one.take i).length ≤ 10 := by rw [List.length_take]; omega
  have d : ((one.drop i).take 1).length ≤ 1 := by rw [List.length_take]; omega
  omega
end DW
/-! DWCount: days that just so many watches hold, counted by what the choices of some watches have in common. -/
namespace DW
open PySem PySem.Spec PyProof.Rows L2
/-! ### sums, signs, choices -/
def sN (f : Nat → Int) : Nat → Int
  | 0 => 0
  | n + 1 => sN f n + f n
theorem sN_ext {f g : Nat → Int} : ∀ n, (∀ i, i < n → f i = g i) → sN f n = sN g n
  | 0, _ => rfl
  | n + 1, h => by
    show sN f n + f n = sN g n + g n
    rw [sN_ext n fun i hi => h i (by omega), h n (by omega)]
theorem sN_zero {f : Nat → Int} : ∀ n, (∀ i, i < n → f i = 0) → sN f n = 0
  | 0, _ => rfl
  | n + 1, h => by
    show sN f n + f n = 0
    rw [sN_zero n fun i hi => h i (by omega), h n (by omega)]
    rfl
theorem sN_add {f g : Nat → Int} : ∀ n, sN (fun i => f i + g i) n = sN f n + sN g n
  | 0 => rfl
  | n + 1 => by
    show sN _ n + (f n + g n) = sN f n + f n + (sN g n + g n)
    rw [sN_add n]
    omega
theorem sN_neg {f : Nat → Int} : ∀ n, sN (fun i => -(f i)) n = -(sN f n)
  | 0 => rfl
  | n + 1 => by
    show sN _ n + -(f n) = -(sN f n + f n)
    rw [sN_neg n]
    omega
theorem sN_mul {f : Nat → Int} {c : Int} : ∀ n, sN (fun i => c * f i) n = c * sN f n
  | 0 => by show (0 : Int) = c * 0; omega
  | n + 1 => by
    show sN _ n + c * f n = c * (sN f n + f n)
    rw [sN_mul n, Int.mul_add]
theorem sN_front {f : Nat → Int} : ∀ n, sN f (n + 1) = f 0 + sN (fun i => f (i + 1)) n
  | 0 => by show (0 : Int) + f 0 = f 0 + 0; omega
  | n + 1 => by
    show sN f (n + 1) + f (n + 1) = f 0 + (sN (fun i => f (i + 1)) n + f (n + 1))
    rw [sN_front n]
    omega
theorem sN_split {f : Nat → Int} {m : Nat} : ∀ n, sN f (m + n) = sN f m + sN (fun i => f (m + i)) n
  | 0 => by show sN f m = sN f m + 0; omega
  | n + 1 => by
    show sN f (m + n) + f (m + n) = sN f m + (sN (fun i => f (m + i)) n + f (m + n))
    rw [sN_split n]
    omega
theorem sN_swap {g : Nat → Nat → Int} {m : Nat} : ∀ n, sN (fun s => sN (fun x => g s x) n) m = sN (fun x => sN (fun s => g s x) m) n
  | 0 => sN_zero m fun _ _ => rfl
  | n + 1 => by
    show sN (fun s => sN (fun x => g s x) n + g s n) m = sN (fun x => sN (fun s => g s x) m) n + sN (fun s => g s n) m
    rw [sN_add, sN_swap n]
def ch : Nat → Nat → Nat
  | _, 0 => 1
  | 0, _ + 1 => 0
  | n + 1, s + 1 => ch n s + ch n (s + 1)
theorem ch_zero (n : Nat) : ch n 0 = 1 := by cases n <;> rfl
theorem ch_big : ∀ {n s : Nat}, n < s → ch n s = 0
  | _, 0, h => absurd h (by omega)
  | 0, _ + 1, _ => rfl
  | n + 1, s + 1, h => by
    show ch n s + ch n (s + 1) = 0
    rw [ch_big (show n < s by omega), ch_big (show n < s + 1 by omega)]
def sg (n : Nat) : Int := if n % 2 = 0 then 1 else -1
theorem sg_succ (n : Nat) : sg (n + 1) = -(sg n) := by
  unfold sg
  by_cases h : n % 2 = 0
  · rw [if_pos h, if_neg (by omega)]
  · rw [if_neg h, if_pos (by omega)]
    rfl
theorem sg_two (n k : Nat) : sg (k + k + n) = sg n := by
  unfold sg
  rw [show (k + k + n) % 2 = n % 2 by omega]
/-- with these signs all but the choices of just t are counted away -/
def away (N k t : Nat) : Int := sN (fun s => sg (s + t) * (ch s t : Int) * (ch k s : Int)) N
theorem away_more {k t : Nat} {M : Nat} (h : k < M) : away (M + 1) k t = away M k t := by
  show away M k t + sg (M + t) * (ch M t : Int) * (ch k M : Int) = _
  rw [ch_big h]
  omega
theorem away_ok : ∀ (k t N : Nat), k < N → away N k t = if k = t then 1 else 0
  | 0, t, N, h => by
    obtain ⟨M, rfl⟩ : ∃ M, N = M + 1 := ⟨N - 1, by omega⟩
    unfold away
    rw [sN_front, sN_zero M fun i _ => by show _ * ((ch 0 (i + 1) : Nat) : Int) = 0; show _ * ((0 : Nat) : Int) = 0; omega]
    cases t with
    | zero => rfl
    | succ t =>
      show sg (0 + (t + 1)) * ((0 : Nat) : Int) * _ + 0 = _
      rw [if_neg (by omega)]
      simp
  | k + 1, t, N, h => by
    obtain ⟨M, rfl⟩ : ∃ M, N = M + 1 := ⟨N - 1, by omega⟩
    have hk : k < M := by omega
    have e1 : away (M + 1) (k + 1) t = away (M + 1) k t + sN (fun s => sg (s + 1 + t) * (ch (s + 1) t : Int) * (ch k s : Int)) M := by
      unfold away
      rw [sN_front, sN_front (n := M)]
      rw [show (fun i => sg (i + 1 + t) * (ch (i + 1) t : Int) * (ch (k + 1) (i + 1) : Int)) = fun i => sg (i + 1 + t) * (ch (i + 1) t : Int) * (ch k (i + 1) : Int) + sg (i + 1 + t) * (ch (i + 1) t : Int) * (ch k i : Int) from funext fun i => by
        show _ * ((ch k i + ch k (i + 1) : Nat) : Int) = _
        rw [Int.natCast_add, Int.mul_add]
        omega]
      rw [sN_add, ch_zero, ch_zero]
      omega
    rw [e1, away_more hk]
    cases t with
    | zero =>
      have e2 : sN (fun s => sg (s + 1 + 0) * (ch (s + 1) 0 : Int) * (ch k s : Int)) M = -(away M k 0) := by
        unfold away
        rw [← sN_neg]
        refine sN_ext M fun i _ => ?_
        rw [ch_zero, ch_zero, show i + 1 + 0 = i + 1 from rfl, show i + 0 = i from rfl, sg_succ, Int.neg_mul, Int.neg_mul]
      rw [e2, if_neg (by omega)]
      omega
    | succ u =>
      have e2 : sN (fun s => sg (s + 1 + (u + 1)) * (ch (s + 1) (u + 1) : Int) * (ch k s : Int)) M = away M k u + -(away M k (u + 1)) := by
        unfold away
        rw [← sN_neg, ← sN_add]
        refine sN_ext M fun i _ => ?_
        show sg (i + 1 + (u + 1)) * ((ch i u + ch i (u + 1) : Nat) : Int) * _ = _
        rw [show i + 1 + (u + 1) = i + u + 1 + 1 by omega, sg_succ, sg_succ, Int.neg_neg, show i + (u + 1) = i + u + 1 by omega, sg_succ, Int.natCast_add, Int.mul_add, Int.add_mul, Int.neg_mul, Int.neg_mul, Int.neg_neg]
      rw [e2, away_ok k u M hk]
      by_cases z : k = u
      · rw [if_pos z, if_pos (by omega)]
        omega
      · rw [if_neg z, if_neg (by omega)]
        omega
/-! ### days of a stretch -/
def tallyN (lot : List (Int × Int)) (x : Int) : Nat := (lot.filter fun p => Hld p x).length
theorem tallyN_eq {lot : List (Int × Int)} {x : Int} : tallyZ lot x = (tallyN lot x : Int) := tally_filter
theorem tallyN_le {lot : List (Int × Int)} {x : Int} : tallyN lot x ≤ lot.length := List.length_filter_le _ _
/-- how many of n days from b on just t watches hold -/
def cntZ (lot : List (Int × Int)) (b : Int) (n t : Nat) : Int := sN (fun i => if tallyN lot (b + (i : Int)) = t then 1 else 0) n
theorem days_many {t f b : Int} (ht : 0 < t) : ∀ n : Nat, sN (fun i => if Hld (t, f) (b + (i : Int)) = true then 1 else 0) n = (b + (n : Int) - 1 - f) / t - (b - 1 - f) / t
  | 0 => by
    show (0 : Int) = _
    rw [show b + ((0 : Nat) : Int) - 1 - f = b - 1 - f by omega]
    omega
  | n + 1 => by
    show sN _ n + (if Hld (t, f) (b + (n : Int)) = true then 1 else 0) = _
    rw [days_many ht n, show b + ((n + 1 : Nat) : Int) - 1 - f = b + (n : Int) - f by omega, days_step ht (e := b + (n : Int))]
    omega
theorem sum_days {b : Int} {n : Nat} : ∀ ps : List (Int × Int), (∀ p ∈ ps, 0 < p.1) → (ps.map fun p => (b + (n : Int) - 1 - p.2) / p.1 - (b - 1 - p.2) / p.1).sum = sN (fun i => (((ps.filter fun r => Hld r (b + (i : Int))).length : Nat) : Int)) n
  | [], _ => by
    exact (sN_zero n fun i _ => rfl).symm
  | p :: ps, h => by
    have ih := sum_days (b := b) (n := n) ps fun q hq => h q (List.mem_cons_of_mem _ hq)
    rw [List.map_cons, List.sum_cons, ih, ← days_many (h p List.mem_cons_self) n, ← sN_add]
    refine sN_ext n fun i _ => ?_
    by_cases z : Hld p (b + (i : Int)) = true
    · rw [if_pos z, List.filter_cons_of_pos (by simpa using z), List.length_cons]
      omega
    · rw [if_neg z, List.filter_cons_of_neg (by simpa using z)]
      omega
/-! ### what the choices of so many watches have in common -/
noncomputable def joins (one : Int × Int) (ps : List (Int × Int)) : List (Int × Int) := ps.filterMap fun r => joinO r one
noncomputable def stepG (gs : List (List (Int × Int))) (one : Int × Int) : List (List (Int × Int)) := List.zipWith (· ++ ·) (gs ++ [[]]) ([] :: gs.map (joins one))
noncomputable def meetG (lot : List (Int × Int)) : List (List (Int × Int)) := lot.foldl stepG [[(1, 0)]]
theorem meetG_step {lot : List (Int × Int)} {i : Nat} {p : Int × Int} (h : lot[i]? = some p) : meetG (lot.take (i + 1)) = stepG (meetG (lot.take i)) p := by
  unfold meetG
  rw [take_step h, List.foldl_append]
  rfl
theorem stepG_len {gs : List (List (Int × Int))} {one : Int × Int} : (stepG gs one).length = gs.length + 1 := by
  unfold stepG
  have e : (([] : List (Int × Int)) :: gs.map (joins one)).length = gs.length + 1 := by rw [List.length_cons, List.length_map]
  rw [List.length_zipWith, e, List.length_append]
  show min (gs.length + 1) (gs.length + 1) = _
  omega
theorem stepG_get {gs : List (List (Int × Int))} {one : Int × Int} (s : Nat) : (stepG gs one).getD s [] = gs.getD s [] ++ (match s with | 0 => [] | k + 1 => joins one (gs.getD k [])) := by
  unfold stepG
  rw [List.getD_eq_getElem?_getD, List.getElem?_zipWith]
  cases s with
  | zero =>
    cases gs with
    | nil => rfl
    | cons g gs => simp
  | succ k =>
    rw [List.getElem?_cons_succ, List.getElem?_map]
    by_cases h1 : k + 1 < gs.length
    · rw [List.getElem?_append_left h1, List.getElem?_eq_getElem h1, List.getElem?_eq_getElem (show k < gs.length by omega)]
      simp [List.getD, List.getElem?_eq_getElem h1, List.getElem?_eq_getElem (show k < gs.length by omega)]
    · by_cases h2 : k + 1 = gs.length
      · rw [List.getElem?_append_right (by omega), List.getElem?_eq_getElem (show k < gs.length by omega), show k + 1 - gs.length = 0 by omega]
        simp [List.getD, List.getElem?_eq_getElem (show k < gs.length by omega), List.getElem?_eq_none (show gs.length ≤ k + 1 by omega)]
      · rw [List.getElem?_eq_none (l := gs ++ [[]]) (by rw [List.length_append]; show gs.length + 1 ≤ _; omega)]
        simp [List.getD, List.getElem?_eq_none (show gs.length ≤ k + 1 by omega), List.getElem?_eq_none (show gs.length ≤ k by omega), joins]
/-- what stands in them -/
structure GOk (gs : List (List (Int × Int))) (lot : List (Int × Int)) : Prop where
  len : gs.length = lot.length + 1
  cnt : ∀ s x, ((gs.getD s []).filter fun r => Hld r x).length = ch (tallyN lot x) s
  ok : ∀ s, ∀ r ∈ gs.getD s [], 0 < r.1 ∧ r.1.natAbs ≤ 2 ^ (40 * lot.length) ∧ 0 ≤ r.2 ∧ r.2 < r.1
  few : ∀ s, (gs.getD s []).length ≤ 2 ^ lot.length
theorem joins_count {one : Int × Int} {x : Int} (h1 : 0 < one.1) : ∀ ps : List (Int × Int), (∀ r ∈ ps, 0 < r.1) → ((joins one ps).filter fun r => Hld r x).length = if Hld one x = true then (ps.filter fun r => Hld r x).length else 0
  | [], _ => by simp [joins]
  | p :: ps, h => by
    have ih := joins_count (x := x) h1 ps fun y hy => h y (List.mem_cons_of_mem _ hy)
    have hp := h p List.mem_cons_self
    unfold joins at ih ⊢
    by_cases m : Meets2 p one
    · obtain ⟨r, hr⟩ := join_ex hp h1 m
      rw [List.filterMap_cons_some (f := fun r => joinO r one) (joinO_some hr)]
      have e := hr.hld x
      by_cases z : Hld r x = true
      · rw [z] at e
        have e := e.symm
        rw [Bool.and_eq_true] at e
        rw [List.filter_cons_of_pos (by simpa using z), List.length_cons, ih, if_pos e.2, if_pos e.2, List.filter_cons_of_pos (by simpa using e.1), List.length_cons]
      · rw [List.filter_cons_of_neg (by simpa using z), ih]
        by_cases z1 : Hld one x = true
        · have z2 : ¬ Hld p x = true := fun z2 => z (by rw [e, z1, z2]; rfl)
          rw [if_pos z1, if_pos z1, List.filter_cons_of_neg (by simpa using z2)]
        · rw [if_neg z1, if_neg z1]
    · rw [List.filterMap_cons_none (f := fun r => joinO r one) (joinO_none m), ih]
      by_cases z1 : Hld one x = true
      · have z2 : ¬ Hld p x = true := fun z2 => m (meets_of z2 z1)
        rw [if_pos z1, if_pos z1, List.filter_cons_of_neg (by simpa using z2)]
      · rw [if_neg z1, if_neg z1]
theorem GOk.start : GOk [[(1, 0)]] [] := by
  refine ⟨rfl, fun s x => ?_, fun s r hr => ?_, fun s => ?_⟩
  · cases s with
    | zero =>
      have e : Hld (1, 0) x = true := hld_iff.mpr (Int.emod_one _)
      show (List.filter _ [(1, 0)]).length = 1
      rw [List.filter_cons_of_pos (by simpa using e)]
      rfl
    | succ s => rfl
  · cases s with
    | zero =>
      have hr : r ∈ [((1 : Int), (0 : Int))] := hr
      rw [List.mem_singleton.mp hr]
      exact ⟨by decide, by decide, by decide, by decide⟩
    | succ s => cases hr
  · cases s with
    | zero => exact Nat.le_refl _
    | succ s => exact Nat.zero_le _
theorem GOk.step {gs : List (List (Int × Int))} {lot : List (Int × Int)} {one : Int × Int} (h : GOk gs lot) (w : WOk one) : GOk (stepG gs one) (lot ++ [one]) := by
  have h1 : 0 < one.1 := by have := w.1; omega
  have et : ∀ x, tallyN (lot ++ [one]) x = tallyN lot x + if Hld one x = true then 1 else 0 := fun x => by
    unfold tallyN
    rw [List.filter_append, List.length_append]
    congr 1
    by_cases z : Hld one x = true
    · rw [if_pos z, List.filter_cons_of_pos (by simpa using z)]
      rfl
    · rw [if_neg z, List.filter_cons_of_neg (by simpa using z)]
      rfl
  have hb : ∀ k, ∀ r ∈ joins one (gs.getD k []), 0 < r.1 ∧ r.1.natAbs ≤ 2 ^ (40 * (lot.length + 1)) ∧ 0 ≤ r.2 ∧ r.2 < r.1 := by
    intro k r hr
    unfold joins at hr
    obtain ⟨p, hp, hj⟩ := List.mem_filterMap.mp hr
    have J := joinO_of hj
    obtain ⟨a1, a2, a3, a4⟩ := h.ok k p hp
    have l1 := J.lo
    have l2 := J.hi
    refine ⟨by omega, ?_, l1, l2⟩
    have e : r.1.natAbs = Nat.lcm p.1.natAbs one.1.natAbs := by rw [J.t, Int.natAbs_natCast]
    have z : Nat.lcm p.1.natAbs one.1.natAbs ≤ p.1.natAbs * one.1.natAbs := by
      unfold Nat.lcm
      exact Nat.div_le_self _ _
    have w2 : one.1.natAbs ≤ 2 ^ 40 := Nat.le_trans (show one.1.natAbs ≤ 1000000000000 by have := w.2.1; omega) (by decide)
    have z2 := Nat.mul_le_mul a2 w2
    rw [← Nat.pow_add, show 40 * lot.length + 40 = 40 * (lot.length + 1) by omega] at z2
    omega
  have up : 2 ^ (40 * lot.length) ≤ 2 ^ (40 * (lot.length + 1)) := Nat.pow_le_pow_right (by decide) (by omega)
  have el : (lot ++ [one]).length = lot.length + 1 := by rw [List.length_append]; rfl
  refine ⟨by rw [stepG_len, h.len, el], fun s x => ?_, fun s r hr => ?_, fun s => ?_⟩
  · rw [stepG_get, List.filter_append, List.length_append, h.cnt s x, et]
    cases s with
    | zero =>
      rw [ch_zero, ch_zero]
      rfl
    | succ k =>
      show _ + ((joins one (gs.getD k [])).filter _).length = _
      rw [joins_count h1 _ fun r hr => (h.ok k r hr).1, h.cnt k x]
      by_cases z : Hld one x = true
      · rw [if_pos z, if_pos z]
        show _ = ch (tallyN lot x) k + ch (tallyN lot x) (k + 1)
        omega
      · rw [if_neg z, if_neg z]
        rfl
  · rw [stepG_get] at hr
    rw [el]
    rcases List.mem_append.mp hr with hr | hr
    · obtain ⟨a1, a2, a3, a4⟩ := h.ok s r hr
      exact ⟨a1, by omega, a3, a4⟩
    · cases s with
      | zero => cases hr
      | succ k => exact hb k r hr
  · rw [stepG_get, List.length_append, el, Nat.pow_succ]
    have := h.few s
    cases s with
    | zero => show _ + 0 ≤ _; omega
    | succ k =>
      have := h.few k
      have : (joins one (gs.getD k [])).length ≤ (gs.getD k []).length := List.length_filterMap_le _ _
      show _ + (joins one (gs.getD k [])).length ≤ _
      omega
theorem GOk.all {lot : List (Int × Int)} (hw : ∀ p ∈ lot, WOk p) : ∀ n, n ≤ lot.length → GOk (meetG (lot.take n)) (lot.take n)
  | 0, _ => GOk.start
  | n + 1, h => by
    have hn : n < lot.length := h
    rw [meetG_step (List.getElem?_eq_getElem hn), take_step (List.getElem?_eq_getElem hn)]
    exact (GOk.all hw n (by omega)).step (hw _ (List.getElem_mem hn))
/-- the days that the meetings of s watches have, all together -/
def metZ (lot : List (Int × Int)) (b : Int) (n s : Nat) : Int := sN (fun i => (ch (tallyN lot (b + (i : Int))) s : Int)) n
theorem GOk.met {gs : List (List (Int × Int))} {lot : List (Int × Int)} (h : GOk gs lot) (b : Int) (n s : Nat) :
    ((gs.getD s []).map fun p => (b + (n : Int) - 1 - p.2) / p.1 - (b - 1 - p.2) / p.1).sum = metZ lot b n s := by
  rw [sum_days _ fun r hr => (h.ok s r hr).1]
  refine sN_ext n fun i _ => ?_
  rw [h.cnt]
/-- counted away -/
def justTo (m : Nat → Int) (t N : Nat) : Int := sN (fun s => sg (s + t) * (ch s t : Int) * m s) N
theorem just_ok {lot : List (Int × Int)} {b : Int} {n t : Nat} : justTo (metZ lot b n) t (lot.length + 1) = cntZ lot b n t := by
  unfold justTo metZ cntZ
  have e : (fun s => sg (s + t) * (ch s t : Int) * sN (fun i => (ch (tallyN lot (b + (i : Int))) s : Int)) n) = fun s => sN (fun i => sg (s + t) * (ch s t : Int) * (ch (tallyN lot (b + (i : Int))) s : Int)) n := funext fun s => (sN_mul n).symm
  rw [e, sN_swap]
  refine sN_ext n fun i _ => ?_
  have := away_ok (tallyN lot (b + (i : Int))) t (lot.length + 1) (by have := tallyN_le (lot := lot) (x := b + (i : Int)); omega)
  unfold away at this
  exact this
theorem just_low {m : Nat → Int} {t : Nat} : justTo m t t = 0 := sN_zero t fun s hs => by
  rw [ch_big hs]
  simp
theorem just_next {m : Nat → Int} {t i : Nat} : justTo m t (t + (i + 1)) = justTo m t (t + i) + sg i * (ch (t + i) t : Int) * m (t + i) := by
  show justTo m t (t + i) + sg (t + i + t) * _ * _ = _
  rw [show t + i + t = t + t + i by omega, sg_two]
  rfl
theorem cnt_all {lot : List (Int × Int)} {b : Int} {n : Nat} : sN (fun t => cntZ lot b n t) (lot.length + 1) = (n : Int) := by
  unfold cntZ
  rw [sN_swap]
  have one : ∀ k N : Nat, k < N → sN (fun t => if k = t then (1 : Int) else 0) N = 1 := by
    intro k N
    induction N with
    | zero => intro h; omega
    | succ N ih =>
      intro h
      show sN _ N + (if k = N then (1 : Int) else 0) = 1
      by_cases z : k = N
      · rw [if_pos z, sN_zero N fun i hi => if_neg (by omega)]
        rfl
      · rw [if_neg z, ih (by omega)]
        rfl
  have e : sN (fun i : Nat => sN (fun t => if tallyN lot (b + (i : Int)) = t then (1 : Int) else 0) (lot.length + 1)) n = sN (fun _ => 1) n :=
    sN_ext n fun i _ => one _ _ (by have := tallyN_le (lot := lot) (x := b + (i : Int)); omega)
  rw [e]
  clear e
  induction n with
  | zero => rfl
  | succ n ih =>
    show sN _ n + 1 = _
    rw [ih]
    omega
theorem cnt_split {lot : List (Int × Int)} {b : Int} {m n t : Nat} : cntZ lot b (m + n) t = cntZ lot b m t + cntZ lot (b + (m : Int)) n t := by
  unfold cntZ
  rw [sN_split]
  congr 1
  refine sN_ext n fun i _ => ?_
  rw [show b + ((m + i : Nat) : Int) = b + (m : Int) + (i : Int) by omega]
theorem cnt_bound {lot : List (Int × Int)} {b : Int} {n t : Nat} : 0 ≤ cntZ lot b n t ∧ cntZ lot b n t ≤ (n : Int) := by
  unfold cntZ
  induction n with
  | zero => exact ⟨Int.le_refl _, Int.le_refl _⟩
  | succ n ih =>
    show 0 ≤ sN _ n + (if _ then (1 : Int) else 0) ∧ sN _ n + (if _ then (1 : Int) else 0) ≤ _
    split <;> omega
def cntL (lot : List (Int × Int)) (b : Int) (n : Nat) : List Int := (List.range (lot.length + 1)).map fun t => cntZ lot b n t
theorem sum_range {f : Nat → Int} : ∀ n, ((List.range n).map f).sum = sN f n
  | 0 => rfl
  | n + 1 => by
    rw [List.range_succ, List.map_append, List.sum_append, sum_range n]
    show _ + (f n + 0) = sN f n + f n
    omega
/-! ### math.comb -/
theorem comb_ok : ∀ a < 12, ∀ b < 12, PySem.W.mcComb (a : Nat) (b : Nat) = ((ch a b : Nat) : Int) := by decide +kernel
theorem cr_comb {X : Cx} : CallR X (.builtin "math.comb") (fun vs H Q => ∃ a b : Nat, vs = [.int (a : Int), .int (b : Int)] ∧ a < 12 ∧ b < 12 ∧ Q (.int (ch a b : Int)) H) := by
  intro pins s σ H vs us Q I r h
  obtain ⟨a, b, rfl, ha, hb, q⟩ := h
  obtain ⟨t, u, rfl⟩ := Vals.int2 r
  exact PySem.W.mc_comb_v (by omega) (by omega) (by omega) (.inl (by omega)) (comb_ok a ha b hb) ⟨.int _, H, I.tok _, ⟨_, rfl⟩, q⟩
end DW
namespace DW
open PySem PySem.Spec PyProof.Rows L2
/-! ### the same, each with its number of watches beside it -/
noncomputable def stepP (ts : List (Nat × (Int × Int))) (one : Int × Int) : List (Nat × (Int × Int)) := ts ++ ts.filterMap fun y => (joinO y.2 one).map fun r => (y.1 + 1, r)
noncomputable def partsP (lot : List (Int × Int)) : List (Nat × (Int × Int)) := lot.foldl stepP [(0, (1, 0))]
def sel (ts : List (Nat × (Int × Int))) (s : Nat) : List (Int × Int) := (ts.filter fun y => decide (y.1 = s)).map (·.2)
theorem partsP_step {lot : List (Int × Int)} {i : Nat} {p : Int × Int} (h : lot[i]? = some p) : partsP (lot.take (i + 1)) = stepP (partsP (lot.take i)) p := by
  unfold partsP
  rw [take_step h, List.foldl_append]
  rfl
theorem sel_joined {one : Int × Int} (s : Nat) : ∀ ts : List (Nat × (Int × Int)), sel (ts.filterMap fun y => (joinO y.2 one).map fun r => (y.1 + 1, r)) (s + 1) = joins one (sel ts s)
  | [] => rfl
  | y :: ts => by
    have ih := sel_joined (one := one) s ts
    obtain ⟨m, r⟩ := y
    unfold sel joins at ih ⊢
    cases hj : joinO r one with
    | none =>
      rw [List.filterMap_cons_none (by show (joinO r one).map _ = none; rw [hj]; rfl), ih]
      by_cases z : m = s
      · rw [List.filter_cons_of_pos (by simpa using z), List.map_cons, List.filterMap_cons_none (f := fun r => joinO r one) hj]
      · rw [List.filter_cons_of_neg (by simpa using z)]
    | some t =>
      rw [List.filterMap_cons_some (by show (joinO r one).map _ = some (m + 1, t); rw [hj]; rfl)]
      by_cases z : m = s
      · rw [List.filter_cons_of_pos (by simp [z]), List.map_cons, ih, List.filter_cons_of_pos (by simpa using z), List.map_cons, List.filterMap_cons_some (f := fun r => joinO r one) hj]
      · rw [List.filter_cons_of_neg (by simp; omega), ih, List.filter_cons_of_neg (by simpa using z)]
theorem sel_joined0 {one : Int × Int} : ∀ ts : List (Nat × (Int × Int)), sel (ts.filterMap fun y => (joinO y.2 one).map fun r => (y.1 + 1, r)) 0 = [] := fun ts => by
  unfold sel
  rw [List.map_eq_nil_iff, List.filter_eq_nil_iff]
  intro y hy
  obtain ⟨z, _, e⟩ := List.mem_filterMap.mp hy
  obtain ⟨r, _, rfl⟩ := Option.map_eq_some_iff.mp e
  simp
theorem sel_app {ts us : List (Nat × (Int × Int))} {s : Nat} : sel (ts ++ us) s = sel ts s ++ sel us s := by
  unfold sel
  rw [List.filter_append, List.map_append]
theorem sel_ok {lot : List (Int × Int)} : ∀ n, n ≤ lot.length → ∀ s, sel (partsP (lot.take n)) s = (meetG (lot.take n)).getD s []
  | 0, _, s => by
    cases s with
    | zero => rfl
    | succ s => rfl
  | n + 1, h, s => by
    have hn : n < lot.length := h
    have ih := sel_ok (lot := lot) n (by omega)
    rw [partsP_step (List.getElem?_eq_getElem hn), meetG_step (List.getElem?_eq_getElem hn), stepG_get]
    unfold stepP
    rw [sel_app, ih]
    cases s with
    | zero => rw [sel_joined0]
    | succ s => rw [sel_joined, ih]
theorem stepP_len {ts : List (Nat × (Int × Int))} {one : Int × Int} : (stepP ts one).length ≤ 2 * ts.length := by
  unfold stepP
  rw [List.length_append]
  have := List.length_filterMap_le (fun y : Nat × (Int × Int) => (joinO y.2 one).map fun r => (y.1 + 1, r)) ts
  omega
theorem partsP_len {lot : List (Int × Int)} : ∀ n, n ≤ lot.length → (partsP (lot.take n)).length ≤ 2 ^ n
  | 0, _ => Nat.le_refl _
  | n + 1, h => by
    have hn : n < lot.length := h
    rw [partsP_step (List.getElem?_eq_getElem hn), Nat.pow_succ]
    have := stepP_len (ts := partsP (lot.take n)) (one := lot[n])
    have := partsP_len (lot := lot) n (by omega)
    omega
theorem parts_mem {lot : List (Int × Int)} {n : Nat} (hw : ∀ p ∈ lot, WOk p) (hn : n ≤ lot.length) {y : Nat × (Int × Int)} (h : y ∈ partsP (lot.take n)) :
    y.1 ≤ n ∧ 0 < y.2.1 ∧ y.2.1.natAbs ≤ 2 ^ (40 * n) ∧ 0 ≤ y.2.2 ∧ y.2.2 < y.2.1 := by
  have G := GOk.all hw n hn
  have hm : y.2 ∈ (meetG (lot.take n)).getD y.1 [] := by
    rw [← sel_ok n hn]
    exact List.mem_map.mpr ⟨y, List.mem_filter.mpr ⟨h, by simp⟩, rfl⟩
  have htl : (lot.take n).length = n := by rw [List.length_take]; omega
  obtain ⟨a1, a2, a3, a4⟩ := G.ok y.1 y.2 hm
  rw [htl] at a2
  refine ⟨?_, a1, a2, a3, a4⟩
  have hl := G.len
  rw [htl] at hl
  by_cases z : y.1 < (meetG (lot.take n)).length
  · omega
  · rw [show (meetG (lot.take n)).getD y.1 [] = [] by simp [List.getD, List.getElem?_eq_none (show (meetG (lot.take n)).length ≤ y.1 by omega)]] at hm
    cases hm
/-- the sums of what is told beside so many watches -/
def sumsTo (f : Int × Int → Int) (ts : List (Nat × (Int × Int))) (s : Nat) : Int := ((sel ts s).map f).sum
theorem sumsTo_step {f : Int × Int → Int} {ts : List (Nat × (Int × Int))} {i : Nat} {y : Nat × (Int × Int)} (h : ts[i]? = some y) (s : Nat) : sumsTo f (ts.take (i + 1)) s = sumsTo f (ts.take i) s + if y.1 = s then f y.2 else 0 := by
  unfold sumsTo
  rw [take_step h, sel_app, List.map_append, List.sum_append]
  congr 1
  unfold sel
  by_cases z : y.1 = s
  · rw [if_pos z, List.filter_cons_of_pos (by simpa using z)]
    show f y.2 + 0 = _
    omega
  · rw [if_neg z, List.filter_cons_of_neg (by simpa using z)]
    rfl
end DW
/-! DWZipC: displays over zip of lists and tuples. -/
namespace DW
open PySem PySem.Spec PyProof.Rows L2
section
variable {K : PySem.W.Frag} {g : TG} {σ : L2.St} {H : Hp} {tt : TT} {te : TE} {vs : List Nat} {Q : VK} {a b : Addr} {xs ys : List V} {k1 k2 : Bool} {ta : TA}
theorem c_zipB (hl : xs.length = ys.length) (Pv : Addr → Nat → Hp → Prop) (h0 : ∀ D, H D = none → Pv D 0 (upd H D (.lst []))) (hq : ∀ D i H, Pv D i H → SqB k1 K H a xs ∧ SqB k2 K H b ys)
    (hs : ∀ D i x y T H, xs[i]? = some x → ys[i]? = some y → Pv D i H → H T = none → g (.ref T) (wipe σ vs) (upd H T (.tup [x, y])) fun σ2 H2 => wipe σ2 vs = wipe σ vs ∧ tt σ2 H2 fun b H3 =>
      if b = true then te σ2 H3 fun y H4 => ∃ acc, H4 D = some (.lst acc) ∧ acc.length < sizeLine ∧ Pv D (i + 1) (upd H4 D (.lst (acc ++ [y]))) else Pv D (i + 1) H3)
    (hd : ∀ D H, Pv D xs.length H → Q (.ref D) H) : tLc (fun _ H R => R (ItzB k1 k2 K a b) H) g tt te vs σ H Q := by
  intro D hD
  refine ⟨fun i m H => m = xs.length - i ∧ i ≤ xs.length ∧ Pv D i H, ⟨_, rfl, Nat.zero_le _, h0 D hD⟩, ?_⟩
  rintro i m H ⟨rfl, hi, p⟩
  obtain ⟨qa, qb⟩ := hq D i H p
  by_cases lt : i < xs.length
  · have ex := List.getElem?_eq_getElem lt
    have ey := List.getElem?_eq_getElem (show i < ys.length by omega)
    refine .inr ⟨⟨xs, ys, _, _, qa, qb, ex, ey⟩, Pv D (i + 1), fun _ p' => ⟨xs.length - (i + 1), by omega, rfl, lt, p'⟩, ?_⟩
    rintro v H' ⟨T, x, y, rfl, new, rfl, f1, f2⟩
    exact hs D i x y T H (f1 xs qa) (f2 ys qb) p new
  · have e : i = xs.length := by omega
    subst e
    exact .inl ⟨⟨xs, ys, qa, qb, by omega, by omega, .inl (by omega)⟩, hd D H p⟩
theorem sqb_same {k : Bool} {H H' : Hp} (s : Same H H') (h : SqB k K H a xs) : SqB k K H' a xs := by
  cases k with
  | true => exact sqT_same s (show SqT K H a xs from h)
  | false =>
    have h : SqL K H a xs := h
    rcases h with h | h
    · rcases h with h | ⟨o, h⟩
      · exact .inl (.inl (s _ _ h))
      · exact .inl (.inr ⟨o, s _ _ h⟩)
    · exact .inr h
/-- elements are lists: what is said of the list made so far speaks of all but that list -/
theorem c_zipS (hl : xs.length = ys.length) (R : Nat → Hp → List V → Prop) (hR : ∀ i H H' acc, Same H H' → R i H acc → R i H' acc) (ha : SqB k1 K H a xs) (hb : SqB k2 K H b ys) (hz : xs.length ≤ 1000000) (h0 : R 0 H [])
    (hs : ∀ D i x y T H' acc (Kt : V → Hp → Prop) (Kf : Hp → Prop), xs[i]? = some x → ys[i]? = some y → Same H H' → H' T = some (.tup [x, y]) → H' D = some (.lst acc) → R i (hid D H') acc → acc.length ≤ i →
      (∀ y H4, Same H' H4 → R (i + 1) (hid D H4) (acc ++ [y]) → Kt y H4) → (∀ H3, Same H' H3 → R (i + 1) (hid D H3) acc → Kf H3) →
      g (.ref T) (wipe σ vs) H' fun σ2 H2 => wipe σ2 vs = wipe σ vs ∧ tt σ2 H2 fun b H3 => if b = true then te σ2 H3 Kt else Kf H3)
    (hd : ∀ D H' acc, H D = none → Same H H' → H' D = some (.lst acc) → acc.length ≤ xs.length → R xs.length H' acc → Q (.ref D) H') : tLc (fun _ H R => R (ItzB k1 k2 K a b) H) g tt te vs σ H Q := by
  refine c_zipB hl (fun D i H' => H D = none ∧ Same H H' ∧ ∃ acc, H' D = some (.lst acc) ∧ acc.length ≤ i ∧ R i (hid D H') acc)
    (fun D hD => ⟨hD, same_new hD, [], upd_same, Nat.le_refl _, hR _ _ _ _ (fun c o e => by rw [hid_ne (ne_of_none e hD), upd_ne (ne_of_none e hD)]; exact e) h0⟩) (fun D i H' q => ⟨sqb_same q.2.1 ha, sqb_same q.2.1 hb⟩) ?_ ?_
  · rintro D i x y T H' hx hy ⟨nD, s, acc, e, hl2, r⟩ nT
    have hi : i < xs.length := (List.getElem?_eq_some_iff.mp hx).1
    have sT : Same H' (upd H' T (.tup [x, y])) := same_new nT
    have eT := sT _ _ e
    have hT : hid D (upd H' T (.tup [x, y])) = upd (hid D H') T (.tup [x, y]) ∨ True := .inr trivial
    refine hs D i x y T _ acc _ _ hx hy (s.trans sT) upd_same eT (hR _ _ _ _ (hid_mono sT) r) hl2 (fun y H4 s4 r4 => ?_) (fun H3 s3 r3 => ?_)
    · have s5 := sT.trans s4
      exact ⟨acc, s5 _ _ e, small (by omega), nD, same_mut (s.trans s5) nD, acc ++ [y], upd_same, by rw [List.length_append]; show acc.length + 1 ≤ _; omega, by rw [hid_upd]; exact r4⟩
    · have s5 := sT.trans s3
      exact ⟨nD, s.trans s5, acc, s5 _ _ e, by omega, r3⟩
  · rintro D H' ⟨nD, s, acc, e, hl2, r⟩
    exact hd D H' acc nD s e hl2 (hR _ _ _ _ hid_same r)
/-- of unlike lengths: so many pairs -/
theorem c_zipU {n : Nat} (h1 : n ≤ xs.length) (h2 : n ≤ ys.length) (h3 : xs.length ≤ n ∨ ys.length ≤ n) (R : Nat → Hp → List V → Prop) (hR : ∀ i H H' acc, Same H H' → R i H acc → R i H' acc) (ha : SqB k1 K H a xs) (hb : SqB k2 K H b ys) (hz : n ≤ 1000000) (h0 : R 0 H [])
    (hs : ∀ D i x y T H' acc (Kt : V → Hp → Prop) (Kf : Hp → Prop), i < n → xs[i]? = some x → ys[i]? = some y → Same H H' → H' T = some (.tup [x, y]) → H' D = some (.lst acc) → R i (hid D H') acc → acc.length ≤ i →
      (∀ y H4, Same H' H4 → R (i + 1) (hid D H4) (acc ++ [y]) → Kt y H4) → (∀ H3, Same H' H3 → R (i + 1) (hid D H3) acc → Kf H3) →
      g (.ref T) (wipe σ vs) H' fun σ2 H2 => wipe σ2 vs = wipe σ vs ∧ tt σ2 H2 fun b H3 => if b = true then te σ2 H3 Kt else Kf H3)
    (hd : ∀ D H' acc, H D = none → Same H H' → H' D = some (.lst acc) → acc.length ≤ n → R n H' acc → Q (.ref D) H') : tLc (fun _ H R => R (ItzB k1 k2 K a b) H) g tt te vs σ H Q := by
  intro D hD
  refine ⟨fun i m H' => m = n - i ∧ i ≤ n ∧ H D = none ∧ Same H H' ∧ ∃ acc, H' D = some (.lst acc) ∧ acc.length ≤ i ∧ R i (hid D H') acc,
    ⟨_, rfl, Nat.zero_le _, hD, same_new hD, [], upd_same, Nat.le_refl _, hR _ _ _ _ (fun c o e => by rw [hid_ne (ne_of_none e hD), upd_ne (ne_of_none e hD)]; exact e) h0⟩, ?_⟩
  rintro i m H' ⟨rfl, hi, nD, s, acc, e, hl2, r⟩
  have qa : SqB k1 K H' a xs := sqb_same s ha
  have qb : SqB k2 K H' b ys := sqb_same s hb
  by_cases lt : i < n
  · have ex := List.getElem?_eq_getElem (show i < xs.length by omega)
    have ey := List.getElem?_eq_getElem (show i < ys.length by omega)
    refine .inr ⟨⟨xs, ys, _, _, qa, qb, ex, ey⟩, fun H' => H D = none ∧ Same H H' ∧ ∃ acc, H' D = some (.lst acc) ∧ acc.length ≤ i + 1 ∧ R (i + 1) (hid D H') acc, fun _ p' => ⟨n - (i + 1), by omega, rfl, lt, p'⟩, ?_⟩
    rintro v H2 ⟨T, x, y, rfl, nT, rfl, f1, f2⟩
    have sT : Same H' (upd H' T (.tup [x, y])) := same_new nT
    have eT := sT _ _ e
    refine hs D i x y T _ acc _ _ lt (f1 xs qa) (f2 ys qb) (s.trans sT) upd_same eT (hR _ _ _ _ (hid_mono sT) r) hl2 (fun y H4 s4 r4 => ?_) (fun H3 s3 r3 => ?_)
    · have s5 := sT.trans s4
      exact ⟨acc, s5 _ _ e, small (by omega), nD, same_mut (s.trans s5) nD, acc ++ [y], upd_same, by rw [List.length_append]; show acc.length + 1 ≤ _; omega, by rw [hid_upd]; exact r4⟩
    · have s5 := sT.trans s3
      exact ⟨nD, s.trans s5, acc, s5 _ _ e, by omega, r3⟩
  · have ei : i = n := by omega
    subst ei
    exact .inl ⟨⟨xs, ys, qa, qb, h1, h2, h3⟩, hd D H' acc nD s e hl2 (hR _ _ _ _ hid_same r)⟩
theorem g_lcZ (h : ta σ H fun us H1 => ∃ k1 k2 a b xs ys, us = [.ref a, .ref b] ∧ SqB k1 K H1 a xs ∧ SqB k2 K H1 b ys ∧ tLc (fun _ H R => R (ItzB k1 k2 K a b) H) g tt te vs σ H1 Q) : tLc (iZipB K ta) g tt te vs σ H Q := h
end
/-- sum of a tuple of whole numbers -/
def rSumT (K : PySem.W.Frag) : List V → Hp → VK → Prop := fun vs H Q => ∃ (a : Addr) (ns : List Int), vs = [V.ref a] ∧ SqT K H a (ns.map V.int) ∧ Q (.int ns.sum) H
theorem preSum_of (ns : List Int) : ∀ n, n ≤ ns.length → preSum (fun i => ns.getD i 0) n = (ns.take n).sum
  | 0, _ => rfl
  | n + 1, h => by
    have hn : n < ns.length := h
    rw [take_step (List.getElem?_eq_getElem hn), List.sum_append, ← preSum_of ns n (by omega)]
    show preSum _ n + ns.getD n 0 = preSum _ n + (ns[n] + 0)
    rw [show ns.getD n 0 = ns[n] by simp [List.getD, List.getElem?_eq_getElem hn], Int.add_zero]
theorem cr_sumT {X : Cx} (calm : X.calm = true) : CallR X (.builtin "sum") (rSumT X.K) := by
  rintro pins s σ H vs us Q inv r ⟨a, ns, rfl, ea, q⟩
  obtain ⟨items, rel, tup, _⟩ := inv.tuple ea
  have tup : s.heap.IsTuple a items.toArray := tup
  obtain ⟨u, rfl, ru⟩ := vals1 r
  cases ru
  have len : ns.length = items.length := by simpa using rel.length
  have value : ∀ (i : Nat) v, items.toArray[i]? = some v → ∃ t, v = Value.int (ns.getD i 0) t := by
    intro i v e
    rw [List.getElem?_toArray] at e
    have hi : i < ns.length := by
      have := (List.getElem?_eq_some_iff.mp e).1
      omega
    obtain ⟨u, e2, t, rfl⟩ := rel.get (i := i) (x := V.int ns[i]) (by simp [hi])
    rw [e] at e2
    exact ⟨t, (Option.some.inj e2).trans (by simp [hi])⟩
  have lt : a < s.heap.objs.size := (let ⟨_, e, _⟩ := id tup; Heap.lt_size e)
  have room : (s.heap.push { cls := .type "tuple_iterator", data := .fields #[.ref a, .int 0 0] }).objs.size = s.heap.objs.size + 1 := Heap.size_push ..
  refine call_sum_walkG (wpAny_pyIter_tuple tup ⟨s.heap.objs.size, [s.heap.objs.size, a], [s.heap.objs.size], items.toArray.size, _, _, fun i => ns.getD i 0, rfl, Walks.tuple (A := X.A.in1) (inv.ok.hd calm) s.heap.objs.size a (Nat.ne_of_lt lt) items.toArray, ?st, fun b hb => ?lt, value, fun h' tk t' kp => ?fin⟩)
  case st => exact ⟨⟨_, Heap.get?_push_size _ rfl, rfl, rfl⟩, tup.at fun o e => Heap.get?_push_of_some _ e⟩
  case lt =>
    show b < (s.heap.push { cls := .type "tuple_iterator", data := .fields #[.ref a, .int 0 0] }).objs.size
    rw [room]
    simp only [List.mem_cons, List.not_mem_nil, or_false] at hb
    rcases hb with rfl | rfl
    · exact Nat.lt_succ_self _
    · exact Nat.lt_succ_of_lt lt
  case fin =>
    have e : preSum (fun i => ns.getD i 0) items.toArray.size = ns.sum := by
      rw [preSum_of ns _ (by simp [len]), List.take_of_length_le (by simp [len])]
    rw [e]
    refine ⟨.int ns.sum, H, inv.kept (t' := tk) fun b o z => kp b o (fun m => ?_) (Heap.get?_push_of_some _ z), ⟨t', rfl⟩, q⟩
    have := Heap.lt_size z
    rw [List.mem_singleton.mp m] at this
    exact Nat.lt_irrefl _ this
end DW
/-! DWZipT: tuple(zip(a, b)) of two tuples or lists of one length. -/
namespace DW
open PySem PySem.Spec PyProof.Rows L2
section
variable {P : Program} {w : World} {B : Around} {E : Value → Shared → Prop} {s : Shared} {z t o p q T : Addr} {f : Bool} {ob : Obj} {f1 f2 : List Addr} {n1 n2 i : Nat} {P1 P2 : Nat → Value → Prop} {C1 C2 : Nat → Heap → Prop}
/-- the body of next, the last pair held -/
theorem held_body {Q : Value → Shared → Prop} (sep : ZipSep2 z t o p q f1 f2) (d1 : Draws P w B p f1 n1 P1 C1) (d2 : Draws P w B q f2 n2 P2 C2)
    (zh : IsZipHeld s.heap z t o T f) (th : s.heap.get? T = some ob) (ih : IsTupOf2 s.heap t (.ref p) (.ref q)) (c1 : C1 i s.heap) (c2 : C2 i s.heap) (l1 : i < n1) (l2 : i < n2)
    (fin : ∀ x y g tk, P1 i x → P2 i y → IsZipHeld g z t o T true → C1 (i + 1) g → C2 (i + 1) g → IsTupOf2 g s.heap.objs.size x y → g.objs.size = s.heap.objs.size + 1 →
      (∀ c u, c ≠ z → c ≠ p → c ≠ q → s.heap.get? c = some u → g.get? c = some u) → Q (.ref s.heap.objs.size) { s with heap := g, toks := tk }) :
    wpAny (model P w) B (Builtin.«zip.__next__» ⟨[.ref z], []⟩) (fun e s' => ∃ v, e = .done (.ret v) ∧ Q v s') E s := by
  obtain ⟨hp, gs, ds, tk0, os⟩ := s
  show wpAny _ _ (field (.ref z) 2 >>= fun _ => _) _ _ _
  refine wpAny_bind (wpAny_field zh rfl (x := .bool false) rfl ?_)
  show wpAny _ _ (field (.ref z) 3 >>= fun _ => _) _ _ _
  refine wpAny_bind (wpAny_field zh rfl (x := .ref t) rfl ?_)
  refine wpAny_bind (wpAny_seqItems ih rfl ?_)
  show wpAny _ _ (Builtin.SmallTypes.ownedTupleIsFree (.ref z) >>= fun _ => _) _ _ _
  refine wpAny_bind (wpAny_tupleHeld_zip zh th fun g1 zg sg => ?_)
  simp only [if_false, Bool.false_eq_true]
  refine wpAny_bind ?_
  rw [← Array.forIn_toList]
  simp only [List.forIn_nil, List.forIn_cons]
  refine wpAny_bind ((wpAny_bind (wpAny_holding ?_)))
  show wpAny _ _ (Builtin.SmallTypes.nextOf (.ref p) >>= fun _ => _) _ _ ⟨g1, gs, ds, tk0, os⟩
  refine wpAny_bind (d1.item i _ _ _ l1 (d1.over c1 sg sep.zf1) fun x g2 tk2 px cx sx => wpAny_pure ?_)
  refine wpAny_pure ?_
  refine wpAny_bind ((wpAny_bind (wpAny_holding ?_)))
  show wpAny _ _ (Builtin.SmallTypes.nextOf (.ref q) >>= fun _ => _) _ _ ⟨g2, gs, ds, tk2, os⟩
  have sx : Heap.SameBut p g1 g2 := sx
  refine wpAny_bind (d2.item i _ _ _ l2 (d2.over (d2.over c2 sg sep.zf2) sx sep.sep1_2) fun y g3 tk3 py cy sy => wpAny_pure ?_)
  have sy : Heap.SameBut q g2 g3 := sy
  refine wpAny_pure (wpAny_pure ?_)
  show wpAny _ _ (newTuple [x, y] >>= fun _ => _) _ _ _
  refine wpAny_bind ((wpAny_newTuple ?_))
  have size : g3.objs.size = hp.objs.size := by rw [sy.1, sx.1, sg.1]
  have zg3 : IsZipHeld g3 z t o T true := sy.extBut _ _ sep.zi2 (sx.extBut _ _ sep.zi1 zg)
  have keep : ∀ c u, c ≠ z → c ≠ p → c ≠ q → hp.get? c = some u → g3.get? c = some u := fun c u a1 a2 a3 e => sy.extBut _ _ a3 (sx.extBut _ _ a2 (sg.extBut _ _ a1 e))
  have cx3 : C1 (i + 1) g3 := d1.over cx sy sep.sep2_1
  refine wpAny_pure ⟨_, rfl, ?_⟩
  show Q (.ref g3.objs.size) ⟨g3.push { cls := .type "tuple", data := .seq #[x, y] }, gs, ds, tk3, os⟩
  have new : IsTupOf2 (g3.push { cls := .type "tuple", data := .seq #[x, y] }) g3.objs.size x y := Heap.get?_push_size _ rfl
  have more : (g3.push { cls := .type "tuple", data := .seq #[x, y] }).objs.size = g3.objs.size + 1 := Heap.size_push ..
  rw [size] at new more ⊢
  exact fin x y _ tk3 px py (Heap.get?_push_of_some _ zg3) (d1.frame _ _ _ cx3 fun _ _ _ e => Heap.get?_push_of_some _ e) (d2.frame _ _ _ cy fun _ _ _ e => Heap.get?_push_of_some _ e) new more fun c u a1 a2 a3 e => Heap.get?_push_of_some _ (keep c u a1 a2 a3 e)
/-- .. and no pair is left -/
theorem held_over {Q : Fin → Shared → Prop} (sep : ZipSep2 z t o p q f1 f2) (d1 : Draws P w B p f1 n1 P1 C1)
    (zh : IsZipHeld s.heap z t o T f) (th : s.heap.get? T = some ob) (ih : IsTupOf2 s.heap t (.ref p) (.ref q)) (c1 : C1 n1 s.heap)
    (fin : ∀ g e, (∀ c u, c ≠ z → c ≠ p → s.heap.get? c = some u → g.get? c = some u) → (∃ u, g.get? e = some u ∧ u.cls = .type "StopIteration") → E (.ref e) { s with heap := g }) :
    wpAny (model P w) B (Builtin.«zip.__next__» ⟨[.ref z], []⟩) Q E s := by
  obtain ⟨hp, gs, ds, tk0, os⟩ := s
  show wpAny _ _ (field (.ref z) 2 >>= fun _ => _) _ _ _
  refine wpAny_bind (wpAny_field zh rfl (x := .bool false) rfl ?_)
  show wpAny _ _ (field (.ref z) 3 >>= fun _ => _) _ _ _
  refine wpAny_bind (wpAny_field zh rfl (x := .ref t) rfl ?_)
  refine wpAny_bind (wpAny_seqItems ih rfl ?_)
  show wpAny _ _ (Builtin.SmallTypes.ownedTupleIsFree (.ref z) >>= fun _ => _) _ _ _
  refine wpAny_bind (wpAny_tupleHeld_zip zh th fun g1 zg sg => ?_)
  simp only [if_false, Bool.false_eq_true]
  refine wpAny_bind ?_
  rw [← Array.forIn_toList]
  simp only [List.forIn_nil, List.forIn_cons]
  refine wpAny_bind ((wpAny_bind (wpAny_holding ?_)))
  show wpAny _ _ (Builtin.SmallTypes.nextOf (.ref p) >>= fun _ => _) _ _ ⟨g1, gs, ds, tk0, os⟩
  refine wpAny_bind (d1.done _ _ _ (d1.over c1 sg sep.zf1) fun g2 e sx he => ?_)
  exact fin g2 e (fun c u a1 a2 x => sx _ _ a2 (sg.extBut _ _ a1 x)) he
theorem held_next {Q : Option Value → Shared → Prop} (sep : ZipSep2 z t o p q f1 f2) (d1 : Draws P w B.in1 p f1 n1 P1 C1) (d2 : Draws P w B.in1 q f2 n2 P2 C2)
    (zh : IsZipHeld s.heap z t o T f) (th : s.heap.get? T = some ob) (ih : IsTupOf2 s.heap t (.ref p) (.ref q)) (c1 : C1 i s.heap) (c2 : C2 i s.heap) (l1 : i < n1) (l2 : i < n2)
    (fin : ∀ x y g tk, P1 i x → P2 i y → IsZipHeld g z t o T true → C1 (i + 1) g → C2 (i + 1) g → IsTupOf2 g s.heap.objs.size x y → g.objs.size = s.heap.objs.size + 1 →
      (∀ c u, c ≠ z → c ≠ p → c ≠ q → s.heap.get? c = some u → g.get? c = some u) → Q (some (.ref s.heap.objs.size)) { s with heap := g, toks := tk }) : wpAny (model P w) B (pyNext (.ref z)) Q E s := by
  have ty : s.TypeIs (.ref z) "zip" := ⟨_, zh, rfl⟩
  unfold pyNext
  refine wpAny_bind (wpAny_attempt (wpAny_callSpecial?_slot (name := Str.ofString "__next__") ty F.slot_zip_next (wpAny_call_entry F.slot_zip_next ty F.entry_zip_next ?_ (F.args_zip_next_1 _))))
  exact held_body sep d1 d2 zh th ih c1 c2 l1 l2 fun x y g tk e1 e2 e3 e4 e5 e6 e7 e8 => wpAny_pure (fin x y g tk e1 e2 e3 e4 e5 e6 e7 e8)
theorem held_end {Q : Option Value → Shared → Prop} (sep : ZipSep2 z t o p q f1 f2) (d1 : Draws P w B.in1 p f1 n1 P1 C1)
    (zh : IsZipHeld s.heap z t o T f) (th : s.heap.get? T = some ob) (ih : IsTupOf2 s.heap t (.ref p) (.ref q)) (c1 : C1 n1 s.heap)
    (fin : ∀ g, (∀ c u, c ≠ z → c ≠ p → s.heap.get? c = some u → g.get? c = some u) → Q none { s with heap := g }) : wpAny (model P w) B (pyNext (.ref z)) Q E s := by
  have ty : s.TypeIs (.ref z) "zip" := ⟨_, zh, rfl⟩
  unfold pyNext
  refine wpAny_bind (wpAny_attempt (wpAny_callSpecial?_slot (name := Str.ofString "__next__") ty F.slot_zip_next (wpAny_call_entry F.slot_zip_next ty F.entry_zip_next ?_ (F.args_zip_next_1 _))))
  refine held_over sep d1 zh th ih c1 fun g e ke he => ?_
  obtain ⟨u, hu, cu⟩ := he
  refine wpAny_bind (wpAny_isInstance (T := "StopIteration") (b := true) ⟨u, hu, cu⟩ isSubtype_stop ?_)
  exact wpAny_pure (fin _ ke)
/-- where a zip stands that has given so many pairs, all of them held -/
structure Gathered (z t o p q S : Addr) (C1 C2 : Nat → Heap → Prop) (i : Nat) (h : Heap) : Prop where
  zip : (i = 0 ∧ IsZip h z t o .none ∧ ∃ u v, IsTupOf2 h o u v) ∨ ∃ T f ob, IsZipHeld h z t o T f ∧ h.get? T = some ob ∧ T ∉ [z, t, o, p, q, S]
  its : IsTupOf2 h t (.ref p) (.ref q)
  one : C1 i h
  two : C2 i h
/-- the list that gathers them -/
abbrev ListAt (h : Heap) (S : Addr) (acc : Array Value) (c : Nat) : Prop := h.get? S = some { cls := .type "list", dict := none, data := .seq acc c, slots := #[] }
theorem gather_loop {A : Around} {R : Result → Shared → Prop} {S : Addr} {n : Nat} {res : Value} (hh : A.in1.in1.handled = none) (hn : n ≤ sizeLine) (sep : ZipSep2 z t o p q f1 f2)
    (d1 : Draws P w A.in1.in1 p f1 n P1 C1) (d2 : Draws P w A.in1.in1 q f2 n P2 C2) (sn : S ∉ [z, t, o, p, q]) (s1 : S ∉ f1) (s2 : S ∉ f2) (J : Nat → Shared → Array Value → Prop)
    (step : ∀ (i : Nat) (s : Shared) (acc : Array Value) x y g tk, J i s acc → P1 i x → P2 i y → IsTupOf2 g s.heap.objs.size x y → (∀ c u, c ∉ [z, t, o, p, q, S] → s.heap.get? c = some u → g.get? c = some u) → J (i + 1) { s with heap := g, toks := tk } (acc.push (.ref s.heap.objs.size)))
    (fin : ∀ (s s' : Shared) acc c, J n s acc → (∀ c u, c ∉ [z, t, o, p, q, S] → s.heap.get? c = some u → s'.heap.get? c = some u) → (∃ g tk, s' = { s with heap := g, toks := tk }) → ListAt s'.heap S acc c → acc.size = n → R (.ok (.ret res)) s') :
    ∀ (k i : Nat) (s : Shared) (acc : Array Value) (c : Nat), n - i = k → i ≤ n → Gathered z t o p q S C1 C2 i s.heap → ListAt s.heap S acc c → acc.size = i → J i s acc →
      codeAny (model P w) A (.builtin "list.extend.loop" ⟨[.ref S, .ref z, res], []⟩) R s := by
  have apart : ∀ c, c ∈ [z, t, o, p, q] → S ≠ c := fun c m e => sn (e ▸ m)
  have out : ∀ c, c ∉ [z, t, o, p, q, S] → c ≠ z ∧ c ≠ t ∧ c ≠ o ∧ c ≠ p ∧ c ≠ q ∧ c ≠ S := fun c m => by
    simp only [List.mem_cons, List.not_mem_nil, or_false, not_or] at m
    exact m
  intro k
  induction k with
  | zero =>
    intro i s acc c hk hi G ls sz j
    obtain rfl : i = n := by omega
    apply codeAny_builtin F.entry_extend_loop
    rw [Around.under_plainId F.plain_extend_loop]
    show wpAny _ A.in1 (pyNext (.ref z) >>= fun _ => _) _ _ s
    rcases G.zip with ⟨_, zi, u, v, ou⟩ | ⟨T, f, ob, zh, th, nT⟩
    · refine wpAny_bind (wpAny_pyNext_zipD2_end sep d1 d2 zi G.its ou G.one G.two (Nat.le_refl _) (Nat.le_refl _) (.inl rfl) fun g tk ke => ?_)
      refine wpAny_pure (fin s _ acc c j (fun b u m e => ?_) ⟨g, tk, rfl⟩ (ke S _ (apart z (by simp)) (apart o (by simp)) (apart p (by simp)) (apart q (by simp)) ls) sz)
      obtain ⟨m1, m2, m3, m4, m5, m6⟩ := out b m
      exact ke b u m1 m3 m4 m5 e
    · refine wpAny_bind (held_end sep d1 zh th G.its G.one fun g ke => ?_)
      refine wpAny_pure (fin s _ acc c j (fun b u m e => ?_) ⟨g, s.toks, rfl⟩ (ke S _ (apart z (by simp)) (apart p (by simp)) ls) sz)
      obtain ⟨m1, m2, m3, m4, m5, m6⟩ := out b m
      exact ke b u m1 m4 e
  | succ k ih =>
    intro i s acc c hk hi G ls sz j
    have lt : i < n := by omega
    apply codeAny_builtin F.entry_extend_loop
    rw [Around.under_plainId F.plain_extend_loop]
    show wpAny _ A.in1 (pyNext (.ref z) >>= fun _ => _) _ _ s
    have inS := Heap.lt_size ls
    have on : ∀ x y g tk (T : Addr) (f : Bool) (ob : Obj), P1 i x → P2 i y → IsZipHeld g z t o T f → g.get? T = some ob → T ∉ [z, t, o, p, q, S] → C1 (i + 1) g → C2 (i + 1) g → IsTupOf2 g t (.ref p) (.ref q) → IsTupOf2 g s.heap.objs.size x y → ListAt g S acc c →
        (∀ b u, b ∉ [z, t, o, p, q, S] → s.heap.get? b = some u → g.get? b = some u) →
        codeAny (model P w) A (.builtin "list.extend.loop" ⟨[.ref S, .ref z, res], []⟩) R { s with heap := g.update S (Obj.mapSeq (·.push (.ref s.heap.objs.size))), toks := tk } := by
      intro x y g tk T f ob px py zh th nT cx cy it nw lg ke
      have oth : ∀ b u, b ≠ S → g.get? b = some u → (g.update S (Obj.mapSeq (·.push (.ref s.heap.objs.size)))).get? b = some u := fun b u m e => (Heap.get?_update_other _ _ (Ne.symm m)).trans e
      refine ih (i + 1) { s with heap := g.update S (Obj.mapSeq (·.push (.ref s.heap.objs.size))), toks := tk } (acc.push (.ref s.heap.objs.size)) _ (by omega) lt ⟨.inr ⟨T, f, ob, oth _ _ (apart z (by simp)).symm zh, oth _ _ (out T nT).2.2.2.2.2 th, nT⟩, oth _ _ (apart t (by simp)).symm it, ?_, ?_⟩ (Heap.get?_update_self _ lg rfl) (by rw [Array.size_push, sz]) ?_
      · exact d1.frame _ _ _ cx fun b m u e => oth b u (fun z => s1 (z ▸ m)) e
      · exact d2.frame _ _ _ cy fun b m u e => oth b u (fun z => s2 (z ▸ m)) e
      · refine step i s acc x y _ tk j px py (oth _ _ (Nat.ne_of_gt inS) nw) fun b u m e => ?_
        exact oth b u (out b m).2.2.2.2.2 (ke b u m e)
    have room1 : acc.size < sizeLine + 1 := by omega
    rcases G.zip with ⟨_, zi, u, v, ou⟩ | ⟨T, f, ob, zh, th, nT⟩
    · refine wpAny_bind (wpAny_pyNext_zipD2_item sep d1 d2 zi G.its ou G.one G.two lt lt fun x y g tk px py zg og cx cy nw gs ke => ?_)
      have ke2 : ∀ b u, b ∉ [z, t, o, p, q, S] → s.heap.get? b = some u → g.get? b = some u := fun b u m e => by
        obtain ⟨m1, m2, m3, m4, m5, m6⟩ := out b m
        exact ke b u m1 m3 m4 m5 e
      have lg := ke S _ (apart z (by simp)) (apart o (by simp)) (apart p (by simp)) (apart q (by simp)) ls
      have tg := ke t _ sep.TIz sep.TITO sep.TIi1 sep.TIi2 G.its
      show wpAny _ A.in1 (updateSeq S (·.push (.ref s.heap.objs.size)) >>= fun _ => _) _ _ { s with heap := g, toks := tk }
      have nN : s.heap.objs.size ∉ [z, t, o, p, q, S] := fun m => by
        have l1 := Heap.lt_size zi
        have l2 := Heap.lt_size G.its
        have l3 := Heap.lt_size ou
        obtain ⟨_, e4⟩ := d1.live _ _ G.one
        obtain ⟨_, e5⟩ := d2.live _ _ G.two
        have l4 := Heap.lt_size e4
        have l5 := Heap.lt_size e5
        simp only [List.mem_cons, List.not_mem_nil, or_false] at m
        rcases m with m | m | m | m | m | m
        · exact Nat.ne_of_gt l1 m
        · exact Nat.ne_of_gt l2 m
        · exact Nat.ne_of_gt l3 m
        · exact Nat.ne_of_gt l4 m
        · exact Nat.ne_of_gt l5 m
        · exact Nat.ne_of_gt inS m
      refine wpAny_bind (wpAny_updateSeq lg rfl (wpAny_pure ⟨plainId_quiet F.plain_extend_loop _, on x y g tk s.heap.objs.size false _ px py zg nw nN cx cy tg nw lg ke2⟩) (by rw [sz]; omega) ?_)
      show (acc.push (.ref s.heap.objs.size)).size ≤ sizeLine + 1
      rw [Array.size_push]
      exact room1
    · refine wpAny_bind (held_next sep d1 d2 zh th G.its G.one G.two lt lt fun x y g tk px py zg cx cy nw gs ke => ?_)
      have ke2 : ∀ b u, b ∉ [z, t, o, p, q, S] → s.heap.get? b = some u → g.get? b = some u := fun b u m e => by
        obtain ⟨m1, m2, m3, m4, m5, m6⟩ := out b m
        exact ke b u m1 m4 m5 e
      have lg := ke S _ (apart z (by simp)) (apart p (by simp)) (apart q (by simp)) ls
      have tg := ke t _ sep.TIz sep.TIi1 sep.TIi2 G.its
      show wpAny _ A.in1 (updateSeq S (·.push (.ref s.heap.objs.size)) >>= fun _ => _) _ _ { s with heap := g, toks := tk }
      refine wpAny_bind (wpAny_updateSeq lg rfl (wpAny_pure ⟨plainId_quiet F.plain_extend_loop _, on x y g tk T true ob px py zg (ke2 T ob nT th) nT cx cy tg nw lg ke2⟩) (by rw [sz]; omega) ?_)
      show (acc.push (.ref s.heap.objs.size)).size ≤ sizeLine + 1
      rw [Array.size_push]
      exact room1
theorem zip_no_len : typeLookup (.type "zip") "__len__" = pure none := am_miss_of_fast (by decide +kernel)
theorem zip_no_hint : typeLookup (.type "zip") "__length_hint__" = pure none := am_miss_of_fast (by decide +kernel)
/-- all its pairs, gathered in a list -/
theorem gather_all {A : Around} {Q : List Value → Shared → Prop} {n : Nat} (hh : A.in1.in1.handled = none) (hn : n ≤ sizeLine) (sep : ZipSep2 z t o p q f1 f2)
    (d1 : Draws P w A.in1.in1 p f1 n P1 C1) (d2 : Draws P w A.in1.in1 q f2 n P2 C2) (zi : IsZip s.heap z t o .none) (ou : ∃ u v, IsTupOf2 s.heap o u v) (it : IsTupOf2 s.heap t (.ref p) (.ref q)) (c1 : C1 0 s.heap) (c2 : C2 0 s.heap)
    (l1 : ∀ b ∈ f1, b < s.heap.objs.size) (l2 : ∀ b ∈ f2, b < s.heap.objs.size) (J : Nat → Shared → Array Value → Prop)
    (start : ∀ h', (∀ c u, s.heap.get? c = some u → h'.get? c = some u) → s.heap.objs.size < h'.objs.size → J 0 { s with heap := h' } #[])
    (step : ∀ (i : Nat) (s1 : Shared) (acc : Array Value) x y g tk, J i s1 acc → P1 i x → P2 i y → IsTupOf2 g s1.heap.objs.size x y → (∀ c u, c ∉ [z, t, o, p, q, s.heap.objs.size] → s1.heap.get? c = some u → g.get? c = some u) → J (i + 1) { s1 with heap := g, toks := tk } (acc.push (.ref s1.heap.objs.size)))
    (fin : ∀ (s1 : Shared) acc g tk, J n s1 acc → (∀ c u, c ∉ [z, t, o, p, q, s.heap.objs.size] → s1.heap.get? c = some u → g.get? c = some u) → acc.size = n → Q acc.toList { s1 with heap := g, toks := tk }) :
    wpAny (model P w) A (collect (.ref z)) Q E s := by
  have ty : ∀ h', (∀ c u, s.heap.get? c = some u → h'.get? c = some u) → ∀ tk, Shared.TypeIs { s with heap := h', toks := tk } (.ref z) "zip" := fun h' k tk => ⟨_, k _ _ zi, rfl⟩
  have zlt := Heap.lt_size zi
  obtain ⟨ou1, ou2, ou⟩ := ou
  unfold collect
  refine wpAny_bind ((wpAny_runValue (codeAny_builtin F.entry_proto_collect ?_)))
  rw [Around.under_plainId F.plain_proto_collect]
  show wpAny _ A.in1 (newList [] >>= fun l => again (.builtin "list.__iadd__" ⟨[l, .ref z], []⟩)) _ _ s
  refine wpAny_bind ((wpAny_newObj_type ?_))
  refine wpAny_pure (And.intro (plainId_quiet F.plain_list_iadd _) (codeAny_builtin F.entry_list_iadd ?_))
  rw [Around.under_plainId F.plain_list_iadd]
  have k1 : ∀ c u, s.heap.get? c = some u → (s.heap.push { cls := .type "list", data := .seq ([] : List Value).toArray }).get? c = some u := fun c u e => Heap.get?_push_of_some _ e
  have nz : s.heap.objs.size ≠ z := Nat.ne_of_gt zlt
  show wpAny _ A.in1 (Builtin.List.listExtendWith (.ref s.heap.objs.size) (.ref z) (.ref s.heap.objs.size)) _ _ _
  unfold Builtin.List.listExtendWith
  refine wpAny_bind (wpAny_typeOf (ty _ k1 _) ?_)
  have a1 : Builtin.List.listSameRef (.ref s.heap.objs.size) (.ref z) = false := by simp [Builtin.List.listSameRef, nz]
  have a2 : (Value.type "zip" == Value.type "list") = false := by decide
  have a3 : (Value.type "zip" == Value.type "tuple") = false := by decide
  simp only [a1, a2, a3, Bool.or_false, Bool.false_eq_true, if_false]
  refine wpAny_bind (wpAny_pyIter_zip (k1 _ _ zi) ?_)
  refine wpAny_bind ((wpAny_holding ?_))
  unfold Builtin.List.listLengthHint
  refine wpAny_bind (wpAny_specialOf (ty _ k1 _) zip_no_len ?_)
  show wpAny _ A.in1 (specialOf (Value.ref z) (Str.ofString "__length_hint__") >>= fun _ => _) _ _ _
  refine wpAny_bind (wpAny_specialOf (ty _ k1 _) zip_no_hint ?_)
  refine wpAny_pure ?_
  show wpAny _ A.in1 (rule "list.extend.makes-room" >>= fun _ => Builtin.List.listTouch (.ref s.heap.objs.size) >>= fun _ => again (.builtin "list.extend.loop" ⟨[.ref s.heap.objs.size, .ref z, .ref s.heap.objs.size], []⟩)) _ _ _
  refine wpAny_bind ((wpAny_rule ?_))
  have b1 : (s.heap.push { cls := .type "list", data := .seq ([] : List Value).toArray }).get? s.heap.objs.size = some { cls := .type "list", data := .seq ([] : List Value).toArray } := Heap.get?_push_size _ rfl
  refine wpAny_bind ?_
  show wpAny _ A.in1 (updateSeq s.heap.objs.size (·.push .none) >>= fun _ => updateSeq s.heap.objs.size (·.pop)) _ _ _
  refine wpAny_bind ((wpAny_updateSeq b1 rfl ?_))
  have b2 := Heap.get?_update_self (Obj.mapSeq fun x => x.push Value.none) b1 rfl
  refine wpAny_updateSeq b2 rfl ?_
  have b3 := Heap.get?_update_self (Obj.mapSeq fun x => x.pop) b2 rfl
  generalize hg : (((s.heap.push { cls := .type "list", data := .seq ([] : List Value).toArray }).update s.heap.objs.size (Obj.mapSeq fun x => x.push Value.none)).update s.heap.objs.size (Obj.mapSeq fun x => x.pop)) = g0 at b3
  have keep : ∀ c u, s.heap.get? c = some u → g0.get? c = some u := fun c u e => by
    have n1 : s.heap.objs.size ≠ c := fun z => Nat.lt_irrefl _ (z ▸ Heap.lt_size e : s.heap.objs.size < s.heap.objs.size)
    rw [← hg]
    exact (Heap.get?_update_other _ _ n1).trans ((Heap.get?_update_other _ _ n1).trans (k1 c u e))
  have sn : s.heap.objs.size ∉ [z, t, o, p, q] := fun m => by
    obtain ⟨_, e4⟩ := d1.live _ _ c1
    obtain ⟨_, e5⟩ := d2.live _ _ c2
    simp only [List.mem_cons, List.not_mem_nil, or_false] at m
    rcases m with m | m | m | m | m
    · exact nz m
    · exact Nat.ne_of_gt (Heap.lt_size it) m
    · exact Nat.ne_of_gt (Heap.lt_size ou) m
    · exact Nat.ne_of_gt (Heap.lt_size e4) m
    · exact Nat.ne_of_gt (Heap.lt_size e5) m
  refine wpAny_pure (And.intro (plainId_quiet F.plain_extend_loop _) ?_)
  refine gather_loop (S := s.heap.objs.size) (n := n) hh hn sep d1 d2 sn (fun m => Nat.lt_irrefl _ (l1 _ m)) (fun m => Nat.lt_irrefl _ (l2 _ m)) J step (fun s1 s2 acc c j ke ⟨g, tk, e⟩ ls sz => ?_) n 0 _ #[] _ rfl (Nat.zero_le _)
    ⟨.inl ⟨rfl, keep _ _ zi, _, _, keep _ _ ou⟩, keep _ _ it, d1.frame _ _ _ c1 fun b _ u e => keep b u e, d2.frame _ _ _ c2 fun b _ u e => keep b u e⟩ b3 rfl (start g0 keep (Heap.lt_size b3))
  subst e
  show wpAny _ A (load s.heap.objs.size >>= fun _ => _) _ _ { s1 with heap := g, toks := tk }
  refine wpAny_bind (wpAny_load ls ?_)
  exact wpAny_pure (fin s1 acc g tk j ke sz)
/-- tuple() of it, by what its pairs are when gathered -/
theorem tuple_code {A : Around} {Q : Value → Shared → Prop} {R : List Value → Shared → Prop} (ty : s.TypeIs (.ref z) "zip") (col : ∀ {K : List Value → Shared → Prop} {E' : Value → Shared → Prop}, (∀ xs s', R xs s' → K xs s') → wpAny (model P w) A.in1 (collect (.ref z)) K E' s)
    (fin : ∀ (xs : List Value) (s' : Shared), R xs s' → xs.length ≤ sizeLine ∧ Q (.ref s'.heap.objs.size) { s' with heap := s'.heap.push { cls := .type "tuple", data := .seq xs.toArray } }) :
    codeAny (model P w) A (.call (.builtin "tuple.__new__") ⟨[.type "tuple", .ref z], []⟩) (wants Q E) s := by
  refine codeAny_of_tree ?_
  show wpAny _ A.in1 (do checkBuiltinCall "tuple.__new__" ⟨[.type "tuple", .ref z], []⟩; again (.builtin "tuple.__new__" ⟨[.type "tuple", .ref z], []⟩)) (_) (_) s
  refine wpAny_bind (wpAny_of_eq (F.newCall_tuple_1 _) (wpAny_pure (And.intro (plainId_quiet F.plain_tuple_new _) (codeAny_builtin F.entry_tuple_new ?_))))
  rw [Around.under_plainId F.plain_tuple_new]
  have e1 := sub_tuple_self
  have e2 := init_tuple_lookup
  have e3 := madeHere_tuple
  wp_walk using wpAny_typeOf ty, col
  intro xs s1 r
  obtain ⟨h1, h2⟩ := fin xs s1 r
  show wpAny _ _ (Builtin.Tuple.tupleExact xs.toArray >>= fun v => ret v) (_) _ _
  unfold Builtin.Tuple.tupleExact
  refine wpAny_bind (wpAny_newObj_type ?_ (by show xs.toArray.size ≤ sizeLine; rw [List.size_toArray]; exact h1))
  exact wpAny_pure h2
theorem call_tuple_zip {A : Around} {Q : Value → Shared → Prop} {R : List Value → Shared → Prop} (ty : s.TypeIs (.ref z) "zip") (col : ∀ {K : List Value → Shared → Prop} {E' : Value → Shared → Prop}, (∀ xs s', R xs s' → K xs s') → wpAny (model P w) A.in1.in1 (collect (.ref z)) K E' s)
    (fin : ∀ (xs : List Value) (s' : Shared), R xs s' → xs.length ≤ sizeLine ∧ Q (.ref s'.heap.objs.size) { s' with heap := s'.heap.push { cls := .type "tuple", data := .seq xs.toArray } }) : wpAny (model P w) A (call (.type "tuple") [.ref z]) Q E s := by
  refine callType_codes (Q₁ := fun v s1 => s1.TypeIs v "tuple" ∧ Q v s1) F.called_tuple (F.typeCall_tuple_1 _) F.entry_object_init (tuple_code ty col fun xs s1 r => ?_) fun v s1 h1 => ?_
  · obtain ⟨a, b⟩ := fin xs s1 r
    exact ⟨a, ⟨_, Heap.get?_push_size _ rfl, rfl⟩, b⟩
  · exact ⟨h1.1, F.args_object_init_2 v _, object_init_meets F.called_tuple.init.lookup F.called_tuple.made (by decide) P w A.in1 _ s1 ⟨h1.1, rfl, h1.2⟩⟩
end
section
variable {X : Cx} {pins : List (Addr × Obj)} {σ : L2.St} {H : Hp} {s : Shared}
theorem drawA {k : Bool} {a it : Addr} {xs : List V} (I : Inv X pins σ H s) (hq : SqB k X.K H a xs) (ne : a ≠ it) :
    ∃ (its : List Value) (S : Heap → Prop), Vals xs its ∧ S s.heap ∧ (∀ B : Around, B.handled = none → Draws X.prog X.w B it [it, a] its.toArray.size (fun i v => its.toArray[i]? = some v) (fun i h => ItB k h it a i ∧ S h)) ∧
      (∀ h h' : Heap, (∀ c u, h.get? c = some u → h'.get? c = some u) → S h → S h') ∧ a < s.heap.objs.size := by
  cases k with
  | true =>
    obtain ⟨its, rv, p, _⟩ := I.tuple (show SqT X.K H a xs from hq)
    obtain ⟨o, ho, hc, n, hd⟩ := id p
    exact ⟨its, fun h => h.IsTuple a its.toArray, rv, p, fun B hh => Draws.tuple hh it a ne its.toArray, fun h h' k ⟨o, e, r⟩ => ⟨o, k _ _ e, r⟩, Heap.lt_size ho⟩
  | false =>
    obtain ⟨its, rv, p, _⟩ := I.list (show SqL X.K H a xs from hq)
    exact ⟨its, fun h => h.IsList a its.toArray, rv, p.isList, fun B hh => Draws.list hh it a ne its.toArray, fun h h' k ⟨o, e, r⟩ => ⟨o, k _ _ e, r⟩, p.lt⟩
end
/-- pairs of two rows, each in its own tuple -/
def PairsZ (H : Hp) (ts xs ys : List V) : Prop := ts.length = xs.length ∧ ∀ (i : Nat) x y, xs[i]? = some x → ys[i]? = some y → ∃ T : Addr, ts[i]? = some (.ref T) ∧ H T = some (.tup [x, y])
def tTupZip (K : PySem.W.Frag) (ta : TA) : TE := fun σ H Q => ta σ H fun vs H1 => ∃ k1 k2 a b xs ys, vs = [.ref a, .ref b] ∧ SqB k1 K H1 a xs ∧ SqB k2 K H1 b ys ∧ xs.length = ys.length ∧
  ∀ r H' ts, Same H1 H' → H' r = some (.tup ts) → PairsZ H' ts xs ys → Q (.ref r) H'
set_option maxHeartbeats 1000000 in
theorem pe_tupZip {X : Cx} {e e2 : Expr} {ta : TA} {p0 p pos pos0 : Pos} (calm : X.calm = true) (hg0 : Gl X "tuple") (hm0 : X.mg "tuple" = none) (hg : Gl X "zip") (hm : X.mg "zip" = none) (ha : PA X [e, e2] ta)
    (star : starEach [e, e2] X.env = (false, eval e X.env) :: starEach [e2] X.env := by rfl) (plain : (backTo pos (starEach [e2] X.env)).any (·.1) = false := by rfl)
    (star0 : starEach [.Call (.Name "zip" p) [e, e2] [] pos] X.env = (false, eval (.Call (.Name "zip" p) [e, e2] [] pos) X.env) :: starEach [] X.env := by rfl) :
    PE X (.Call (.Name "tuple" p0) [.Call (.Name "zip" p) [e, e2] [] pos] [] pos0) (tTupZip X.K ta) := by
  refine ⟨fun pins s σ H Q I h => ?_⟩
  refine Call_ (ld_blt I hg0 hm0 PyProof.Rows.boot_tuple (PyProof.Rows.callWith_type1 (args_cons ?_ star0) star0))
  refine Call_ (ld_blt I hg hm PyProof.Rows.boot_zip (PyProof.Rows.callWith_type1 (thn (ha.run pos pins s σ H _ I h) ?_) star plain))
  rintro us s1 ⟨vs, H1, J, r, k1, k2, a, b, xs, ys, rfl, qa, qb, hl, fin⟩
  rw [vals_two r]
  obtain ⟨o1, C1, b1, c1, la, m1⟩ := beginsB J qa
  obtain ⟨o2, C2, b2, c2, lb, m2⟩ := beginsB J qb
  refine zip_begins2 b1 b2 c1 c2 fun g zip its last e1 e2 sz kept => args_nil ?_
  have J2 : Inv X pins σ H1 { s1 with heap := g } := J.kept (t' := s1.toks) kept
  generalize hN : s1.heap.objs.size = N at *
  have D := PySem.W.ktu_apart N a b la lb
  have hd : X.A.in1.handled = none := I.ok.hd calm
  obtain ⟨vs, S1, rv, cs, dr1, sk1, _⟩ := drawA (it := N) J2 qa (Nat.ne_of_lt la)
  obtain ⟨ws, S2, rw', ct, dr2, sk2, _⟩ := drawA (it := N + 1) J2 qb (Nat.ne_of_lt (Nat.lt_succ_of_lt lb))
  have lv : vs.toArray.size = xs.length := by rw [List.size_toArray]; exact rv.length.symm
  have lw : ws.toArray.size = xs.length := by rw [List.size_toArray, hl]; exact rw'.length.symm
  rw [lv] at dr1
  rw [lw] at dr2
  have hz : xs.length ≤ sizeLine := by
    cases k1 with
    | true =>
      obtain ⟨_, _, _, z⟩ := J.tuple (show SqT X.K H1 a xs from qa)
      exact z
    | false =>
      obtain ⟨_, _, _, z⟩ := J.list (show SqL X.K H1 a xs from qa)
      exact z
  have lt5 : ∀ c, c ∈ [N + 4, N + 2, N + 3, N, N + 1] → c < g.objs.size ∧ N ≤ c := five ⟨⟨by omega, by omega⟩, ⟨by omega, by omega⟩, ⟨by omega, by omega⟩, ⟨by omega, by omega⟩, ⟨by omega, by omega⟩⟩
  -- what is known while they are gathered
  let GJ : Nat → Shared → Array Value → Prop := fun i s2 acc => ∃ (H2 : Hp) (ts : List V), Inv X pins σ H2 s2 ∧ Same H1 H2 ∧ Vals ts acc.toList ∧ ts.length = i ∧ (∀ (j : Nat) x y, j < i → xs[j]? = some x → ys[j]? = some y → ∃ T : Addr, ts[j]? = some (.ref T) ∧ H2 T = some (.tup [x, y])) ∧
    ∀ c, c ∈ [N + 4, N + 2, N + 3, N, N + 1, g.objs.size] → H2 c = none ∧ N ≤ c ∧ c < s2.heap.objs.size
  refine call_tuple_zip (R := fun us s2 => ∃ (H2 : Hp) (ts : List V), Inv X pins σ H2 s2 ∧ Same H1 H2 ∧ Vals ts us ∧ PairsZ H2 ts xs ys) ⟨_, zip, rfl⟩
    (fun {K E'} hk => gather_all (n := xs.length) (f1 := [N, a]) (f2 := [N + 1, b]) hd hz (sep_of D) (dr1 _ hd) (dr2 _ hd) zip ⟨_, _, last⟩ its ⟨m1 _ _ e1, cs⟩ ⟨m2 _ _ e2, ct⟩ ?_ ?_ GJ ?_ ?_ ?_) ?_
  · intro c m
    show c < g.objs.size
    simp only [List.mem_cons, List.not_mem_nil, or_false] at m
    rw [sz]
    rcases m with m | m
    · rw [m]
      exact Nat.lt_add_of_pos_right (by decide)
    · rw [m]
      exact Nat.lt_add_right 5 la
  · intro c m
    show c < g.objs.size
    simp only [List.mem_cons, List.not_mem_nil, or_false] at m
    rw [sz]
    rcases m with m | m
    · rw [m]
      exact Nat.add_lt_add_left (by decide) N
    · rw [m]
      exact Nat.lt_add_right 5 lb
  · intro h' k lt
    have lt : g.objs.size < h'.objs.size := lt
    refine ⟨H1, [], J2.kept (t' := s1.toks) k, Same.refl _, .nil, rfl, fun j x y hj => absurd hj (Nat.not_lt_zero j), fun c m => ?_⟩
    have hc : N ≤ c ∧ c < h'.objs.size := by
      rcases List.mem_append.mp (show c ∈ [N + 4, N + 2, N + 3, N, N + 1] ++ [g.objs.size] from m) with m | m
      · exact ⟨(lt5 c m).2, Nat.lt_trans (lt5 c m).1 lt⟩
      · rw [List.mem_singleton.mp m]
        exact ⟨by rw [sz]; exact Nat.le_add_right N 5, lt⟩
    exact ⟨J.hok.fresh (by rw [hN]; exact hc.1), hc.1, hc.2⟩
  · rintro i s2 acc u v h' tk ⟨H2, ts, I2, sm, vl, tl, pz, fr⟩ pu pv nw ke
    have pu : vs[i]? = some u := by rw [← List.getElem?_toArray]; exact pu
    have pv : ws[i]? = some v := by rw [← List.getElem?_toArray]; exact pv
    have ix : i < xs.length := by
      have := (List.getElem?_eq_some_iff.mp pu).1
      rw [List.size_toArray] at lv
      rwa [lv] at this
    have hx := List.getElem?_eq_getElem ix
    have hy := List.getElem?_eq_getElem (show i < ys.length by rw [← hl]; exact ix)
    generalize xs[i] = x at hx
    generalize ys[i]'(by rw [← hl]; exact ix) = y at hy
    obtain ⟨u', eu, rx⟩ := rv.get hx
    obtain ⟨v', ev, ry⟩ := rw'.get hy
    rw [pu] at eu
    rw [pv] at ev
    cases eu
    cases ev
    have nN := I2.hok.fresh (Nat.le_refl s2.heap.objs.size)
    have obj : ObjOk X.prog X.w (L2.upd H2 s2.heap.objs.size (.tup [x, y])) h' s2.heap.objs.size (.tup [x, y]) := ⟨(by decide : 2 ≤ sizeLine), _, .cons rx (.cons ry .nil), _, nw, rfl, _, rfl⟩
    have I3 := I2.turnedNew (t' := tk) (ch := [N + 4, N + 2, N + 3, N, N + 1, g.objs.size]) ke (fun c m => J.fpOk (by rw [hN]; exact (fr c m).2.1) (fr c m).1) (Nat.le_refl _) obj
    have s3 := same_new (o := .tup [x, y]) nN
    have up := Heap.lt_size nw
    refine ⟨L2.upd H2 s2.heap.objs.size (.tup [x, y]), ts ++ [.ref s2.heap.objs.size], I3, sm.trans s3, ?_, by rw [List.length_append, tl]; rfl, fun j x1 y1 hj hx1 hy1 => ?_, fun c m => ?_⟩
    · rw [Array.toList_push]
      exact vl.append (.cons rfl .nil)
    · by_cases e : j < i
      · obtain ⟨T, h1, h2⟩ := pz j x1 y1 e hx1 hy1
        exact ⟨T, (by rw [List.getElem?_append_left (by omega)]; exact h1), s3 _ _ h2⟩
      · have e : j = i := by omega
        subst e
        rw [hx] at hx1
        rw [hy] at hy1
        cases hx1
        cases hy1
        exact ⟨_, by rw [List.getElem?_append_right (by omega), tl, Nat.sub_self]; rfl, upd_same⟩
    · obtain ⟨q1, q2, q3⟩ := fr c m
      exact ⟨(upd_ne (Nat.ne_of_lt q3)).trans q1, q2, Nat.lt_trans q3 up⟩
  · rintro s2 acc h' tk ⟨H2, ts, I2, sm, vl, tl, pz, fr⟩ ke az
    refine hk _ _ ⟨H2, ts, I2.turnedL (t' := tk) (ch := [N + 4, N + 2, N + 3, N, N + 1, g.objs.size]) ke fun c m => J.fpOk (by rw [hN]; exact (fr c m).2.1) (fr c m).1, sm, vl, tl, fun j x y hx hy => pz j x y (List.getElem?_eq_some_iff.mp hx).1 hx hy⟩
  · rintro us s2 ⟨H2, ts, I2, sm, vl, tl, pz⟩
    have ul : us.length = xs.length := by rw [← vl.length]; exact tl
    refine ⟨by rw [ul]; exact hz, .ref s2.heap.objs.size, L2.upd H2 s2.heap.objs.size (.tup ts), I2.laid (t' := s2.toks) (fun c u e => Heap.get?_push_of_some _ e) (Nat.le_refl _) ⟨by rw [tl]; exact hz, us, vl, IsTup.new _ _⟩, rfl, ?_⟩
    have s3 := same_new (o := .tup ts) (I2.hok.fresh (Nat.le_refl _))
    exact fin _ _ ts (sm.trans s3) upd_same ⟨tl, fun j x y hx hy => by
      obtain ⟨T, h1, h2⟩ := pz j x y hx hy
      exact ⟨T, h1, s3 _ _ h2⟩⟩
theorem g_tupZip {K : PySem.W.Frag} {ta : TA} {σ : L2.St} {H : Hp} {Q : VK} (h : ta σ H fun vs H1 => ∃ k1 k2 a b xs ys, vs = [.ref a, .ref b] ∧ SqB k1 K H1 a xs ∧ SqB k2 K H1 b ys ∧ xs.length = ys.length ∧
    ∀ r H' ts, Same H1 H' → H' r = some (.tup ts) → PairsZ H' ts xs ys → Q (.ref r) H') : tTupZip K ta σ H Q := h
end DW
/-! DWSys: lists that are laid lie elsewhere than sys.modules; repr of lists that a dict stands in. -/
namespace DW
open PySem PySem.Spec PyProof.Rows L2
section
variable {X : Cx} {es : List Expr} {t : TA} {pos : Pos}
def tLstN (ta : TA) : TE := fun σ H Q => ta σ H fun xs H1 => xs.length ≤ sizeLine ∧ ∀ p, H1 p = none → p ≠ sysModules → Q (.ref p) (L2.upd H1 p (.lst xs))
theorem pe_lstN (h : PA X es t) : PE X (.List es pos) (tLstN t) := by
  constructor
  intro pins s σ H Q I hq
  refine wpAny_List_spliced (thn (h.run pos pins s σ H _ I hq) fun us s1 ⟨xs, H1, I1, r, z, q⟩ => ⟨by rw [← r.length]; exact z, ?_⟩)
  have far : s1.heap.objs.size ≠ sysModules := Nat.ne_of_gt I1.big
  refine ⟨.ref s1.heap.objs.size, L2.upd H1 s1.heap.objs.size (.lst xs), I1.laid (t' := s1.toks) (fun b u e => Heap.get?_push_of_some _ e) (Nat.le_refl _) ?_, rfl, q _ (I1.hok.fresh (Nat.le_refl _)) far⟩
  exact ⟨z, us, 0, r, Heap.get?_push_size _ rfl⟩
def rCatN : R2 := fun x y H Q => ∃ l b xs zs, x = .ref l ∧ y = .ref b ∧ H l = some (.lst xs) ∧ H b = some (.lst zs) ∧ xs.length + zs.length ≤ sizeLine ∧ ∀ p, H p = none → p ≠ sysModules → Q (.ref p) (L2.upd H p (.lst (xs ++ zs)))
theorem op_catN : OpR X (binaryOp .Add) rCatN := by
  intro pins s σ H x y v u Q I rx ry h
  obtain ⟨l, b, xs, zs, rfl, rfl, hl, hb, hz, q⟩ := h
  cases rx
  cases ry
  obtain ⟨z, its, n, r, hl2, e⟩ := I.lstM hl
  obtain ⟨z2, its2, n2, r2, hl3, e2⟩ := I.lstM hb
  have far : s.heap.objs.size ≠ sysModules := Nat.ne_of_gt I.big
  refine PySem.P.add_list e e2 ?_ (by rw [List.size_toArray, List.size_toArray]; omega)
  rw [show its.toArray ++ its2.toArray = (its ++ its2).toArray by simp]
  exact ⟨.ref _, _, I.lnew (t' := s.toks) (r.append r2) (by rw [List.length_append]; omega), rfl, q _ I.fresh far⟩
/-- [v] * k -/
def rRepN : R2 := fun x y H Q => ∃ l k v, x = .ref l ∧ y = .int k ∧ H l = some (.lst [v]) ∧ 0 ≤ k ∧ k ≤ 1000 ∧ ∀ p, H p = none → p ≠ sysModules → Q (.ref p) (L2.upd H p (.lst (List.replicate k.toNat [v]).flatten))
theorem op_repN : OpR X (binaryOp .Mult) rRepN := by
  intro pins s σ H x y v u Q I rx ry h
  obtain ⟨l, k, v0, rfl, rfl, hH, h1, h2, q⟩ := h
  cases rx
  obtain ⟨tk, rfl⟩ := ry
  obtain ⟨z, its, n, r, hl, e⟩ := I.lstM hH
  have far : s.heap.objs.size ≠ sysModules := Nat.ne_of_gt I.big
  have one : its.length = 1 := hl.symm
  have room : its.toArray.size * k.toNat ≤ sizeLine := by
    rw [List.size_toArray, one, sizeLine_eq]
    omega
  have cap : ¬ its.toArray.size * k.toNat > (2 ^ 63 - 1) / 8 := by
    have : (sizeLine : Nat) ≤ (2 ^ 63 - 1) / 8 := by decide
    omega
  have fits : ¬ (!Builtin.List.listFitsIndex k) = true := by
    rw [fitsIndex_both (by omega) (by omega)]
    exact (Bool.false_ne_true)
  have short : ¬ Builtin.List.listTooLong (its.toArray.size * k.toNat) = true := by
    rw [notLongL room]
    exact (Bool.false_ne_true)
  have flat : List.foldl (fun x1 x2 => x1 ++ x2) #[] (List.replicate (if its.toArray.isEmpty = true then 0 else k.toNat) its.toArray) = (List.replicate k.toNat its).flatten.toArray := by
    have f0 : ∀ m : Nat, List.foldl (fun x1 x2 => x1 ++ x2) #[] (List.replicate m its.toArray) = (List.replicate m its).flatten.toArray := fun m => by
      simpa only [List.nil_append] using foldl_rep its m []
    rw [f0]
    cases its with
    | nil => cases one
    | cons a r' => rw [if_neg (by simp)]
  refine wpAny_binaryOp_repeat_ref (T := "list") (U := "int") (by decide) ⟨_, e, rfl⟩ (fun s' => typeIs_int s' k tk) noFill_list_mul F.fills_int_mul F.slot_int_rmul repeat_list F.slot_int_index.lookup
    (call_meets F.slot_int_rmul (typeIs_int s k tk) F.entry_int_rmul (F.args_int_rmul_2 _ _) (int___rmul___int_list k tk l its.toArray n)
      ⟨e, rfl, ⟨_, e, rfl⟩, call_meets F.slot_list_mul ⟨_, e, rfl⟩ F.entry_list_mul (F.args_list_mul_2 _ _) (AutoListH.list___mul___list_int_3 l its.toArray n k tk fits cap short) ⟨e, ?_⟩⟩)
  rw [flat]
  exact ⟨.ref _, _, I.lnew (t' := s.toks) (r.rep k.toNat) (by rw [PyProof.Rows.lm_len_rep_flat]; show k.toNat * 1 ≤ sizeLine; rw [sizeLine_eq]; omega), rfl, q _ I.fresh far⟩
end
theorem g_lstN {tr : TA} {σ : L2.St} {H : Hp} {Q : VK} (h : tr σ H fun xs H1 => xs.length ≤ sizeLine ∧ ∀ p, H1 p = none → p ≠ sysModules → Q (.ref p) (L2.upd H1 p (.lst xs))) : tLstN tr σ H Q := h
section
variable {X : Cx} {pins : List (Addr × Obj)} {σ : L2.St} {H : Hp} {s : Shared} {D : Dk}
/-- n times the same, in one list -/
theorem readsRep {u : Value} {v : V} {d : PyData} (I : Inv X pins σ H s) (hd : Da D H v d) : ∀ (n : Nat) (us : List Value), Vals (List.replicate n v) us → ∃ as, ReadsAll s.heap us (List.replicate n d) as ∧ (hasL d = false → sysModules ∉ as)
  | 0, _, r => by cases r; exact ⟨_, ReadsAll.nil, fun _ => List.not_mem_nil⟩
  | n + 1, _, r => by
    cases r with
    | cons r1 r2 =>
      obtain ⟨as, q1, m1⟩ := Da.reads I d v _ hd r1
      obtain ⟨bs, q2, m2⟩ := readsRep (u := u) I hd n _ r2
      exact ⟨_, ReadsAll.cons q1 q2, fun z w => (List.mem_append.mp w).elim (m1 z) (m2 z)⟩
/-- repr of [[v] * 11, [v] * 11] -/
def rReprC (D : Dk) : List V → Hp → VK → Prop := fun vs H Q => ∃ (a b c : Addr) (v : V) (d : PyData), vs = [.ref a] ∧ H a = some (.lst [.ref b, .ref c]) ∧ H b = some (.lst (List.replicate 11 v)) ∧ H c = some (.lst (List.replicate 11 v)) ∧ Da D H v d ∧ a ≠ sysModules ∧ b ≠ sysModules ∧ c ≠ sysModules ∧
  (d.hasDict = true → hasL d = false) ∧ PyData.showable (.list (two d)) = true ∧ PyData.depth (.list (two d)) ≤ 60 ∧ (PyData.shown (.list (two d))).length ≤ sizeLine ∧ Q (.str (PyData.shown (.list (two d)))) H
theorem call_reprC (hg : X.A.guards = some []) (hu : X.A.units + 64 < cLine) : CallR X (.builtin "repr") (fun vs H Q => ∃ D, rReprC D vs H Q) := by
  rintro pins s σ H vs us Q I r ⟨D, a, b, c, v, d, rfl, ha, hb, hc, hd, na, nb, nc, hm, hs, hdp, hz, q⟩
  obtain ⟨u, rfl, rv⟩ := vals1 r
  cases (show u = Value.ref a from rv)
  obtain ⟨_, its, ka, va, ea⟩ := (show ObjOk X.prog X.w H s.heap a (.lst [.ref b, .ref c]) from I.hok _ _ ha)
  obtain ⟨_, jts, kb, vb, eb⟩ := (show ObjOk X.prog X.w H s.heap b (.lst (List.replicate 11 v)) from I.hok _ _ hb)
  obtain ⟨_, kts, kc, vc, ec⟩ := (show ObjOk X.prog X.w H s.heap c (.lst (List.replicate 11 v)) from I.hok _ _ hc)
  obtain ⟨as, q1, m1⟩ := readsRep (u := .none) I hd 11 _ vb
  obtain ⟨bs, q2, m2⟩ := readsRep (u := .none) I hd 11 _ vc
  obtain ⟨u1, u2, rfl, r1, r2⟩ := vals2 va
  cases (show u1 = Value.ref b from r1)
  cases (show u2 = Value.ref c from r2)
  have hdd : PyData.hasDict (.list (two d)) = true → d.hasDict = true := fun z => by
    cases e : d.hasDict with
    | true => rfl
    | false =>
      have e2 : ∀ n, PyData.hasDictAll (List.replicate n d) = false := fun n => by
        induction n with
        | zero => simp only [List.replicate, PyData.hasDictAll]
        | succ n ih => simp only [List.replicate, PyData.hasDictAll, e, ih, Bool.or_self]
      simp only [two, PyData.hasDict, PyData.hasDictAll, e2, Bool.or_self] at z
      cases z
  refine repr_of_reads' (Reads.list ea rfl rfl (ReadsAll.cons (Reads.list eb rfl rfl q1) (ReadsAll.cons (Reads.list ec rfl rfl q2) ReadsAll.nil))) hs (fun z => ?_) hg (by unfold two at hdp; omega) (fun _ _ e => e) (fun h' t tk hk => ⟨.str _, H, I.kept (t' := tk) hk, ⟨t, rfl⟩, q⟩) hz
  have hl := hm (hdd z)
  have n1 := m1 hl
  have n2 := m2 hl
  simp only [List.mem_cons, List.mem_append, List.not_mem_nil, or_false, not_or]
  exact ⟨fun z => na z.symm, ⟨fun z => nb z.symm, n1⟩, fun z => nc z.symm, n2⟩
end
end DW
namespace DW
open PySem PySem.Spec PyProof.Rows L2
def top (i : Nat) : Stmt := PySem.Challenge.pw_daywatches_k56_firsts_judged.main.body.getD i (.Pass ⟨0, 0, 0, 0⟩)
end DW
namespace DW
open PySem PySem.Spec PyProof.Rows L2
/-- the readings, until a question is met -/
local macro_rules | `(tactic| walk_at "g") => `(tactic| repeat (first
  | with_reducible refine g_seq ?_
  | with_reducible refine g_asg ?_
  | with_reducible refine g_name ?_
  | with_reducible refine g_op ?_
  | with_reducible refine g_cons ?_
  | with_reducible refine g_c ?_
  | ((with_reducible refine' g_var ?hv ?_); (case hv => exact rfl))
  | with_reducible refine g_nil ?_
  | with_reducible refine g_I0 ?_
  | with_reducible refine g_cb ?_
  | with_reducible refine g_call ?_
  | with_reducible refine g_callS ?_
  | with_reducible refine g_mkE ?_
  | with_reducible refine g_fld ?_
  | with_reducible refine g_ret ?_
  | with_reducible refine g_retN ?_
  | with_reducible refine g_drop ?_
  | with_reducible refine g_if ?_
  | with_reducible refine g_next ?_
  | with_reducible refine g_un ?_
  | with_reducible refine g_U ?_
  | with_reducible refine g_eqI ?_
  | with_reducible refine g_neI ?_
  | with_reducible refine g_eqS ?_
  | with_reducible refine g_neS ?_
  | with_reducible refine g_tup ?_
  | with_reducible refine g_lst ?_
  | with_reducible refine g_test ?_
  | with_reducible refine g_tif ?_
  | with_reducible refine g_forB ?_
  | with_reducible refine g_forEL ?_
  | with_reducible refine g_forRev ?_
  | with_reducible refine g_for3 ?_
  | with_reducible refine g_B ?_
  | with_reducible refine g_and ?_
  | with_reducible refine g_or ?_
  | with_reducible refine g_not ?_
  | with_reducible refine g_ifE ?_
  | with_reducible refine g_andV ?_
  | with_reducible refine g_orV ?_
  | with_reducible refine g_notV ?_
  | with_reducible refine g_chain ?_
  | with_reducible refine g_chainT ?_
  | with_reducible refine g_no ?_
  | with_reducible refine g_part ?_
  | with_reducible refine g_sl ?_
  | with_reducible refine g_bm ?_
  | with_reducible refine g_bm0 ?_
  | with_reducible refine g_par ?_
  | with_reducible refine g_sub ?_
  | with_reducible refine g_gCons ?_
  | with_reducible refine g_gNil ?_
  | ((with_reducible refine' g_ixL ?hv ?he ?_); (case hv => first | assumption | exact upd_same); (case he => first | exact rfl | exact atI_nat (j := 0) rfl | exact atI_nat (j := 1) rfl | exact atI_nat (j := 2) rfl))
  | ((with_reducible refine' g_ixT ?hv ?he ?_); (case hv => first | assumption | exact upd_same); (case he => first | exact rfl | exact atI_nat (j := 0) rfl | exact atI_nat (j := 1) rfl | exact atI_nat (j := 2) rfl))
  | ((with_reducible refine' g_gTup ?hv ?he ?_); (case hv => first | assumption | exact upd_same); (case he => exact rfl))
  | ((with_reducible refine' g_tyL ?hv ?_); (case hv => first | assumption | exact upd_same))
  | with_reducible refine g_for1 ?_
  | with_reducible refine g_for2 ?_
  | with_reducible refine g_forL ?_
  | with_reducible refine g_forT ?_
  | with_reducible refine g_lc1 ?_
  | with_reducible refine g_lc2 ?_
  | with_reducible refine g_lcL ?_
  | with_reducible refine g_lcT ?_
  | with_reducible refine g_lcE ?_
  | with_reducible refine g_lcZ ?_
  | with_reducible refine g_rev ?_
  | with_reducible refine g_listRg ?_
  | with_reducible refine g_tupRg ?_
  | with_reducible refine g_rg1 ?_
  | with_reducible refine g_ckw ?_
  | with_reducible refine g_rg2 ?_
  | with_reducible refine g_yes ?_
  | with_reducible refine iteT ?_
  | with_reducible refine iteF ?_
  | with_reducible refine g_ifNT ?_
  | with_reducible refine g_ifNF ?_
  | ((with_reducible refine' g_ifC ?hc ?_); (case hc => exact rfl))
  | ((with_reducible refine' g_ifD ?hc ?_); (case hc => exact rfl))
  | (with_reducible refine ⟨(show List.length _ ≤ sizeLine from Nat.le_of_ble_eq_true (by with_unfolding_all rfl)), ?_⟩)
  | (with_reducible refine ⟨_, rfl, ?_⟩)
  | (with_reducible refine Or.inl ⟨_, rfl, ?_⟩)
  | ((with_reducible refine' ⟨_, _, rfl, Or.inl (SqL.of ?hv), ?_⟩); (case hv => first | assumption | exact upd_same))
  | ((with_reducible refine' ⟨_, _, rfl, Or.inr (SqT.of ?hv), ?_⟩); (case hv => first | assumption | exact upd_same))
  | ((with_reducible refine' g_I ?hc ?_); (case hc => first | (show (0 : Int) < _; omega) | exact Or.inl ⟨by decide, by decide⟩ | exact Or.inr ⟨by decide, by decide⟩ | exact ⟨by decide, by decide +kernel⟩))
  | (with_reducible refine ⟨_, _, rfl, ?_⟩)))
/-- steps of the heap, from its end: tuples stay (k), all stays (s), the deck stands (d), it is drawn from (r), a thing stands beside it (o) -/
local macro_rules | `(tactic| walk_at "k") => `(tactic| first
  | with_reducible assumption
  | with_reducible exact tk_refl
  | ((with_reducible refine tk_step ?_ (by assumption)); walk_at "k")
  | ((with_reducible refine tk_mut ?_ (by assumption)); walk_at "k")
  | ((with_reducible refine tk_same ?_ (by assumption)); walk_at "k")
  | ((with_reducible refine tk_gr ?_ (by assumption) (by walk_at "d")); walk_at "k"))
local macro_rules | `(tactic| walk_at "s") => `(tactic| first
  | with_reducible assumption
  | with_reducible exact Same.refl _
  | ((with_reducible refine same_step ?_ (by assumption)); walk_at "s")
  | ((with_reducible refine Same.trans ?_ (by assumption)); walk_at "s"))
local macro_rules | `(tactic| walk_at "d") => `(tactic| first
  | with_reducible assumption
  | with_reducible exact Gr.at_ (by assumption)
  | ((with_reducible refine dk_step ?_ (by assumption)); walk_at "d")
  | ((with_reducible refine DeckAt.same ?_ (by assumption)); walk_at "d"))
local macro_rules | `(tactic| walk_at "r") => `(tactic| first
  | with_reducible assumption
  | ((with_reducible refine Gr.refl ?_); walk_at "d")
  | ((with_reducible refine Gr.new ?_ (by assumption)); walk_at "r")
  | ((with_reducible refine Gr.mut ?_ (by walk_at "d") (by assumption)); walk_at "r")
  | ((with_reducible refine Gr.same ?_ (by assumption)); walk_at "r")
  | ((with_reducible refine Gr.trans ?_ (by assumption)); walk_at "r"))
local macro_rules | `(tactic| walk_at "o") => `(tactic| first
  | with_reducible assumption
  | (refine Off.new ?_ (by assumption); walk_at "d")
  | ((with_reducible refine Off.step ?_ (by assumption)); walk_at "o")
  | ((with_reducible refine off_same ?_ (by assumption)); walk_at "o")
  | ((with_reducible refine Off.go ?_ (by assumption)); walk_at "o"))

section
variable {P : Program} {w : World} {K : PySem.W.Frag} {mg : Str → Option Value} {base : Heap}
abbrev s__law_draw : Stmt := top 22
theorem sc__law_draw : FnScope ["deck", "many", "rest", "cell", "mixed"] ["deck", "many"] (defScope s__law_draw) := ⟨rfl, rfl, rfl, by decide +kernel, rfl, by decide +kernel, by decide +kernel⟩
theorem ok_draw (F : Top K mg "_law_draw" s__law_draw ["deck", "many"]) (T : NoB mg) : Def P w K mg base "_law_draw" ["deck", "many"] 1 spDraw := by
  obtain ⟨f, fd, F⟩ := F
  refine F.def sc__law_draw (fun vs H Q E h => ?_) (fun cdv A outer s H vs Q E hg hr h => ?_)
  · obtain ⟨D, n, rfl, _⟩ := h
    rfl
  obtain ⟨D, n, rfl, dk, hn0, hn1, k⟩ := h
  have nd := sc__law_draw.nd
  refine ⟨_, (pss_cons (ps_if (pt_cmpR (op_neD hr.units) (pe_ix ix_list (pv 0) pe_int (fun _ _ => rfl)) (pe_lst pa_nil) (nomark _)) (pss_cons (ps_set (i := 2) nd rfl (Or.inl rfl) (pe_ix ix_list (pe_ix ix_list (pv 0) pe_int (fun _ _ => rfl)) pe_int (fun _ _ => rfl)))
      (pss_cons (ps_asg (pe_op op_fdivW (pv 2) (pv 1)) (pg_sub (pe_ix ix_list (pv 0) pe_int (fun _ _ => rfl)) pe_int set_list))
      (pss_cons (ps_if (pt_cmpR op_eq (pe_ix ix_list (pe_ix ix_list (pv 0) pe_int (fun _ _ => rfl)) pe_int (fun _ _ => rfl)) pe_int (nomark _)) (pss_one (ps_expr (pe_bm PySem.F.plainAttrs_list PySem.F.slot_list_pop PySem.F.type_list_pop mt_popAt (pe_ix ix_list (pv 0) pe_int (fun _ _ => rfl)) (pa_cons pe_int pa_nil)))) pss_nil)
      (pss_one (ps_ret (pe_op op_mod (pe_callTy call_int1 (by rfl) T.int (by decide +kernel) (pa_cons (pv 2) pa_nil)) (pv 1))))))) pss_nil)
      (pss_cons (ps_asg (pe_op op_add (pe_ix ix_list (pv 0) pe_int (fun _ _ => rfl)) pe_int) (pg_sub (pv 0) pe_int set_list))
      (pss_cons (ps_set (i := 3) nd rfl (Or.inl rfl) (pe_ix ix_list (pe_ix ix_list (pv 0) pe_int (fun _ _ => rfl)) (pe_op op_mod (pe_callTy call_int1 (by rfl) T.int (by decide +kernel) (pa_cons (pe_ix ix_list (pv 0) pe_int (fun _ _ => rfl)) pa_nil)) (pe_callB call_len_seq (by rfl) T.len (by decide +kernel) (pa_cons (pe_ix ix_list (pv 0) pe_int (fun _ _ => rfl)) pa_nil))) (fun _ _ => rfl)))
      (pss_cons (ps_set (i := 4) nd rfl (Or.inl rfl) (pe_op op_mod (pe_callTy call_int1 (by rfl) T.int (by decide +kernel) (pa_cons (pe_op op_add (pe_op op_mod (pe_callTy call_int1 (by rfl) T.int (by decide +kernel) (pa_cons (pv 3) pa_nil)) pe_int) (pe_op op_mul pe_int (pe_ix ix_list (pv 0) pe_int (fun _ _ => rfl)))) pa_nil)) pe_int))
      (pss_cons (ps_set (i := 4) nd rfl (Or.inl rfl) (pe_op op_mod (pe_callTy call_int1 (by rfl) T.int (by decide +kernel) (pa_cons (pe_op op_add (pe_op op_mul (pv 4) (pv 4)) (pe_op op_mul pe_int (pe_ix ix_list (pv 0) pe_int (fun _ _ => rfl)))) pa_nil)) pe_int))
      (pss_one (ps_ret (pe_op op_mod (pe_op op_fdivW (pe_op op_mod (pe_callTy call_int1 (by rfl) T.int (by decide +kernel) (pa_cons (pe_op op_mul (pv 4) (pv 4)) pa_nil)) pe_int) pe_int) (pv 1))))))))), ?_⟩
  obtain ⟨bs, cs, c, h0, h1, h2, h3⟩ := dk.ex
  walk_at "g"
  intro p hp
  have n0 : D.dk ≠ p := ne_of_none h0 hp
  have n1 : D.d0 ≠ p := ne_of_none h1 hp
  have n2 : D.d1 ≠ p := ne_of_none h2 hp
  have h0' := (upd_ne (o := .lst []) n0).trans h0
  have h1' := (upd_ne (o := .lst []) n1).trans h1
  have h2' := (upd_ne (o := .lst []) n2).trans h2
  refine g_neNil h1' upd_same ⟨_, rfl, ?_⟩
  refine ite2 (fun e => ?_) (fun e => ?_)
  · cases bs with
    | nil => cases e
    | cons z zs =>
      have gp : Gr D H (L2.upd H p (.lst [])) := (Gr.refl dk).new hp
      have gd : ∀ ys : List Int, Gr D H (L2.upd (L2.upd H p (.lst [])) D.d0 (.lst (ys.map V.int))) := fun ys => by
        refine ⟨⟨⟨ys, cs, c, ?_, upd_same, ?_, h3⟩, dk.n0, dk.n1, dk.n2, nx_lst gp.at_.nx⟩, fun b o e q0 q1 => ?_⟩
        · rw [upd_ne dk.n0]
          exact h0'
        · rw [upd_ne dk.n2.symm]
          exact h2'
        · rw [upd_ne q1]
          exact gp.keep b o e q0 q1
      walk_at "g"
      refine g_I (wide_div hn0 hn1 (by decide) (by decide)) ?_
      walk_at "g"
      refine g_setL (j := 0) h1' (ixn (j := 0) (Nat.succ_pos _)) ?_
      have e1 : (List.map V.int (z :: zs)).set 0 (V.int (z / n)) = List.map V.int (z / n :: zs) := rfl
      rw [e1]
      have g1 := gd (z / n :: zs)
      have h0'' := (upd_ne (o := .lst (List.map V.int (z / n :: zs))) dk.n0).trans h0'
      walk_at "g"
      refine ite2 (fun e => ?_) (fun e => ?_)
      · walk_at "g"
        refine ⟨D.d0, _, 0, 0, _, rfl, rfl, upd_same, by decide, by decide, sqx (j := 0) (Nat.succ_pos _), rfl, ?_⟩
        rw [upd_upd]
        walk_at "g"
        exact k _ _ (Int.emod_nonneg _ (by omega)) (Int.emod_lt_of_pos _ hn0) (gd zs)
      · walk_at "g"
        exact k _ _ (Int.emod_nonneg _ (by omega)) (Int.emod_lt_of_pos _ hn0) g1
  · walk_at "g"
    refine g_setL (j := 2) h0' rfl ?_
    have e1 : [V.ref D.d0, V.ref D.d1, V.int c].set 2 (V.int (c + 1)) = [V.ref D.d0, V.ref D.d1, V.int (c + 1)] := rfl
    rw [e1]
    have h1'' := (upd_ne (o := .lst [V.ref D.d0, V.ref D.d1, V.int (c + 1)]) dk.n0.symm).trans h1'
    have h2'' := (upd_ne (o := .lst [V.ref D.d0, V.ref D.d1, V.int (c + 1)]) dk.n1.symm).trans h2'
    have gp : Gr D H (L2.upd H p (.lst [])) := (Gr.refl dk).new hp
    have g1 : Gr D H (L2.upd (L2.upd H p (.lst [])) D.dk (.lst [V.ref D.d0, V.ref D.d1, V.int (c + 1)])) :=
      ⟨⟨⟨bs, cs, c + 1, upd_same, h1'', h2'', h3⟩, dk.n0, dk.n1, dk.n2, nx_lst gp.at_.nx⟩, fun b o e q0 q1 => by rw [upd_ne q0]; exact gp.keep b o e q0 q1⟩
    have hl : 0 < cs.length := List.length_pos_iff.mpr h3
    have hl2 : (List.map V.int cs).length = cs.length := List.length_map ..
    walk_at "g"
    obtain ⟨z, hz, _⟩ := atI_int (cs := cs) (i := (c + 1) % ((List.map V.int cs).length : Int)) (Int.emod_nonneg _ (by omega)) (by rw [hl2]; exact Int.emod_lt_of_pos _ (by omega))
    refine g_ixL h2'' hz ?_
    walk_at "g"
    have b1 : 0 ≤ (z % 4294966297 + 1640531527 * (c + 1)) % 4294966297 ∧ (z % 4294966297 + 1640531527 * (c + 1)) % 4294966297 < 4294966297 := ⟨Int.emod_nonneg _ (by decide), Int.emod_lt_of_pos _ (by decide)⟩
    generalize (z % 4294966297 + 1640531527 * (c + 1)) % 4294966297 = m1 at b1 ⊢
    refine g_I (.inl ⟨by omega, by omega⟩) ?_
    walk_at "g"
    have b2 : 0 ≤ (m1 * m1 + 122949823 * (c + 1)) % 4294966237 ∧ (m1 * m1 + 122949823 * (c + 1)) % 4294966237 < 4294966237 := ⟨Int.emod_nonneg _ (by decide), Int.emod_lt_of_pos _ (by decide)⟩
    generalize (m1 * m1 + 122949823 * (c + 1)) % 4294966237 = m2 at b2 ⊢
    refine g_I (.inl ⟨by omega, by omega⟩) ?_
    walk_at "g"
    exact k _ _ (Int.emod_nonneg _ (by omega)) (Int.emod_lt_of_pos _ hn0) g1
end
end DW
namespace DW
open PySem PySem.Spec PyProof.Rows L2
/-- the readings, until a question is met -/
local macro_rules | `(tactic| walk_at "g") => `(tactic| repeat (first
  | with_reducible refine g_seq ?_
  | with_reducible refine g_asg ?_
  | with_reducible refine g_name ?_
  | with_reducible refine g_op ?_
  | with_reducible refine g_cons ?_
  | with_reducible refine g_c ?_
  | ((with_reducible refine' g_var ?hv ?_); (case hv => exact rfl))
  | with_reducible refine g_nil ?_
  | with_reducible refine g_I0 ?_
  | with_reducible refine g_cb ?_
  | with_reducible refine g_call ?_
  | with_reducible refine g_callS ?_
  | with_reducible refine g_mkE ?_
  | with_reducible refine g_fld ?_
  | with_reducible refine g_ret ?_
  | with_reducible refine g_retN ?_
  | with_reducible refine g_drop ?_
  | with_reducible refine g_if ?_
  | with_reducible refine g_next ?_
  | with_reducible refine g_un ?_
  | with_reducible refine g_U ?_
  | with_reducible refine g_eqI ?_
  | with_reducible refine g_neI ?_
  | with_reducible refine g_eqS ?_
  | with_reducible refine g_neS ?_
  | with_reducible refine g_tup ?_
  | with_reducible refine g_lst ?_
  | with_reducible refine g_test ?_
  | with_reducible refine g_tif ?_
  | with_reducible refine g_forB ?_
  | with_reducible refine g_forEL ?_
  | with_reducible refine g_forRev ?_
  | with_reducible refine g_for3 ?_
  | with_reducible refine g_B ?_
  | with_reducible refine g_and ?_
  | with_reducible refine g_or ?_
  | with_reducible refine g_not ?_
  | with_reducible refine g_ifE ?_
  | with_reducible refine g_andV ?_
  | with_reducible refine g_orV ?_
  | with_reducible refine g_notV ?_
  | with_reducible refine g_chain ?_
  | with_reducible refine g_chainT ?_
  | with_reducible refine g_no ?_
  | with_reducible refine g_part ?_
  | with_reducible refine g_sl ?_
  | with_reducible refine g_bm ?_
  | with_reducible refine g_bm0 ?_
  | with_reducible refine g_par ?_
  | with_reducible refine g_sub ?_
  | with_reducible refine g_gCons ?_
  | with_reducible refine g_gNil ?_
  | ((with_reducible refine' g_ixL ?hv ?he ?_); (case hv => first | assumption | exact upd_same); (case he => first | exact rfl | exact atI_nat (j := 0) rfl | exact atI_nat (j := 1) rfl | exact atI_nat (j := 2) rfl))
  | ((with_reducible refine' g_ixT ?hv ?he ?_); (case hv => first | assumption | exact upd_same); (case he => first | exact rfl | exact atI_nat (j := 0) rfl | exact atI_nat (j := 1) rfl | exact atI_nat (j := 2) rfl))
  | ((with_reducible refine' g_gTup ?hv ?he ?_); (case hv => first | assumption | exact upd_same); (case he => exact rfl))
  | ((with_reducible refine' g_tyL ?hv ?_); (case hv => first | assumption | exact upd_same))
  | with_reducible refine g_for1 ?_
  | with_reducible refine g_for2 ?_
  | with_reducible refine g_forL ?_
  | with_reducible refine g_forT ?_
  | with_reducible refine g_lc1 ?_
  | with_reducible refine g_lc2 ?_
  | with_reducible refine g_lcL ?_
  | with_reducible refine g_lcT ?_
  | with_reducible refine g_lcE ?_
  | with_reducible refine g_lcZ ?_
  | with_reducible refine g_rev ?_
  | with_reducible refine g_listRg ?_
  | with_reducible refine g_tupRg ?_
  | with_reducible refine g_rg1 ?_
  | with_reducible refine g_ckw ?_
  | with_reducible refine g_rg2 ?_
  | with_reducible refine g_yes ?_
  | with_reducible refine iteT ?_
  | with_reducible refine iteF ?_
  | with_reducible refine g_ifNT ?_
  | with_reducible refine g_ifNF ?_
  | ((with_reducible refine' g_ifC ?hc ?_); (case hc => exact rfl))
  | ((with_reducible refine' g_ifD ?hc ?_); (case hc => exact rfl))
  | (with_reducible refine ⟨(show List.length _ ≤ sizeLine from Nat.le_of_ble_eq_true (by with_unfolding_all rfl)), ?_⟩)
  | (with_reducible refine ⟨_, rfl, ?_⟩)
  | (with_reducible refine Or.inl ⟨_, rfl, ?_⟩)
  | ((with_reducible refine' ⟨_, _, rfl, Or.inl (SqL.of ?hv), ?_⟩); (case hv => first | assumption | exact upd_same))
  | ((with_reducible refine' ⟨_, _, rfl, Or.inr (SqT.of ?hv), ?_⟩); (case hv => first | assumption | exact upd_same))
  | ((with_reducible refine' g_I ?hc ?_); (case hc => first | (show (0 : Int) < _; omega) | exact Or.inl ⟨by decide, by decide⟩ | exact Or.inr ⟨by decide, by decide⟩ | exact ⟨by decide, by decide +kernel⟩))
  | (with_reducible refine ⟨_, _, rfl, ?_⟩)))
/-- steps of the heap, from its end: tuples stay (k), all stays (s), the deck stands (d), it is drawn from (r), a thing stands beside it (o) -/
local macro_rules | `(tactic| walk_at "k") => `(tactic| first
  | with_reducible assumption
  | with_reducible exact tk_refl
  | ((with_reducible refine tk_step ?_ (by assumption)); walk_at "k")
  | ((with_reducible refine tk_mut ?_ (by assumption)); walk_at "k")
  | ((with_reducible refine tk_same ?_ (by assumption)); walk_at "k")
  | ((with_reducible refine tk_gr ?_ (by assumption) (by walk_at "d")); walk_at "k"))
local macro_rules | `(tactic| walk_at "s") => `(tactic| first
  | with_reducible assumption
  | with_reducible exact Same.refl _
  | ((with_reducible refine same_step ?_ (by assumption)); walk_at "s")
  | ((with_reducible refine Same.trans ?_ (by assumption)); walk_at "s"))
local macro_rules | `(tactic| walk_at "d") => `(tactic| first
  | with_reducible assumption
  | with_reducible exact Gr.at_ (by assumption)
  | ((with_reducible refine dk_step ?_ (by assumption)); walk_at "d")
  | ((with_reducible refine DeckAt.same ?_ (by assumption)); walk_at "d"))
local macro_rules | `(tactic| walk_at "r") => `(tactic| first
  | with_reducible assumption
  | ((with_reducible refine Gr.refl ?_); walk_at "d")
  | ((with_reducible refine Gr.new ?_ (by assumption)); walk_at "r")
  | ((with_reducible refine Gr.mut ?_ (by walk_at "d") (by assumption)); walk_at "r")
  | ((with_reducible refine Gr.same ?_ (by assumption)); walk_at "r")
  | ((with_reducible refine Gr.trans ?_ (by assumption)); walk_at "r"))
local macro_rules | `(tactic| walk_at "o") => `(tactic| first
  | with_reducible assumption
  | (refine Off.new ?_ (by assumption); walk_at "d")
  | ((with_reducible refine Off.step ?_ (by assumption)); walk_at "o")
  | ((with_reducible refine off_same ?_ (by assumption)); walk_at "o")
  | ((with_reducible refine Off.go ?_ (by assumption)); walk_at "o"))

section
variable {P : Program} {w : World} {K : PySem.W.Frag} {mg : Str → Option Value} {base : Heap}
abbrev s__law_one : Stmt := top 23
theorem sc__law_one : FnScope ["deck", "items"] ["deck", "items"] (defScope s__law_one) := ⟨rfl, rfl, rfl, by decide +kernel, rfl, by decide +kernel, by decide +kernel⟩
theorem ok_one (F : Top K mg "_law_one" s__law_one ["deck", "items"]) (T : NoB mg) (G_law_draw : Def P w K mg base "_law_draw" ["deck", "many"] 1 spDraw) : Def P w K mg base "_law_one" ["deck", "items"] 2 spOne := by
  obtain ⟨f, fd, F⟩ := F
  refine F.def sc__law_one (fun vs H Q E h => ?_) (fun cdv A outer s H vs Q E hg hr h => ?_)
  · obtain ⟨D, a, xs, rfl, _⟩ := h
    rfl
  obtain ⟨D, a, xs, rfl, dk, hs, hne, hl, k⟩ := h
  have hpos : 0 < xs.length := List.length_pos_iff.mpr hne
  have nd := sc__law_one.nd
  refine ⟨_, (pss_one (ps_ret (pe_ix ix_seq (pv 1) (DW.pe_def G_law_draw hg (hr.mono (by omega)) rfl (pa_cons (pv 0) (pa_cons (pe_callB call_len_seq (by rfl) T.len (by decide +kernel) (pa_cons (pv 1) pa_nil)) pa_nil))) (fun _ _ => rfl)))), ?_⟩
  have go : ∀ (r : Int) (H' : Hp), 0 ≤ r → r < (xs.length : Int) → Gr D H H' → rIx (cxOf CX0 P w K mg base ["deck", "items"] "_law_one" (defScope s__law_one) f cdv A outer s H E).nox.K (V.ref a) (V.int r) H' Q := by
    intro r H' h0 h1 g
    obtain ⟨v, hv, hm⟩ := atI_some h0 h1
    rcases hs.go g with h | h
    · exact .inl (g_ixL h.1 hv (k v H' hm g))
    · exact .inr (.inl (g_ixT h.1 hv (k v H' hm g)))
  rcases hs with ⟨h1, _⟩ | ⟨h1, _⟩
  · walk_at "g"
    exact ⟨D, _, rfl, dk, by omega, lt200 (by omega) (by omega), go⟩
  · walk_at "g"
    exact ⟨D, _, rfl, dk, by omega, lt200 (by omega) (by omega), go⟩
end
end DW
namespace DW
open PySem PySem.Spec PyProof.Rows L2
/-- the readings, until a question is met -/
local macro_rules | `(tactic| walk_at "g") => `(tactic| repeat (first
  | with_reducible refine g_seq ?_
  | with_reducible refine g_asg ?_
  | with_reducible refine g_name ?_
  | with_reducible refine g_op ?_
  | with_reducible refine g_cons ?_
  | with_reducible refine g_c ?_
  | ((with_reducible refine' g_var ?hv ?_); (case hv => exact rfl))
  | with_reducible refine g_nil ?_
  | with_reducible refine g_I0 ?_
  | with_reducible refine g_cb ?_
  | with_reducible refine g_call ?_
  | with_reducible refine g_callS ?_
  | with_reducible refine g_mkE ?_
  | with_reducible refine g_fld ?_
  | with_reducible refine g_ret ?_
  | with_reducible refine g_retN ?_
  | with_reducible refine g_drop ?_
  | with_reducible refine g_if ?_
  | with_reducible refine g_next ?_
  | with_reducible refine g_un ?_
  | with_reducible refine g_U ?_
  | with_reducible refine g_eqI ?_
  | with_reducible refine g_neI ?_
  | with_reducible refine g_eqS ?_
  | with_reducible refine g_neS ?_
  | with_reducible refine g_tup ?_
  | with_reducible refine g_lst ?_
  | with_reducible refine g_test ?_
  | with_reducible refine g_tif ?_
  | with_reducible refine g_forB ?_
  | with_reducible refine g_forEL ?_
  | with_reducible refine g_forRev ?_
  | with_reducible refine g_for3 ?_
  | with_reducible refine g_B ?_
  | with_reducible refine g_and ?_
  | with_reducible refine g_or ?_
  | with_reducible refine g_not ?_
  | with_reducible refine g_ifE ?_
  | with_reducible refine g_andV ?_
  | with_reducible refine g_orV ?_
  | with_reducible refine g_notV ?_
  | with_reducible refine g_chain ?_
  | with_reducible refine g_chainT ?_
  | with_reducible refine g_no ?_
  | with_reducible refine g_part ?_
  | with_reducible refine g_sl ?_
  | with_reducible refine g_bm ?_
  | with_reducible refine g_bm0 ?_
  | with_reducible refine g_par ?_
  | with_reducible refine g_sub ?_
  | with_reducible refine g_gCons ?_
  | with_reducible refine g_gNil ?_
  | ((with_reducible refine' g_ixL ?hv ?he ?_); (case hv => first | assumption | exact upd_same); (case he => first | exact rfl | exact atI_nat (j := 0) rfl | exact atI_nat (j := 1) rfl | exact atI_nat (j := 2) rfl))
  | ((with_reducible refine' g_ixT ?hv ?he ?_); (case hv => first | assumption | exact upd_same); (case he => first | exact rfl | exact atI_nat (j := 0) rfl | exact atI_nat (j := 1) rfl | exact atI_nat (j := 2) rfl))
  | ((with_reducible refine' g_gTup ?hv ?he ?_); (case hv => first | assumption | exact upd_same); (case he => exact rfl))
  | ((with_reducible refine' g_tyL ?hv ?_); (case hv => first | assumption | exact upd_same))
  | with_reducible refine g_for1 ?_
  | with_reducible refine g_for2 ?_
  | with_reducible refine g_forL ?_
  | with_reducible refine g_forT ?_
  | with_reducible refine g_lc1 ?_
  | with_reducible refine g_lc2 ?_
  | with_reducible refine g_lcL ?_
  | with_reducible refine g_lcT ?_
  | with_reducible refine g_lcE ?_
  | with_reducible refine g_lcZ ?_
  | with_reducible refine g_rev ?_
  | with_reducible refine g_listRg ?_
  | with_reducible refine g_tupRg ?_
  | with_reducible refine g_rg1 ?_
  | with_reducible refine g_ckw ?_
  | with_reducible refine g_rg2 ?_
  | with_reducible refine g_yes ?_
  | with_reducible refine iteT ?_
  | with_reducible refine iteF ?_
  | with_reducible refine g_ifNT ?_
  | with_reducible refine g_ifNF ?_
  | ((with_reducible refine' g_ifC ?hc ?_); (case hc => exact rfl))
  | ((with_reducible refine' g_ifD ?hc ?_); (case hc => exact rfl))
  | (with_reducible refine ⟨(show List.length _ ≤ sizeLine from Nat.le_of_ble_eq_true (by with_unfolding_all rfl)), ?_⟩)
  | (with_reducible refine ⟨_, rfl, ?_⟩)
  | (with_reducible refine Or.inl ⟨_, rfl, ?_⟩)
  | ((with_reducible refine' ⟨_, _, rfl, Or.inl (SqL.of ?hv), ?_⟩); (case hv => first | assumption | exact upd_same))
  | ((with_reducible refine' ⟨_, _, rfl, Or.inr (SqT.of ?hv), ?_⟩); (case hv => first | assumption | exact upd_same))
  | ((with_reducible refine' g_I ?hc ?_); (case hc => first | (show (0 : Int) < _; omega) | exact Or.inl ⟨by decide, by decide⟩ | exact Or.inr ⟨by decide, by decide⟩ | exact ⟨by decide, by decide +kernel⟩))
  | (with_reducible refine ⟨_, _, rfl, ?_⟩)))
/-- steps of the heap, from its end: tuples stay (k), all stays (s), the deck stands (d), it is drawn from (r), a thing stands beside it (o) -/
local macro_rules | `(tactic| walk_at "k") => `(tactic| first
  | with_reducible assumption
  | with_reducible exact tk_refl
  | ((with_reducible refine tk_step ?_ (by assumption)); walk_at "k")
  | ((with_reducible refine tk_mut ?_ (by assumption)); walk_at "k")
  | ((with_reducible refine tk_same ?_ (by assumption)); walk_at "k")
  | ((with_reducible refine tk_gr ?_ (by assumption) (by walk_at "d")); walk_at "k"))
local macro_rules | `(tactic| walk_at "s") => `(tactic| first
  | with_reducible assumption
  | with_reducible exact Same.refl _
  | ((with_reducible refine same_step ?_ (by assumption)); walk_at "s")
  | ((with_reducible refine Same.trans ?_ (by assumption)); walk_at "s"))
local macro_rules | `(tactic| walk_at "d") => `(tactic| first
  | with_reducible assumption
  | with_reducible exact Gr.at_ (by assumption)
  | ((with_reducible refine dk_step ?_ (by assumption)); walk_at "d")
  | ((with_reducible refine DeckAt.same ?_ (by assumption)); walk_at "d"))
local macro_rules | `(tactic| walk_at "r") => `(tactic| first
  | with_reducible assumption
  | ((with_reducible refine Gr.refl ?_); walk_at "d")
  | ((with_reducible refine Gr.new ?_ (by assumption)); walk_at "r")
  | ((with_reducible refine Gr.mut ?_ (by walk_at "d") (by assumption)); walk_at "r")
  | ((with_reducible refine Gr.same ?_ (by assumption)); walk_at "r")
  | ((with_reducible refine Gr.trans ?_ (by assumption)); walk_at "r"))
local macro_rules | `(tactic| walk_at "o") => `(tactic| first
  | with_reducible assumption
  | (refine Off.new ?_ (by assumption); walk_at "d")
  | ((with_reducible refine Off.step ?_ (by assumption)); walk_at "o")
  | ((with_reducible refine off_same ?_ (by assumption)); walk_at "o")
  | ((with_reducible refine Off.go ?_ (by assumption)); walk_at "o"))

section
variable {P : Program} {w : World} {K : PySem.W.Frag} {mg : Str → Option Value} {base : Heap}
abbrev s__law_mixed : Stmt := top 24
theorem sc__law_mixed : FnScope ["deck", "items", "rest", "found", "turn"] ["deck", "items"] (defScope s__law_mixed) := ⟨rfl, rfl, rfl, by decide +kernel, rfl, by decide +kernel, by decide +kernel⟩
theorem ok_mixed (F : Top K mg "_law_mixed" s__law_mixed ["deck", "items"]) (T : NoB mg) (G_law_draw : Def P w K mg base "_law_draw" ["deck", "many"] 1 spDraw) : Def P w K mg base "_law_mixed" ["deck", "items"] 2 spMixed := by
  obtain ⟨f, fd, F⟩ := F
  refine F.def sc__law_mixed (fun vs H Q E h => ?_) (fun cdv A outer s H vs Q E hg hr h => ?_)
  · obtain ⟨D, a, xs, rfl, _⟩ := h
    rfl
  obtain ⟨D, a, xs, rfl, dk, hs, hl, k⟩ := h
  have nd := sc__law_mixed.nd
  refine ⟨_, (pss_cons (ps_par (i := 2) (j := 3) rfl nd rfl rfl (by decide) rfl rfl (pa_cons (pe_callTy call_list_of (by rfl) T.list (by decide +kernel) (pa_cons (pv 1) pa_nil)) (pa_cons (pe_lst pa_nil) pa_nil)) (by rfl))
      (pss_cons (ps_for PassesOwn.never rfl (pi_range1 rfl T.range (pa_cons (pe_callB call_len_seq (by rfl) T.len (by decide +kernel) (pa_cons (pv 1) pa_nil)) pa_nil)) (pg_name (i := 4) nd rfl (Or.inl rfl)) (pss_one (ps_expr (pe_bm PySem.F.plainAttrs_list PySem.F.slot_list_append PySem.F.type_list_append mt_append (pv 3) (pa_cons (pe_bm PySem.F.plainAttrs_list PySem.F.slot_list_pop PySem.F.type_list_pop mt_popAt (pv 2) (pa_cons (DW.pe_def G_law_draw hg (hr.mono (by omega)) rfl (pa_cons (pv 0) (pa_cons (pe_callB call_len_seq (by rfl) T.len (by decide +kernel) (pa_cons (pv 2) pa_nil)) pa_nil))) pa_nil)) pa_nil)))))
      (pss_one (ps_ret (pv 3))))), ?_⟩
  walk_at "g"
  refine ⟨a, xs, rfl, hs.sq, fun r hr0 => ?_⟩
  walk_at "g"
  intro q hq0
  obtain ⟨hqr, hq1⟩ := of_upd_none hq0
  have g2 : Gr D H (L2.upd (L2.upd H r (.lst xs)) q (.lst [])) := ((Gr.refl dk).new hr0).new hq0
  obtain ⟨r0, r1, _⟩ := dk.ne hr0
  obtain ⟨q0, q1, _⟩ := dk.ne hq1
  walk_at "g"
  refine ⟨a, xs, rfl, (hs.go g2).sq, ?_⟩
  walk_at "g"
  refine ⟨by omega, by omega, ?_⟩
  refine f_range (fun i σ H' => ∃ (ys zs : List V) (v4 : Option V), σ = [some (.ref D.dk), some (.ref a), some (.ref r), some (.ref q), v4] ∧ Gr D H H' ∧ H' r = some (.lst ys) ∧ H' q = some (.lst zs) ∧ xs.Perm (zs ++ ys) ∧ zs.length = i)
    ⟨xs, [], none, rfl, g2, by rw [upd_ne hqr.symm, upd_same], upd_same, List.Perm.refl _, rfl⟩ ?_ ?_
  · rintro i σ H' hi ⟨ys, zs, v4, rfl, g, h1, h2, hp, hz⟩
    have hlen := hp.length_eq
    rw [List.length_append] at hlen
    walk_at "g"
    refine ⟨D, _, rfl, g.at_, by omega, lt200 (by omega) (by omega), fun j H3 hj0 hj1 g3 => ?_⟩
    obtain ⟨jn, rfl⟩ : ∃ jn : Nat, j = (jn : Int) := ⟨j.toNat, by omega⟩
    have hjn : jn < ys.length := by omega
    have e1 := g3.keep _ _ h1 r0 r1
    have e2 := g3.keep _ _ h2 q0 q1
    walk_at "g"
    refine g_popAt e1 rfl (List.getElem?_eq_getElem hjn) (by omega) ?_
    walk_at "g"
    have e3 := (upd_ne (o := .lst (ys.eraseIdx jn)) hqr).trans e2
    refine g_app e3 (by omega) ?_
    have g4 := ((g.trans g3).mut dk hr0 (o := .lst (ys.eraseIdx jn))).mut dk hq1 (o := .lst (zs ++ [ys[jn]]))
    refine ⟨ys.eraseIdx jn, zs ++ [ys[jn]], _, rfl, g4, ?_, upd_same, ?_, by rw [List.length_append, hz]; rfl⟩
    · rw [upd_ne hqr.symm, upd_same]
    · rw [List.append_assoc]
      exact hp.trans (List.Perm.append_left zs (perm_erase hjn).symm)
  · rintro σ H' ⟨ys, zs, v4, rfl, g, h1, h2, hp, hz⟩
    have hlen := hp.length_eq
    rw [List.length_append] at hlen
    have hy : ys = [] := List.eq_nil_of_length_eq_zero (by omega)
    subst hy
    rw [List.append_nil] at hp
    walk_at "g"
    exact k q zs H' hp hq1 ⟨h2, q0, q1, dk.isno hq1⟩ g
end
end DW
namespace DW
open PySem PySem.Spec PyProof.Rows L2
/-- the readings, until a question is met -/
local macro_rules | `(tactic| walk_at "g") => `(tactic| repeat (first
  | with_reducible refine g_seq ?_
  | with_reducible refine g_asg ?_
  | with_reducible refine g_name ?_
  | with_reducible refine g_op ?_
  | with_reducible refine g_cons ?_
  | with_reducible refine g_c ?_
  | ((with_reducible refine' g_var ?hv ?_); (case hv => exact rfl))
  | with_reducible refine g_nil ?_
  | with_reducible refine g_I0 ?_
  | with_reducible refine g_cb ?_
  | with_reducible refine g_call ?_
  | with_reducible refine g_callS ?_
  | with_reducible refine g_mkE ?_
  | with_reducible refine g_fld ?_
  | with_reducible refine g_ret ?_
  | with_reducible refine g_retN ?_
  | with_reducible refine g_drop ?_
  | with_reducible refine g_if ?_
  | with_reducible refine g_next ?_
  | with_reducible refine g_un ?_
  | with_reducible refine g_U ?_
  | with_reducible refine g_eqI ?_
  | with_reducible refine g_neI ?_
  | with_reducible refine g_eqS ?_
  | with_reducible refine g_neS ?_
  | with_reducible refine g_tup ?_
  | with_reducible refine g_lst ?_
  | with_reducible refine g_test ?_
  | with_reducible refine g_tif ?_
  | with_reducible refine g_forB ?_
  | with_reducible refine g_forEL ?_
  | with_reducible refine g_forRev ?_
  | with_reducible refine g_for3 ?_
  | with_reducible refine g_B ?_
  | with_reducible refine g_and ?_
  | with_reducible refine g_or ?_
  | with_reducible refine g_not ?_
  | with_reducible refine g_ifE ?_
  | with_reducible refine g_andV ?_
  | with_reducible refine g_orV ?_
  | with_reducible refine g_notV ?_
  | with_reducible refine g_chain ?_
  | with_reducible refine g_chainT ?_
  | with_reducible refine g_no ?_
  | with_reducible refine g_part ?_
  | with_reducible refine g_sl ?_
  | with_reducible refine g_bm ?_
  | with_reducible refine g_bm0 ?_
  | with_reducible refine g_par ?_
  | with_reducible refine g_sub ?_
  | with_reducible refine g_gCons ?_
  | with_reducible refine g_gNil ?_
  | ((with_reducible refine' g_ixL ?hv ?he ?_); (case hv => first | assumption | exact upd_same); (case he => first | exact rfl | exact atI_nat (j := 0) rfl | exact atI_nat (j := 1) rfl | exact atI_nat (j := 2) rfl))
  | ((with_reducible refine' g_ixT ?hv ?he ?_); (case hv => first | assumption | exact upd_same); (case he => first | exact rfl | exact atI_nat (j := 0) rfl | exact atI_nat (j := 1) rfl | exact atI_nat (j := 2) rfl))
  | ((with_reducible refine' g_gTup ?hv ?he ?_); (case hv => first | assumption | exact upd_same); (case he => exact rfl))
  | ((with_reducible refine' g_tyL ?hv ?_); (case hv => first | assumption | exact upd_same))
  | with_reducible refine g_for1 ?_
  | with_reducible refine g_for2 ?_
  | with_reducible refine g_forL ?_
  | with_reducible refine g_forT ?_
  | with_reducible refine g_lc1 ?_
  | with_reducible refine g_lc2 ?_
  | with_reducible refine g_lcL ?_
  | with_reducible refine g_lcT ?_
  | with_reducible refine g_lcE ?_
  | with_reducible refine g_lcZ ?_
  | with_reducible refine g_rev ?_
  | with_reducible refine g_listRg ?_
  | with_reducible refine g_tupRg ?_
  | with_reducible refine g_rg1 ?_
  | with_reducible refine g_ckw ?_
  | with_reducible refine g_rg2 ?_
  | with_reducible refine g_yes ?_
  | with_reducible refine iteT ?_
  | with_reducible refine iteF ?_
  | with_reducible refine g_ifNT ?_
  | with_reducible refine g_ifNF ?_
  | ((with_reducible refine' g_ifC ?hc ?_); (case hc => exact rfl))
  | ((with_reducible refine' g_ifD ?hc ?_); (case hc => exact rfl))
  | (with_reducible refine ⟨(show List.length _ ≤ sizeLine from Nat.le_of_ble_eq_true (by with_unfolding_all rfl)), ?_⟩)
  | (with_reducible refine ⟨_, rfl, ?_⟩)
  | (with_reducible refine Or.inl ⟨_, rfl, ?_⟩)
  | ((with_reducible refine' ⟨_, _, rfl, Or.inl (SqL.of ?hv), ?_⟩); (case hv => first | assumption | exact upd_same))
  | ((with_reducible refine' ⟨_, _, rfl, Or.inr (SqT.of ?hv), ?_⟩); (case hv => first | assumption | exact upd_same))
  | ((with_reducible refine' g_I ?hc ?_); (case hc => first | (show (0 : Int) < _; omega) | exact Or.inl ⟨by decide, by decide⟩ | exact Or.inr ⟨by decide, by decide⟩ | exact ⟨by decide, by decide +kernel⟩))
  | (with_reducible refine ⟨_, _, rfl, ?_⟩)))
/-- steps of the heap, from its end: tuples stay (k), all stays (s), the deck stands (d), it is drawn from (r), a thing stands beside it (o) -/
local macro_rules | `(tactic| walk_at "k") => `(tactic| first
  | with_reducible assumption
  | with_reducible exact tk_refl
  | ((with_reducible refine tk_step ?_ (by assumption)); walk_at "k")
  | ((with_reducible refine tk_mut ?_ (by assumption)); walk_at "k")
  | ((with_reducible refine tk_same ?_ (by assumption)); walk_at "k")
  | ((with_reducible refine tk_gr ?_ (by assumption) (by walk_at "d")); walk_at "k"))
local macro_rules | `(tactic| walk_at "s") => `(tactic| first
  | with_reducible assumption
  | with_reducible exact Same.refl _
  | ((with_reducible refine same_step ?_ (by assumption)); walk_at "s")
  | ((with_reducible refine Same.trans ?_ (by assumption)); walk_at "s"))
local macro_rules | `(tactic| walk_at "d") => `(tactic| first
  | with_reducible assumption
  | with_reducible exact Gr.at_ (by assumption)
  | ((with_reducible refine dk_step ?_ (by assumption)); walk_at "d")
  | ((with_reducible refine DeckAt.same ?_ (by assumption)); walk_at "d"))
local macro_rules | `(tactic| walk_at "r") => `(tactic| first
  | with_reducible assumption
  | ((with_reducible refine Gr.refl ?_); walk_at "d")
  | ((with_reducible refine Gr.new ?_ (by assumption)); walk_at "r")
  | ((with_reducible refine Gr.mut ?_ (by walk_at "d") (by assumption)); walk_at "r")
  | ((with_reducible refine Gr.same ?_ (by assumption)); walk_at "r")
  | ((with_reducible refine Gr.trans ?_ (by assumption)); walk_at "r"))
local macro_rules | `(tactic| walk_at "o") => `(tactic| first
  | with_reducible assumption
  | (refine Off.new ?_ (by assumption); walk_at "d")
  | ((with_reducible refine Off.step ?_ (by assumption)); walk_at "o")
  | ((with_reducible refine off_same ?_ (by assumption)); walk_at "o")
  | ((with_reducible refine Off.go ?_ (by assumption)); walk_at "o"))

section
variable {P : Program} {w : World} {K : PySem.W.Frag} {mg : Str → Option Value} {base : Heap}
abbrev s__law_watch : Stmt := top 30
theorem sc__law_watch : FnScope ["deck", "turns", "turn"] ["deck", "turns"] (defScope s__law_watch) := ⟨rfl, rfl, rfl, by decide +kernel, rfl, by decide +kernel, by decide +kernel⟩
theorem ok_watch (F : Top K mg "_law_watch" s__law_watch ["deck", "turns"]) (T : NoB mg) (G_law_draw : Def P w K mg base "_law_draw" ["deck", "many"] 1 spDraw) (G_law_one : Def P w K mg base "_law_one" ["deck", "items"] 2 spOne) : Def P w K mg base "_law_watch" ["deck", "turns"] 3 spWatch := by
  obtain ⟨f, fd, F⟩ := F
  refine F.def sc__law_watch (fun vs H Q E h => ?_) (fun cdv A outer s H vs Q E hg hr h => ?_)
  · obtain ⟨D, a, ts, rfl, _⟩ := h
    rfl
  obtain ⟨D, a, ts, rfl, dk, hs, hne, hl, ht, k⟩ := h
  have nd := sc__law_watch.nd
  refine ⟨_, (pss_cons (ps_set (i := 2) nd rfl (Or.inl rfl) (DW.pe_def G_law_one hg (hr.mono (by omega)) rfl (pa_cons (pv 0) (pa_cons (pv 1) pa_nil))))
      (pss_one (ps_ret (pe_tup (pa_cons (pv 2) (pa_cons (DW.pe_def G_law_draw hg (hr.mono (by omega)) rfl (pa_cons (pv 0) (pa_cons (pv 2) pa_nil))) pa_nil)))))), ?_⟩
  walk_at "g"
  refine ⟨D, a, ts.map V.int, rfl, dk, hs, by simpa using hne, by simpa using hl, fun v H' hv g => ?_⟩
  obtain ⟨t, hm, rfl⟩ := List.mem_map.mp hv
  walk_at "g"
  refine ⟨D, t, rfl, g.at_, (ht t hm).1, (ht t hm).2, fun r H2 h0 h1 g2 => ?_⟩
  walk_at "g"
  intro p hp
  exact k p t r _ hm h0 h1 upd_same ((g.trans g2).new hp)
end
end DW
namespace DW
open PySem PySem.Spec PyProof.Rows L2
/-- the readings, until a question is met -/
local macro_rules | `(tactic| walk_at "g") => `(tactic| repeat (first
  | with_reducible refine g_seq ?_
  | with_reducible refine g_asg ?_
  | with_reducible refine g_name ?_
  | with_reducible refine g_op ?_
  | with_reducible refine g_cons ?_
  | with_reducible refine g_c ?_
  | ((with_reducible refine' g_var ?hv ?_); (case hv => exact rfl))
  | with_reducible refine g_nil ?_
  | with_reducible refine g_I0 ?_
  | with_reducible refine g_cb ?_
  | with_reducible refine g_call ?_
  | with_reducible refine g_callS ?_
  | with_reducible refine g_mkE ?_
  | with_reducible refine g_fld ?_
  | with_reducible refine g_ret ?_
  | with_reducible refine g_retN ?_
  | with_reducible refine g_drop ?_
  | with_reducible refine g_if ?_
  | with_reducible refine g_next ?_
  | with_reducible refine g_un ?_
  | with_reducible refine g_U ?_
  | with_reducible refine g_eqI ?_
  | with_reducible refine g_neI ?_
  | with_reducible refine g_eqS ?_
  | with_reducible refine g_neS ?_
  | with_reducible refine g_tup ?_
  | with_reducible refine g_lst ?_
  | with_reducible refine g_test ?_
  | with_reducible refine g_tif ?_
  | with_reducible refine g_forB ?_
  | with_reducible refine g_forEL ?_
  | with_reducible refine g_forRev ?_
  | with_reducible refine g_for3 ?_
  | with_reducible refine g_B ?_
  | with_reducible refine g_and ?_
  | with_reducible refine g_or ?_
  | with_reducible refine g_not ?_
  | with_reducible refine g_ifE ?_
  | with_reducible refine g_andV ?_
  | with_reducible refine g_orV ?_
  | with_reducible refine g_notV ?_
  | with_reducible refine g_chain ?_
  | with_reducible refine g_chainT ?_
  | with_reducible refine g_no ?_
  | with_reducible refine g_part ?_
  | with_reducible refine g_sl ?_
  | with_reducible refine g_bm ?_
  | with_reducible refine g_bm0 ?_
  | with_reducible refine g_par ?_
  | with_reducible refine g_sub ?_
  | with_reducible refine g_gCons ?_
  | with_reducible refine g_gNil ?_
  | ((with_reducible refine' g_ixL ?hv ?he ?_); (case hv => first | assumption | exact upd_same); (case he => first | exact rfl | exact atI_nat (j := 0) rfl | exact atI_nat (j := 1) rfl | exact atI_nat (j := 2) rfl))
  | ((with_reducible refine' g_ixT ?hv ?he ?_); (case hv => first | assumption | exact upd_same); (case he => first | exact rfl | exact atI_nat (j := 0) rfl | exact atI_nat (j := 1) rfl | exact atI_nat (j := 2) rfl))
  | ((with_reducible refine' g_gTup ?hv ?he ?_); (case hv => first | assumption | exact upd_same); (case he => exact rfl))
  | ((with_reducible refine' g_tyL ?hv ?_); (case hv => first | assumption | exact upd_same))
  | with_reducible refine g_for1 ?_
  | with_reducible refine g_for2 ?_
  | with_reducible refine g_forL ?_
  | with_reducible refine g_forT ?_
  | with_reducible refine g_lc1 ?_
  | with_reducible refine g_lc2 ?_
  | with_reducible refine g_lcL ?_
  | with_reducible refine g_lcT ?_
  | with_reducible refine g_lcE ?_
  | with_reducible refine g_lcZ ?_
  | with_reducible refine g_rev ?_
  | with_reducible refine g_listRg ?_
  | with_reducible refine g_tupRg ?_
  | with_reducible refine g_rg1 ?_
  | with_reducible refine g_ckw ?_
  | with_reducible refine g_rg2 ?_
  | with_reducible refine g_yes ?_
  | with_reducible refine iteT ?_
  | with_reducible refine iteF ?_
  | with_reducible refine g_ifNT ?_
  | with_reducible refine g_ifNF ?_
  | ((with_reducible refine' g_ifC ?hc ?_); (case hc => exact rfl))
  | ((with_reducible refine' g_ifD ?hc ?_); (case hc => exact rfl))
  | (with_reducible refine ⟨(show List.length _ ≤ sizeLine from Nat.le_of_ble_eq_true (by with_unfolding_all rfl)), ?_⟩)
  | (with_reducible refine ⟨_, rfl, ?_⟩)
  | (with_reducible refine Or.inl ⟨_, rfl, ?_⟩)
  | ((with_reducible refine' ⟨_, _, rfl, Or.inl (SqL.of ?hv), ?_⟩); (case hv => first | assumption | exact upd_same))
  | ((with_reducible refine' ⟨_, _, rfl, Or.inr (SqT.of ?hv), ?_⟩); (case hv => first | assumption | exact upd_same))
  | ((with_reducible refine' g_I ?hc ?_); (case hc => first | (show (0 : Int) < _; omega) | exact Or.inl ⟨by decide, by decide⟩ | exact Or.inr ⟨by decide, by decide⟩ | exact ⟨by decide, by decide +kernel⟩))
  | (with_reducible refine ⟨_, _, rfl, ?_⟩)))
/-- steps of the heap, from its end: tuples stay (k), all stays (s), the deck stands (d), it is drawn from (r), a thing stands beside it (o) -/
local macro_rules | `(tactic| walk_at "k") => `(tactic| first
  | with_reducible assumption
  | with_reducible exact tk_refl
  | ((with_reducible refine tk_step ?_ (by assumption)); walk_at "k")
  | ((with_reducible refine tk_mut ?_ (by assumption)); walk_at "k")
  | ((with_reducible refine tk_same ?_ (by assumption)); walk_at "k")
  | ((with_reducible refine tk_gr ?_ (by assumption) (by walk_at "d")); walk_at "k"))
local macro_rules | `(tactic| walk_at "s") => `(tactic| first
  | with_reducible assumption
  | with_reducible exact Same.refl _
  | ((with_reducible refine same_step ?_ (by assumption)); walk_at "s")
  | ((with_reducible refine Same.trans ?_ (by assumption)); walk_at "s"))
local macro_rules | `(tactic| walk_at "d") => `(tactic| first
  | with_reducible assumption
  | with_reducible exact Gr.at_ (by assumption)
  | ((with_reducible refine dk_step ?_ (by assumption)); walk_at "d")
  | ((with_reducible refine DeckAt.same ?_ (by assumption)); walk_at "d"))
local macro_rules | `(tactic| walk_at "r") => `(tactic| first
  | with_reducible assumption
  | ((with_reducible refine Gr.refl ?_); walk_at "d")
  | ((with_reducible refine Gr.new ?_ (by assumption)); walk_at "r")
  | ((with_reducible refine Gr.mut ?_ (by walk_at "d") (by assumption)); walk_at "r")
  | ((with_reducible refine Gr.same ?_ (by assumption)); walk_at "r")
  | ((with_reducible refine Gr.trans ?_ (by assumption)); walk_at "r"))
local macro_rules | `(tactic| walk_at "o") => `(tactic| first
  | with_reducible assumption
  | (refine Off.new ?_ (by assumption); walk_at "d")
  | ((with_reducible refine Off.step ?_ (by assumption)); walk_at "o")
  | ((with_reducible refine off_same ?_ (by assumption)); walk_at "o")
  | ((with_reducible refine Off.go ?_ (by assumption)); walk_at "o"))

section
variable {P : Program} {w : World} {K : PySem.W.Frag} {mg : Str → Option Value} {base : Heap}
abbrev s__law_grown : Stmt := top 31
theorem sc__law_grown : FnScope ["deck", "most", "lot", "step", "at", "parts", "turn", "first", "k"] ["deck", "most"] (defScope s__law_grown) := ⟨rfl, rfl, rfl, by decide +kernel, rfl, by decide +kernel, by decide +kernel⟩
theorem split_ok {t f m : Int} {k : Nat} (h : WOk (t, f)) (hk : (k : Int) < m) (hm : t * m < 61) : WOk (t * m, f + (k : Int) * t) := by
  obtain ⟨h1, h2, h3, h4⟩ := h
  have h1' : 1 ≤ t := h1
  have h3' : 0 ≤ f := h3
  have h4' : f < t := h4
  have a1 : ((k : Int) + 1) * t ≤ m * t := Int.mul_le_mul_of_nonneg_right (by omega) (by omega)
  have a2 : 0 ≤ (k : Int) * t := Int.mul_nonneg (by omega) (by omega)
  have a3 : ((k : Int) + 1) * t = (k : Int) * t + t := by rw [Int.add_mul, Int.one_mul]
  have a4 : m * t = t * m := Int.mul_comm _ _
  have a5 : 1 * t ≤ m * t := Int.mul_le_mul_of_nonneg_right (by omega) (by omega)
  exact ⟨by show 1 ≤ t * m; omega, by show t * m ≤ _; omega, by show 0 ≤ f + (k : Int) * t; omega, by show f + (k : Int) * t < t * m; omega⟩
theorem ok_grown (F : Top K mg "_law_grown" s__law_grown ["deck", "most"]) (T : NoB mg) (G_law_draw : Def P w K mg base "_law_draw" ["deck", "many"] 1 spDraw) (G_law_one : Def P w K mg base "_law_one" ["deck", "items"] 2 spOne) (G_law_mixed : Def P w K mg base "_law_mixed" ["deck", "items"] 2 spMixed) : Def P w K mg base "_law_grown" ["deck", "most"] 3 (spLot fun lot => (∀ p ∈ lot, p.1 ≤ 60) ∧ lot ≠ []) := by
  obtain ⟨f, fd, F⟩ := F
  refine F.def sc__law_grown (fun vs H Q E h => ?_) (fun cdv A outer s H vs Q E hg hr h => ?_)
  · obtain ⟨D, n, rfl, _⟩ := h
    rfl
  obtain ⟨D, n, rfl, dk, hn1, hn2, k⟩ := h
  have nd := sc__law_grown.nd
  refine ⟨_, (pss_cons (ps_set (i := 2) nd rfl (Or.inl rfl) (pe_lst (pa_cons (pe_tup (pa_cons pe_int (pa_cons pe_int pa_nil))) pa_nil)))
      (pss_cons (ps_for PassesOwn.never rfl (pi_range1 rfl T.range (pa_cons (DW.pe_def G_law_draw hg (hr.mono (by omega)) rfl (pa_cons (pv 0) (pa_cons pe_int pa_nil))) pa_nil)) (pg_name (i := 3) nd rfl (Or.inl rfl)) (pss_cons (ps_asg (pe_tup (pa_cons (DW.pe_def G_law_draw hg (hr.mono (by omega)) rfl (pa_cons (pv 0) (pa_cons (pe_callB call_len_seq (by rfl) T.len (by decide +kernel) (pa_cons (pv 2) pa_nil)) pa_nil))) (pa_cons (DW.pe_def G_law_one hg (hr.mono (by omega)) rfl (pa_cons (pv 0) (pa_cons (pe_lst (pa_cons pe_int (pa_cons pe_int (pa_cons pe_int (pa_cons pe_int (pa_cons pe_int pa_nil)))))) pa_nil))) pa_nil))) (pg_tup rfl (pgs_cons (pg_name (i := 4) nd rfl (Or.inl rfl)) (pgs_cons (pg_name (i := 5) nd rfl (Or.inr rfl)) pgs_nil))))
      (pss_cons (ps_asg (pe_ix ix_list (pv 2) (pv 4) (fun _ _ => rfl)) (pg_tup rfl (pgs_cons (pg_name (i := 6) nd rfl (Or.inr rfl)) (pgs_cons (pg_name (i := 7) nd rfl (Or.inr rfl)) pgs_nil))))
      (pss_one (ps_if (PW.pt (pw_and (pt_cmpR op_le (pe_op op_sub (pe_op op_add (pe_callB call_len_seq (by rfl) T.len (by decide +kernel) (pa_cons (pv 2) pa_nil)) (pv 5)) pe_int) (pv 1) (nomark _)) (pw_and1 (pt_cmpR op_lt (pe_op op_mul (pv 6) (pv 5)) pe_int (nomark _))))) (pss_one (ps_set (i := 2) nd rfl (Or.inl rfl) (pe_op op_cat (pe_op op_cat (pe_slice sl_list (pv 2) po_none (po_some (pv 4))) (pe_lc (own := [("k", 8)]) rfl nd (pi_range1 rfl T.range (pa_cons (pv 5) pa_nil)) (blkOk_by (own := [("k", 8)]) (N := ["deck", "most", "lot", "step", "at", "parts", "turn", "first", "k"]) (sc := defScope s__law_grown) (by decide +kernel)) (fun _ _ _ _ _ => (pg_name (i := 8) nd rfl (Or.inl rfl))) (fun _ _ _ _ _ => pts_nil) (fun _ _ _ _ _ => (pe_tup (pa_cons (pe_op op_mul (pv 6) (pv 5)) (pa_cons (pe_op op_add (pv 7) (pe_op op_mul (pv 8) (pv 6))) pa_nil)))))) (pe_slice sl_list (pv 2) (po_some (pe_op op_add (pv 4) pe_int)) po_none)))) pss_nil)))))
      (pss_one (ps_ret (pe_callTy call_tuple_of (by rfl) T.tuple (by decide +kernel) (pa_cons (DW.pe_def G_law_mixed hg (hr.mono (by omega)) rfl (pa_cons (pv 0) (pa_cons (pv 2) pa_nil))) pa_nil)))))), ?_⟩
  have g := Gr.refl dk
  walk_at "g"
  intro p0 hp0
  have g := g.new (o := .tup [V.int 1, V.int 0]) hp0
  walk_at "g"
  intro l0 hl0
  have nl0 := g.free dk hl0
  have pr0 : PairsAt (L2.upd (L2.upd H p0 (.tup [V.int 1, V.int 0])) l0 (.lst [.ref p0])) [.ref p0] [((1 : Int), (0 : Int))] := PairsAt.one ⟨p0, rfl, TupKeep.upd hl0 _ _ upd_same⟩
  have g := g.new (o := .lst [.ref p0]) hl0
  obtain ⟨l00, l01, _⟩ := dk.ne nl0
  walk_at "g"
  refine ⟨D, 6, rfl, g.at_, by decide, by decide, fun r H1 hr0 hr1 g1 => ?_⟩
  have e1 := g1.keep _ _ upd_same l00 l01
  have pr0 := pr0.go (g1.tk g.at_)
  have g := g.trans g1
  walk_at "g"
  refine ⟨by omega, by omega, ?_⟩
  refine f_range (fun i σ H' => ∃ (l : Addr) (vs : List V) (ps : List (Int × Int)) (v3 v4 v5 v6 v7 v8 : Option V), σ = [some (.ref D.dk), some (.int n), some (.ref l), v3, v4, v5, v6, v7, v8] ∧ Gr D H H' ∧ Off D H' l (.lst vs) ∧ PairsAt H' vs ps ∧ (ps.length : Int) ≤ n ∧ ps ≠ [] ∧ ∀ p ∈ ps, WOk p ∧ p.1 ≤ 60)
    ⟨l0, _, _, none, none, none, none, none, none, rfl, g, ⟨e1, l00, l01, dk.isno nl0⟩, pr0, by show (1 : Int) ≤ n; omega, by simp, fun p hp => by rw [List.mem_singleton.mp hp]; exact ⟨⟨by decide, by decide, by decide, by decide⟩, by decide⟩⟩ ?_ ?_
  · rintro i σ H' hi ⟨l, vs, ps, v3, v4, v5, v6, v7, v8, rfl, g, off, pr, hpl, hne, hok⟩
    have hvl := pr.len
    have hpos : 0 < ps.length := List.length_pos_iff.mpr hne
    have e1 := off.1
    walk_at "g"
    refine ⟨D, _, rfl, g.at_, by omega, lt200 (by omega) (by omega), fun j H2 hj0 hj1 g2 => ?_⟩
    obtain ⟨jn, rfl⟩ : ∃ jn : Nat, j = (jn : Int) := ⟨j.toNat, by omega⟩
    have hjn : jn < vs.length := by omega
    have off := off.go g2
    have pr := pr.go (g2.tk g.at_)
    have g := g.trans g2
    walk_at "g"
    intro a0 ha0
    have offa := Off.new (o := .lst [V.int 2, V.int 2, V.int 3, V.int 4, V.int 5]) g.at_ ha0
    have off := off.step (u := .lst [V.int 2, V.int 2, V.int 3, V.int 4, V.int 5]) ha0
    have pr := pr.new (o := .lst [V.int 2, V.int 2, V.int 3, V.int 4, V.int 5]) ha0
    have g := g.new (o := .lst [V.int 2, V.int 2, V.int 3, V.int 4, V.int 5]) ha0
    walk_at "g"
    refine ⟨D, a0, _, rfl, g.at_, .inl offa, by simp, by show 5 ≤ 100000; decide, fun v H3 hv g3 => ?_⟩
    obtain ⟨m, rfl, hm0, hm1⟩ : ∃ m : Int, v = .int m ∧ 2 ≤ m ∧ m ≤ 5 := by
      simp only [List.mem_cons, List.not_mem_nil, or_false] at hv
      rcases hv with rfl | rfl | rfl | rfl | rfl
      all_goals exact ⟨_, rfl, by decide, by decide⟩
    have off := off.go g3
    have pr := pr.go (g3.tk g.at_)
    have g := g.trans g3
    walk_at "g"
    intro t0 ht0
    have off := off.step (u := .tup [V.int (jn : Int), V.int m]) ht0
    have pr := pr.new (o := .tup [V.int (jn : Int), V.int m]) ht0
    have g := g.new (o := .tup [V.int (jn : Int), V.int m]) ht0
    walk_at "g"
    obtain ⟨⟨t, f'⟩, hp, a, hva, hat⟩ := pr.get (List.getElem?_eq_getElem hjn)
    have e1 := off.1
    refine g_ixL e1 (atI_nat (List.getElem?_eq_getElem hjn)) ?_
    rw [hva]
    have hw := (hok _ (List.mem_of_getElem? hp)).1
    have hw60 := (hok _ (List.mem_of_getElem? hp)).2
    have hw1 : 1 ≤ t := hw.1
    have hw2 : t ≤ 60 := hw60
    refine g_gTup hat rfl ?_
    walk_at "g"
    refine ite2 (fun h => ?_) (fun h => ?_)
    · have hlen : (vs.length : Int) + m - 1 ≤ n := by simpa using h
      walk_at "g"
      refine g_I (.inl ⟨by omega, by omega⟩) ?_
      walk_at "g"
      refine ite2 (fun h => ?_) (fun h => ?_)
      · have htm : t * m < 61 := by simpa using h
        walk_at "g"
        refine ⟨l, vs, rfl, SqL.of e1, fun s1 hs1 => ?_⟩
        rw [cut_take]
        have e1 := same_new (o := .lst (vs.take jn)) hs1 _ _ e1
        have pr := pr.new (o := .lst (vs.take jn)) hs1
        have g := g.new (o := .lst (vs.take jn)) hs1
        have es1 := (upd_same : L2.upd (L2.upd H3 t0 (.tup [V.int (jn : Int), V.int m])) s1 (.lst (vs.take jn)) s1 = _)
        generalize hHb : L2.upd (L2.upd H3 t0 (.tup [V.int (jn : Int), V.int m])) s1 (.lst (vs.take jn)) = Hb at e1 pr g es1 ⊢
        walk_at "g"
        refine ⟨by omega, by omega, ?_⟩
        refine c_range (fun L i H' => ∃ us qs, H' L = some (.lst us) ∧ PairsAt H' us qs ∧ qs.length = i ∧ (∀ p ∈ qs, WOk p ∧ p.1 ≤ 60) ∧ Gr D Hb H' ∧ Same Hb H' ∧ Hb L = none)
          (fun L hL => ⟨[], [], upd_same, .nil, rfl, (fun _ h => nomatch h), (Gr.refl g.at_).new hL, same_new hL, hL⟩) ?_ ?_
        · rintro L i' H' hi' ⟨us, qs, u1, u2, u3, u4, g4, s4, nL⟩
          have e0 : ((0 : Int) + (i' : Int)) = (i' : Int) := Int.zero_add _
          have hul := u2.len
          walk_at "g"
          refine ⟨rfl, ?_⟩
          walk_at "g"
          refine g_I (.inl ⟨by omega, by omega⟩) ?_
          walk_at "g"
          refine g_I (.inr ⟨by omega, by omega⟩) ?_
          rw [e0]
          walk_at "g"
          intro p hp
          have u1' := same_new (o := .tup [V.int (t * m), V.int (f' + (i' : Int) * t)]) hp _ _ u1
          have u2' := u2.new (o := .tup [V.int (t * m), V.int (f' + (i' : Int) * t)]) hp
          have np := s4.free hp
          refine ⟨us, u1', small (by omega), us ++ [.ref p], qs ++ [(t * m, f' + (i' : Int) * t)], upd_same, (u2'.app (PairsAt.one ⟨p, rfl, upd_same⟩)).mut u1', by rw [List.length_append, u3]; rfl, fun x hx => ?_,
            (g4.new (o := .tup [V.int (t * m), V.int (f' + (i' : Int) * t)]) hp).mut g.at_ nL, same_mut (same_mut s4 np) nL, nL⟩
          rcases List.mem_append.mp hx with hx | hx
          · exact u4 x hx
          · rw [List.mem_singleton.mp hx]
            exact ⟨split_ok hw (by omega) htm, by show t * m ≤ 60; omega⟩
        · rintro L H' ⟨us, qs, u1, u2, u3, u4, g4, s4, nL⟩
          have hul := u2.len
          have es1 := s4 _ _ es1
          have e1 := s4 _ _ e1
          have pr := pr.go (g4.tk g.at_)
          have g := g.trans g4
          walk_at "g"
          refine g_cat es1 u1 (by rw [List.length_take]; omega) fun c1 hc1 => ?_
          have ec1 := (upd_same : L2.upd H' c1 (.lst (vs.take jn ++ us)) c1 = _)
          have e1 := same_new (o := .lst (vs.take jn ++ us)) hc1 _ _ e1
          have u2 := u2.new (o := .lst (vs.take jn ++ us)) hc1
          have pr := pr.new (o := .lst (vs.take jn ++ us)) hc1
          have g := g.new (o := .lst (vs.take jn ++ us)) hc1
          walk_at "g"
          refine ⟨l, vs, rfl, SqL.of e1, fun s2 hs2 => ?_⟩
          have ej : cutV vs (some ((jn : Int) + 1)) none = vs.drop (jn + 1) := cut_drop vs (jn + 1)
          rw [ej]
          have ec1 := same_new (o := .lst (vs.drop (jn + 1))) hs2 _ _ ec1
          have u2 := u2.new (o := .lst (vs.drop (jn + 1))) hs2
          have pr := pr.new (o := .lst (vs.drop (jn + 1))) hs2
          have g := g.new (o := .lst (vs.drop (jn + 1))) hs2
          refine g_cat ec1 upd_same (by rw [List.length_append, List.length_take, List.length_drop]; omega) fun l2 hl2 => ?_
          have u2 := u2.new (o := .lst (vs.take jn ++ us ++ vs.drop (jn + 1))) hl2
          have pr := pr.new (o := .lst (vs.take jn ++ us ++ vs.drop (jn + 1))) hl2
          have off2 := Off.new (o := .lst (vs.take jn ++ us ++ vs.drop (jn + 1))) g.at_ hl2
          have g := g.new (o := .lst (vs.take jn ++ us ++ vs.drop (jn + 1))) hl2
          walk_at "g"
          refine ⟨l2, _, ps.take jn ++ qs ++ ps.drop (jn + 1), _, _, _, _, _, _, rfl, g, off2, ((pr.take jn).app u2).app (pr.drop (jn + 1)), ?_, ?_, fun x hx => ?_⟩
          · rw [List.length_append, List.length_append, List.length_take, List.length_drop]
            omega
          · intro z
            have := congrArg List.length z
            rw [List.length_append, List.length_append, u3] at this
            simp at this
            omega
          · rcases List.mem_append.mp hx with hx | hx
            · rcases List.mem_append.mp hx with hx | hx
              · exact hok x (List.mem_of_mem_take hx)
              · exact u4 x hx
            · exact hok x (List.mem_of_mem_drop hx)
      · walk_at "g"
        exact ⟨l, vs, ps, _, _, _, _, _, _, rfl, g, off, pr, hpl, hne, hok⟩
    · walk_at "g"
      exact ⟨l, vs, ps, _, _, _, _, _, _, rfl, g, off, pr, hpl, hne, hok⟩
  · rintro σ H' ⟨l, vs, ps, v3, v4, v5, v6, v7, v8, rfl, g, off, pr, hpl, hne, hok⟩
    have hvl := pr.len
    walk_at "g"
    refine ⟨D, l, vs, rfl, g.at_, .inl off, by omega, fun p ys H5 hperm hp0 off g5 => ?_⟩
    obtain ⟨qs, e5, hpm⟩ := (pr.go (g5.tk g.at_)).perm hperm
    walk_at "g"
    refine ⟨p, ys, rfl, .inl ⟨SqL.of off.1, fun z hz => ?_⟩⟩
    refine k z qs _ ⟨ys, upd_same, e5.new hz⟩ ?_ (fun x hx => (hok x (hpm.mem_iff.mpr hx)).1) ⟨fun x hx => (hok x (hpm.mem_iff.mpr hx)).2, fun e => hne ?_⟩ ((g.trans g5).new hz)
    · rw [← hpm.length_eq]
      exact hpl
    · subst e
      exact hpm.eq_nil
end
end DW
namespace DW
open PySem PySem.Spec PyProof.Rows L2
/-- the readings, until a question is met -/
local macro_rules | `(tactic| walk_at "g") => `(tactic| repeat (first
  | with_reducible refine g_seq ?_
  | with_reducible refine g_asg ?_
  | with_reducible refine g_name ?_
  | with_reducible refine g_op ?_
  | with_reducible refine g_cons ?_
  | with_reducible refine g_c ?_
  | ((with_reducible refine' g_var ?hv ?_); (case hv => exact rfl))
  | with_reducible refine g_nil ?_
  | with_reducible refine g_I0 ?_
  | with_reducible refine g_cb ?_
  | with_reducible refine g_call ?_
  | with_reducible refine g_callS ?_
  | with_reducible refine g_mkE ?_
  | with_reducible refine g_fld ?_
  | with_reducible refine g_ret ?_
  | with_reducible refine g_retN ?_
  | with_reducible refine g_drop ?_
  | with_reducible refine g_if ?_
  | with_reducible refine g_next ?_
  | with_reducible refine g_un ?_
  | with_reducible refine g_U ?_
  | with_reducible refine g_eqI ?_
  | with_reducible refine g_neI ?_
  | with_reducible refine g_eqS ?_
  | with_reducible refine g_neS ?_
  | with_reducible refine g_tup ?_
  | with_reducible refine g_lst ?_
  | with_reducible refine g_test ?_
  | with_reducible refine g_tif ?_
  | with_reducible refine g_forB ?_
  | with_reducible refine g_forEL ?_
  | with_reducible refine g_forRev ?_
  | with_reducible refine g_for3 ?_
  | with_reducible refine g_B ?_
  | with_reducible refine g_and ?_
  | with_reducible refine g_or ?_
  | with_reducible refine g_not ?_
  | with_reducible refine g_ifE ?_
  | with_reducible refine g_andV ?_
  | with_reducible refine g_orV ?_
  | with_reducible refine g_notV ?_
  | with_reducible refine g_chain ?_
  | with_reducible refine g_chainT ?_
  | with_reducible refine g_no ?_
  | with_reducible refine g_part ?_
  | with_reducible refine g_sl ?_
  | with_reducible refine g_bm ?_
  | with_reducible refine g_bm0 ?_
  | with_reducible refine g_par ?_
  | with_reducible refine g_sub ?_
  | with_reducible refine g_gCons ?_
  | with_reducible refine g_gNil ?_
  | ((with_reducible refine' g_ixL ?hv ?he ?_); (case hv => first | assumption | exact upd_same); (case he => first | exact rfl | exact atI_nat (j := 0) rfl | exact atI_nat (j := 1) rfl | exact atI_nat (j := 2) rfl))
  | ((with_reducible refine' g_ixT ?hv ?he ?_); (case hv => first | assumption | exact upd_same); (case he => first | exact rfl | exact atI_nat (j := 0) rfl | exact atI_nat (j := 1) rfl | exact atI_nat (j := 2) rfl))
  | ((with_reducible refine' g_gTup ?hv ?he ?_); (case hv => first | assumption | exact upd_same); (case he => exact rfl))
  | ((with_reducible refine' g_tyL ?hv ?_); (case hv => first | assumption | exact upd_same))
  | with_reducible refine g_for1 ?_
  | with_reducible refine g_for2 ?_
  | with_reducible refine g_forL ?_
  | with_reducible refine g_forT ?_
  | with_reducible refine g_lc1 ?_
  | with_reducible refine g_lc2 ?_
  | with_reducible refine g_lcL ?_
  | with_reducible refine g_lcT ?_
  | with_reducible refine g_lcE ?_
  | with_reducible refine g_lcZ ?_
  | with_reducible refine g_rev ?_
  | with_reducible refine g_listRg ?_
  | with_reducible refine g_tupRg ?_
  | with_reducible refine g_rg1 ?_
  | with_reducible refine g_ckw ?_
  | with_reducible refine g_rg2 ?_
  | with_reducible refine g_yes ?_
  | with_reducible refine iteT ?_
  | with_reducible refine iteF ?_
  | with_reducible refine g_ifNT ?_
  | with_reducible refine g_ifNF ?_
  | ((with_reducible refine' g_ifC ?hc ?_); (case hc => exact rfl))
  | ((with_reducible refine' g_ifD ?hc ?_); (case hc => exact rfl))
  | (with_reducible refine ⟨(show List.length _ ≤ sizeLine from Nat.le_of_ble_eq_true (by with_unfolding_all rfl)), ?_⟩)
  | (with_reducible refine ⟨_, rfl, ?_⟩)
  | (with_reducible refine Or.inl ⟨_, rfl, ?_⟩)
  | ((with_reducible refine' ⟨_, _, rfl, Or.inl (SqL.of ?hv), ?_⟩); (case hv => first | assumption | exact upd_same))
  | ((with_reducible refine' ⟨_, _, rfl, Or.inr (SqT.of ?hv), ?_⟩); (case hv => first | assumption | exact upd_same))
  | ((with_reducible refine' g_I ?hc ?_); (case hc => first | (show (0 : Int) < _; omega) | exact Or.inl ⟨by decide, by decide⟩ | exact Or.inr ⟨by decide, by decide⟩ | exact ⟨by decide, by decide +kernel⟩))
  | (with_reducible refine ⟨_, _, rfl, ?_⟩)))
/-- steps of the heap, from its end: tuples stay (k), all stays (s), the deck stands (d), it is drawn from (r), a thing stands beside it (o) -/
local macro_rules | `(tactic| walk_at "k") => `(tactic| first
  | with_reducible assumption
  | with_reducible exact tk_refl
  | ((with_reducible refine tk_step ?_ (by assumption)); walk_at "k")
  | ((with_reducible refine tk_mut ?_ (by assumption)); walk_at "k")
  | ((with_reducible refine tk_same ?_ (by assumption)); walk_at "k")
  | ((with_reducible refine tk_gr ?_ (by assumption) (by walk_at "d")); walk_at "k"))
local macro_rules | `(tactic| walk_at "s") => `(tactic| first
  | with_reducible assumption
  | with_reducible exact Same.refl _
  | ((with_reducible refine same_step ?_ (by assumption)); walk_at "s")
  | ((with_reducible refine Same.trans ?_ (by assumption)); walk_at "s"))
local macro_rules | `(tactic| walk_at "d") => `(tactic| first
  | with_reducible assumption
  | with_reducible exact Gr.at_ (by assumption)
  | ((with_reducible refine dk_step ?_ (by assumption)); walk_at "d")
  | ((with_reducible refine DeckAt.same ?_ (by assumption)); walk_at "d"))
local macro_rules | `(tactic| walk_at "r") => `(tactic| first
  | with_reducible assumption
  | ((with_reducible refine Gr.refl ?_); walk_at "d")
  | ((with_reducible refine Gr.new ?_ (by assumption)); walk_at "r")
  | ((with_reducible refine Gr.mut ?_ (by walk_at "d") (by assumption)); walk_at "r")
  | ((with_reducible refine Gr.same ?_ (by assumption)); walk_at "r")
  | ((with_reducible refine Gr.trans ?_ (by assumption)); walk_at "r"))
local macro_rules | `(tactic| walk_at "o") => `(tactic| first
  | with_reducible assumption
  | (refine Off.new ?_ (by assumption); walk_at "d")
  | ((with_reducible refine Off.step ?_ (by assumption)); walk_at "o")
  | ((with_reducible refine off_same ?_ (by assumption)); walk_at "o")
  | ((with_reducible refine Off.go ?_ (by assumption)); walk_at "o"))

section
variable {P : Program} {w : World} {K : PySem.W.Frag} {mg : Str → Option Value} {base : Heap}
abbrev s__law_held_lot : Stmt := top 32
theorem sc__law_held_lot : FnScope ["deck", "most", "lot", "by", "moved", "turn", "first"] ["deck", "most"] (defScope s__law_held_lot) := ⟨rfl, rfl, rfl, by decide +kernel, rfl, by decide +kernel, by decide +kernel⟩
/-- a lot of watches as a value -/
def LotV (B : Nat) (H : Hp) (v : V) : Prop := ∃ a lot, v = .ref a ∧ LotAt H a lot ∧ lot.length ≤ B ∧ ∀ p ∈ lot, WOk p
theorem LotV.go {B : Nat} {H H' : Hp} {v : V} (h : LotV B H v) (k : TupKeep H H') : LotV B H' v := by
  obtain ⟨a, lot, e, x, r⟩ := h
  exact ⟨a, lot, e, x.go k, r⟩
theorem ok_held_lot (F : Top K mg "_law_held_lot" s__law_held_lot ["deck", "most"]) (T : NoB mg) (G_law_draw : Def P w K mg base "_law_draw" ["deck", "many"] 1 spDraw) (G_law_one : Def P w K mg base "_law_one" ["deck", "items"] 2 spOne) (G_law_mixed : Def P w K mg base "_law_mixed" ["deck", "items"] 2 spMixed) (G_law_watch : Def P w K mg base "_law_watch" ["deck", "turns"] 3 spWatch) (G_law_grown : Def P w K mg base "_law_grown" ["deck", "most"] 3 (spLot fun lot => (∀ p ∈ lot, p.1 ≤ 60) ∧ lot ≠ [])) : Def P w K mg base "_law_held_lot" ["deck", "most"] 4 (spLot fun _ => True) := by
  obtain ⟨f, fd, F⟩ := F
  refine F.def sc__law_held_lot (fun vs H Q E h => ?_) (fun cdv A outer s H vs Q E hg hr h => ?_)
  · obtain ⟨D, n, rfl, _⟩ := h
    rfl
  obtain ⟨D, n, rfl, dk, hn1, hn2, k⟩ := h
  have nd := sc__law_held_lot.nd
  refine ⟨_, (pss_cons (ps_set (i := 2) nd rfl (Or.inl rfl) (DW.pe_def G_law_one hg (hr.mono (by omega)) rfl (pa_cons (pv 0) (pa_cons (pe_lst (pa_cons (pe_tup (pa_cons (pe_tup (pa_cons pe_int (pa_cons pe_int pa_nil))) (pa_cons (pe_tup (pa_cons pe_int (pa_cons pe_int pa_nil))) (pa_cons (pe_tup (pa_cons pe_int (pa_cons pe_int pa_nil))) (pa_cons (pe_tup (pa_cons pe_int (pa_cons pe_int pa_nil))) (pa_cons (pe_tup (pa_cons pe_int (pa_cons pe_int pa_nil))) pa_nil)))))) (pa_cons (DW.pe_def G_law_grown hg (hr.mono (by omega)) rfl (pa_cons (pv 0) (pa_cons (pv 1) pa_nil))) (pa_cons (DW.pe_def G_law_grown hg (hr.mono (by omega)) rfl (pa_cons (pv 0) (pa_cons (pv 1) pa_nil))) pa_nil)))) pa_nil))))
      (Evl.pss_cut (ps_if (pt_cmpR op_gt (pe_callB call_len_seq (by rfl) T.len (by decide +kernel) (pa_cons (pv 2) pa_nil)) (pv 1) (nomark _)) (pss_one (ps_set (i := 2) nd rfl (Or.inl rfl) (DW.pe_def G_law_grown hg (hr.mono (by omega)) rfl (pa_cons (pv 0) (pa_cons (pv 1) pa_nil))))) pss_nil)
      (pss_cons (ps_set (i := 3) nd rfl (Or.inr rfl) (DW.pe_def G_law_draw hg (hr.mono (by omega)) rfl (pa_cons (pv 0) (pa_cons pe_int pa_nil))))
      (pss_cons (ps_setLc (i := 4) (g := (gTup K 2 (gCons (gName 5) (gCons (gName 6) gNil)))) (own := [("turn", 5), ("first", 6)]) rfl nd rfl rfl (sw_true rfl rfl rfl (by decide +kernel)) (pi_tup (pv 2)) (blkOk_by (own := [("turn", 5), ("first", 6)]) (N := ["deck", "most", "lot", "by", "moved", "turn", "first"]) (sc := defScope s__law_held_lot) (by decide +kernel)) (fun _ _ _ _ _ => (pg_tup rfl (pgs_cons (pg_name (i := 5) nd rfl (Or.inl rfl)) (pgs_cons (pg_name (i := 6) nd rfl (Or.inl rfl)) pgs_nil)))) (fun _ _ _ _ _ => pts_nil) (fun _ _ _ _ _ => (pe_tup (pa_cons (pv 5) (pa_cons (pe_op op_mod (pe_callTy call_int1 (by rfl) T.int (by decide +kernel) (pa_cons (pe_op op_add (pv 6) (pv 3)) pa_nil)) (pv 5)) pa_nil)))))
      (Evl.pss_cut (ps_while PassesOwn.never (PW.pt (pw_and (pt_cmpR op_lt (pe_callB call_len_seq (by rfl) T.len (by decide +kernel) (pa_cons (pv 4) pa_nil)) (pv 1) (nomark _)) (pw_and1 (pt_cmpR op_eq (DW.pe_def G_law_draw hg (hr.mono (by omega)) rfl (pa_cons (pv 0) (pa_cons pe_int pa_nil))) pe_int (nomark _))))) (pss_one (ps_expr (pe_bm PySem.F.plainAttrs_list PySem.F.slot_list_append PySem.F.type_list_append mt_append (pv 4) (pa_cons (DW.pe_def G_law_watch hg (hr.mono (by omega)) rfl (pa_cons (pv 0) (pa_cons (pe_lst (pa_cons pe_int (pa_cons pe_int (pa_cons pe_int (pa_cons pe_int (pa_cons pe_int (pa_cons pe_int pa_nil))))))) pa_nil))) pa_nil)))))
      (pss_one (ps_ret (pe_callTy call_tuple_of (by rfl) T.tuple (by decide +kernel) (pa_cons (DW.pe_def G_law_mixed hg (hr.mono (by omega)) rfl (pa_cons (pv 0) (pa_cons (pv 4) pa_nil))) pa_nil))))))))), ?_⟩
  have g := Gr.refl dk
  walk_at "g"
  intro p1 h1
  have r1 : PairsAt (L2.upd H p1 (.tup [V.int 2, V.int 0])) [.ref p1] [((2 : Int), (0 : Int))] := PairsAt.one ⟨p1, rfl, upd_same⟩
  have g := g.new (o := .tup [V.int 2, V.int 0]) h1
  walk_at "g"
  intro p2 h2
  have r2 := (r1.new (o := .tup [V.int 3, V.int 0]) h2).app (PairsAt.one (p := ((3 : Int), (0 : Int))) ⟨p2, rfl, upd_same⟩)
  have g := g.new (o := .tup [V.int 3, V.int 0]) h2
  walk_at "g"
  intro p3 h3
  have r3 := (r2.new (o := .tup [V.int 4, V.int 1]) h3).app (PairsAt.one (p := ((4 : Int), (1 : Int))) ⟨p3, rfl, upd_same⟩)
  have g := g.new (o := .tup [V.int 4, V.int 1]) h3
  walk_at "g"
  intro p4 h4
  have r4 := (r3.new (o := .tup [V.int 6, V.int 5]) h4).app (PairsAt.one (p := ((6 : Int), (5 : Int))) ⟨p4, rfl, upd_same⟩)
  have g := g.new (o := .tup [V.int 6, V.int 5]) h4
  walk_at "g"
  intro p5 h5
  have r5 := (r4.new (o := .tup [V.int 12, V.int 7]) h5).app (PairsAt.one (p := ((12 : Int), (7 : Int))) ⟨p5, rfl, upd_same⟩)
  have g := g.new (o := .tup [V.int 12, V.int 7]) h5
  walk_at "g"
  intro t0 h6
  have r6 := r5.new (o := .tup [.ref p1, .ref p2, .ref p3, .ref p4, .ref p5]) h6
  have g := g.new (o := .tup [.ref p1, .ref p2, .ref p3, .ref p4, .ref p5]) h6
  have lt0 : LotV 10 _ (.ref t0) := ⟨t0, _, rfl, ⟨_, upd_same, r6⟩, by decide, by
    intro p hp
    simp only [List.cons_append, List.nil_append, List.mem_cons, List.not_mem_nil, or_false] at hp
    rcases hp with rfl | rfl | rfl | rfl | rfl
    all_goals exact ⟨by decide, by decide, by decide, by decide⟩⟩
  walk_at "g"
  refine ⟨D, n, rfl, g.at_, hn1, hn2, fun a1 lot1 H1 hl1 hn hok _ g1 => ?_⟩
  have lt0 := lt0.go (g1.tk g.at_)
  have lt1 : LotV 10 H1 (.ref a1) := ⟨a1, lot1, rfl, hl1, by omega, hok⟩
  have g := g.trans g1
  walk_at "g"
  refine ⟨D, n, rfl, g.at_, hn1, hn2, fun a2 lot2 H2 hl2 hn hok _ g2 => ?_⟩
  have lt0 := lt0.go (g2.tk g.at_)
  have lt1 := lt1.go (g2.tk g.at_)
  have lt2 : LotV 10 H2 (.ref a2) := ⟨a2, lot2, rfl, hl2, by omega, hok⟩
  have g := g.trans g2
  walk_at "g"
  intro b hb
  have off := Off.new (o := .lst [.ref t0, .ref a1, .ref a2]) g.at_ hb
  have lt0 := lt0.go (TupKeep.upd (o := .lst [.ref t0, .ref a1, .ref a2]) hb)
  have lt1 := lt1.go (TupKeep.upd (o := .lst [.ref t0, .ref a1, .ref a2]) hb)
  have lt2 := lt2.go (TupKeep.upd (o := .lst [.ref t0, .ref a1, .ref a2]) hb)
  have g := g.new (o := .lst [.ref t0, .ref a1, .ref a2]) hb
  walk_at "g"
  refine ⟨D, b, _, rfl, g.at_, .inl off, by simp, by show 3 ≤ 100000; decide, fun v H3 hv g3 => ?_⟩
  have lv : LotV 10 H3 v := by
    simp only [List.mem_cons, List.not_mem_nil, or_false] at hv
    rcases hv with rfl | rfl | rfl
    · exact lt0.go (g3.tk g.at_)
    · exact lt1.go (g3.tk g.at_)
    · exact lt2.go (g3.tk g.at_)
  have g := g.trans g3
  clear lt0 lt1 lt2 r1 r2 r3 r4 r5 r6 off
  obtain ⟨a, lot, rfl, ⟨vs, ea, pr⟩, hl10, hok⟩ := lv
  have hvl := pr.len
  walk_at "g"
  refine g_cut (fun σ H4 => ∃ (a : Addr) (lot : List (Int × Int)) (vs : List V), σ = [some (.ref D.dk), some (.int n), some (.ref a), none, none, none, none] ∧ H4 a = some (.tup vs) ∧ PairsAt H4 vs lot ∧ (lot.length : Int) ≤ n ∧ (∀ p ∈ lot, WOk p) ∧ Gr D H H4) ?_ ?_
  · walk_at "g"
    refine ite2 (fun h => ?_) (fun h => ?_)
    · walk_at "g"
      refine ⟨D, n, rfl, g.at_, hn1, hn2, fun a3 lot3 H4 hl3 hn hok3 _ g4 => ?_⟩
      obtain ⟨vs3, e3, pr3⟩ := hl3.ex
      exact ⟨a3, lot3, vs3, rfl, e3, pr3, hn, hok3, g.trans g4⟩
    · have hle : (vs.length : Int) ≤ n := by simpa using h
      exact ⟨a, lot, vs, rfl, ea, pr, by omega, hok, g⟩
  clear ea pr hl10 hok hvl g
  rintro σ H4 ⟨a, lot, vs, rfl, ea, pr, hle, hok, g⟩
  have hvl := pr.len
  walk_at "g"
  refine ⟨D, 12, rfl, g.at_, by decide, by decide, fun by' H5 hb0 hb1 g5 => ?_⟩
  have ea := g5.tup g.at_ ea
  have pr := pr.go (g5.tk g.at_)
  have g := g.trans g5
  walk_at "g"
  refine ⟨⟨_, SqT.of ea⟩, ?_⟩
  refine c_tup (xs := vs) (fun L i H' => ∃ us qs, H' L = some (.lst us) ∧ PairsAt H' us qs ∧ qs.length = i ∧ (∀ p ∈ qs, WOk p) ∧ Gr D H5 H' ∧ Same H5 H' ∧ H5 L = none)
    (fun L hL => ⟨[], [], upd_same, .nil, rfl, (fun _ h => nomatch h), (Gr.refl g.at_).new hL, same_new hL, hL⟩) (fun L i H' ⟨_, _, _, _, _, _, _, s, _⟩ => SqT.of (s _ _ ea)) ?_ ?_
  · rintro L i x H' hx ⟨us, qs, u1, u2, u3, u4, g4, s4, nL⟩
    obtain ⟨⟨t, f'⟩, hp, z, rfl, hz⟩ := pr.get hx
    have hz := s4 _ _ hz
    have hw := hok _ (List.mem_of_getElem? hp)
    have hw1 : 1 ≤ t := hw.1
    have hi : i < vs.length := (List.getElem?_eq_some_iff.mp hx).1
    have hul := u2.len
    walk_at "g"
    refine ⟨rfl, ?_⟩
    walk_at "g"
    intro q hq
    have u1' := same_new (o := .tup [V.int t, V.int ((f' + by') % t)]) hq _ _ u1
    have u2' := u2.new (o := .tup [V.int t, V.int ((f' + by') % t)]) hq
    have nq := s4.free hq
    refine ⟨us, u1', small (by omega), us ++ [.ref q], qs ++ [(t, (f' + by') % t)], upd_same, (u2'.app (PairsAt.one ⟨q, rfl, upd_same⟩)).mut u1', by rw [List.length_append, u3]; rfl, fun y hy => ?_,
      (g4.new (o := .tup [V.int t, V.int ((f' + by') % t)]) hq).mut g.at_ nL, same_mut (same_mut s4 nq) nL, nL⟩
    rcases List.mem_append.mp hy with hy | hy
    · exact u4 y hy
    · rw [List.mem_singleton.mp hy]
      exact ⟨hw1, hw.2.1, Int.emod_nonneg _ (by omega), Int.emod_lt_of_pos _ (by omega)⟩
  rintro L H6 ⟨us, qs, u1, u2, u3, u4, g4, s4, nL⟩
  have nLH := g.free dk nL
  obtain ⟨L0, L1, _⟩ := dk.ne nLH
  have g := g.trans g4
  walk_at "g"
  refine g_cut (fun σ H' => ∃ (us : List V) (qs : List (Int × Int)), σ = [some (.ref D.dk), some (.int n), some (.ref a), some (.int by'), some (.ref L), none, none] ∧ H' L = some (.lst us) ∧ PairsAt H' us qs ∧ (qs.length : Int) ≤ n ∧ (∀ p ∈ qs, WOk p) ∧ Gr D H H') ?_ ?_
  · refine w_raw (fun m σ H' => ∃ (us : List V) (qs : List (Int × Int)), σ = [some (.ref D.dk), some (.int n), some (.ref a), some (.int by'), some (.ref L), none, none] ∧ H' L = some (.lst us) ∧ PairsAt H' us qs ∧ (qs.length : Int) + m = n ∧ (∀ p ∈ qs, WOk p) ∧ Gr D H H') (n - qs.length).toNat
      ⟨us, qs, rfl, u1, u2, by omega, u4, g⟩ ?_
    clear u1 u2 u3 u4 g4 s4 g ea pr
    rintro m σ H' ⟨us, qs, rfl, u1, u2, u3, u4, g⟩
    have hul := u2.len
    walk_at "g"
    refine ite2 (fun h => ?_) (fun h => ?_)
    · have hlt : (us.length : Int) < n := by simpa using h
      walk_at "g"
      refine ⟨D, 3, rfl, g.at_, by decide, by decide, fun r H7 hr0 hr1 g7 => ?_⟩
      have u1 := g7.keep _ _ u1 L0 L1
      have u2 := u2.go (g7.tk g.at_)
      have g := g.trans g7
      walk_at "g"
      refine ite2 (fun h => ?_) (fun h => ?_)
      · refine ⟨_, fun σ' H' z => z, ?_⟩
        walk_at "g"
        intro b hb
        have off := Off.new (o := .lst (List.map V.int [2, 3, 4, 6, 8, 12])) g.at_ hb
        have u1 := same_new (o := .lst (List.map V.int [2, 3, 4, 6, 8, 12])) hb _ _ u1
        have u2 := u2.new (o := .lst (List.map V.int [2, 3, 4, 6, 8, 12])) hb
        have g := g.new (o := .lst (List.map V.int [2, 3, 4, 6, 8, 12])) hb
        walk_at "g"
        refine ⟨D, b, [2, 3, 4, 6, 8, 12], rfl, g.at_, .inl off, by simp, by decide, by decide, fun p t f' H8 ht h0 h1 hp g8 => ?_⟩
        have ht' : ∀ t ∈ ([2, 3, 4, 6, 8, 12] : List Int), 1 ≤ t ∧ t ≤ 12 := by decide
        have ht' := ht' t ht
        have u1 := g8.keep _ _ u1 L0 L1
        have u2 := u2.go (g8.tk g.at_)
        have g := g.trans g8
        walk_at "g"
        refine g_app u1 (by omega) ?_
        refine ⟨m - 1, by omega, us ++ [.ref p], qs ++ [(t, f')], rfl, upd_same, (u2.app (PairsAt.one ⟨p, rfl, hp⟩)).mut u1, ?_, fun y hy => ?_, g.mut dk nLH⟩
        · rw [List.length_append]
          show ((qs.length + 1 : Nat) : Int) + _ = _
          omega
        · rcases List.mem_append.mp hy with hy | hy
          · exact u4 y hy
          · rw [List.mem_singleton.mp hy]
            exact ⟨ht'.1, by show t ≤ _; omega, h0, h1⟩
      · exact ⟨us, qs, rfl, u1, u2, by omega, u4, g⟩
    · walk_at "g"
      exact ⟨us, qs, rfl, u1, u2, by omega, u4, g⟩
  clear u1 u2 u3 u4 g4 s4 g ea pr
  rintro σ H' ⟨us, qs, rfl, u1, u2, u3, u4, g⟩
  have hul := u2.len
  walk_at "g"
  refine ⟨D, L, us, rfl, g.at_, .inl ⟨u1, L0, L1, dk.isno nLH⟩, by omega, fun p ys H9 hperm hp0 off g9 => ?_⟩
  obtain ⟨ws, e5, hpm⟩ := (u2.go (g9.tk g.at_)).perm hperm
  walk_at "g"
  refine ⟨p, ys, rfl, .inl ⟨SqL.of off.1, fun l hl => ?_⟩⟩
  refine k l ws _ ⟨ys, upd_same, e5.new hl⟩ ?_ (fun x hx => u4 x (hpm.mem_iff.mpr hx)) trivial ((g.trans g9).new hl)
  rw [← hpm.length_eq]
  omega
end
end DW
namespace DW
open PySem PySem.Spec PyProof.Rows L2
/-- the readings, until a question is met -/
local macro_rules | `(tactic| walk_at "g") => `(tactic| repeat (first
  | with_reducible refine g_seq ?_
  | with_reducible refine g_asg ?_
  | with_reducible refine g_name ?_
  | with_reducible refine g_op ?_
  | with_reducible refine g_cons ?_
  | with_reducible refine g_c ?_
  | ((with_reducible refine' g_var ?hv ?_); (case hv => exact rfl))
  | with_reducible refine g_nil ?_
  | with_reducible refine g_I0 ?_
  | with_reducible refine g_cb ?_
  | with_reducible refine g_call ?_
  | with_reducible refine g_callS ?_
  | with_reducible refine g_mkE ?_
  | with_reducible refine g_fld ?_
  | with_reducible refine g_ret ?_
  | with_reducible refine g_retN ?_
  | with_reducible refine g_drop ?_
  | with_reducible refine g_if ?_
  | with_reducible refine g_next ?_
  | with_reducible refine g_un ?_
  | with_reducible refine g_U ?_
  | with_reducible refine g_eqI ?_
  | with_reducible refine g_neI ?_
  | with_reducible refine g_eqS ?_
  | with_reducible refine g_neS ?_
  | with_reducible refine g_tup ?_
  | with_reducible refine g_lst ?_
  | with_reducible refine g_test ?_
  | with_reducible refine g_tif ?_
  | with_reducible refine g_forB ?_
  | with_reducible refine g_forEL ?_
  | with_reducible refine g_forRev ?_
  | with_reducible refine g_for3 ?_
  | with_reducible refine g_B ?_
  | with_reducible refine g_and ?_
  | with_reducible refine g_or ?_
  | with_reducible refine g_not ?_
  | with_reducible refine g_ifE ?_
  | with_reducible refine g_andV ?_
  | with_reducible refine g_orV ?_
  | with_reducible refine g_notV ?_
  | with_reducible refine g_chain ?_
  | with_reducible refine g_chainT ?_
  | with_reducible refine g_no ?_
  | with_reducible refine g_part ?_
  | with_reducible refine g_sl ?_
  | with_reducible refine g_bm ?_
  | with_reducible refine g_bm0 ?_
  | with_reducible refine g_par ?_
  | with_reducible refine g_sub ?_
  | with_reducible refine g_gCons ?_
  | with_reducible refine g_gNil ?_
  | ((with_reducible refine' g_ixL ?hv ?he ?_); (case hv => first | assumption | exact upd_same); (case he => first | exact rfl | exact atI_nat (j := 0) rfl | exact atI_nat (j := 1) rfl | exact atI_nat (j := 2) rfl))
  | ((with_reducible refine' g_ixT ?hv ?he ?_); (case hv => first | assumption | exact upd_same); (case he => first | exact rfl | exact atI_nat (j := 0) rfl | exact atI_nat (j := 1) rfl | exact atI_nat (j := 2) rfl))
  | ((with_reducible refine' g_gTup ?hv ?he ?_); (case hv => first | assumption | exact upd_same); (case he => exact rfl))
  | ((with_reducible refine' g_tyL ?hv ?_); (case hv => first | assumption | exact upd_same))
  | with_reducible refine g_for1 ?_
  | with_reducible refine g_for2 ?_
  | with_reducible refine g_forL ?_
  | with_reducible refine g_forT ?_
  | with_reducible refine g_lc1 ?_
  | with_reducible refine g_lc2 ?_
  | with_reducible refine g_lcL ?_
  | with_reducible refine g_lcT ?_
  | with_reducible refine g_lcE ?_
  | with_reducible refine g_lcZ ?_
  | with_reducible refine g_rev ?_
  | with_reducible refine g_listRg ?_
  | with_reducible refine g_tupRg ?_
  | with_reducible refine g_rg1 ?_
  | with_reducible refine g_ckw ?_
  | with_reducible refine g_rg2 ?_
  | with_reducible refine g_yes ?_
  | with_reducible refine iteT ?_
  | with_reducible refine iteF ?_
  | with_reducible refine g_ifNT ?_
  | with_reducible refine g_ifNF ?_
  | ((with_reducible refine' g_ifC ?hc ?_); (case hc => exact rfl))
  | ((with_reducible refine' g_ifD ?hc ?_); (case hc => exact rfl))
  | (with_reducible refine ⟨(show List.length _ ≤ sizeLine from Nat.le_of_ble_eq_true (by with_unfolding_all rfl)), ?_⟩)
  | (with_reducible refine ⟨_, rfl, ?_⟩)
  | (with_reducible refine Or.inl ⟨_, rfl, ?_⟩)
  | ((with_reducible refine' ⟨_, _, rfl, Or.inl (SqL.of ?hv), ?_⟩); (case hv => first | assumption | exact upd_same))
  | ((with_reducible refine' ⟨_, _, rfl, Or.inr (SqT.of ?hv), ?_⟩); (case hv => first | assumption | exact upd_same))
  | ((with_reducible refine' g_I ?hc ?_); (case hc => first | (show (0 : Int) < _; omega) | exact Or.inl ⟨by decide, by decide⟩ | exact Or.inr ⟨by decide, by decide⟩ | exact ⟨by decide, by decide +kernel⟩))
  | (with_reducible refine ⟨_, _, rfl, ?_⟩)))
/-- steps of the heap, from its end: tuples stay (k), all stays (s), the deck stands (d), it is drawn from (r), a thing stands beside it (o) -/
local macro_rules | `(tactic| walk_at "k") => `(tactic| first
  | with_reducible assumption
  | with_reducible exact tk_refl
  | ((with_reducible refine tk_step ?_ (by assumption)); walk_at "k")
  | ((with_reducible refine tk_mut ?_ (by assumption)); walk_at "k")
  | ((with_reducible refine tk_same ?_ (by assumption)); walk_at "k")
  | ((with_reducible refine tk_gr ?_ (by assumption) (by walk_at "d")); walk_at "k"))
local macro_rules | `(tactic| walk_at "s") => `(tactic| first
  | with_reducible assumption
  | with_reducible exact Same.refl _
  | ((with_reducible refine same_step ?_ (by assumption)); walk_at "s")
  | ((with_reducible refine Same.trans ?_ (by assumption)); walk_at "s"))
local macro_rules | `(tactic| walk_at "d") => `(tactic| first
  | with_reducible assumption
  | with_reducible exact Gr.at_ (by assumption)
  | ((with_reducible refine dk_step ?_ (by assumption)); walk_at "d")
  | ((with_reducible refine DeckAt.same ?_ (by assumption)); walk_at "d"))
local macro_rules | `(tactic| walk_at "r") => `(tactic| first
  | with_reducible assumption
  | ((with_reducible refine Gr.refl ?_); walk_at "d")
  | ((with_reducible refine Gr.new ?_ (by assumption)); walk_at "r")
  | ((with_reducible refine Gr.mut ?_ (by walk_at "d") (by assumption)); walk_at "r")
  | ((with_reducible refine Gr.same ?_ (by assumption)); walk_at "r")
  | ((with_reducible refine Gr.trans ?_ (by assumption)); walk_at "r"))
local macro_rules | `(tactic| walk_at "o") => `(tactic| first
  | with_reducible assumption
  | (refine Off.new ?_ (by assumption); walk_at "d")
  | ((with_reducible refine Off.step ?_ (by assumption)); walk_at "o")
  | ((with_reducible refine off_same ?_ (by assumption)); walk_at "o")
  | ((with_reducible refine Off.go ?_ (by assumption)); walk_at "o"))

section
variable {P : Program} {w : World} {K : PySem.W.Frag} {mg : Str → Option Value} {base : Heap}
abbrev s__law_great_lot : Stmt := top 33
theorem sc__law_great_lot : FnScope ["deck", "most", "base", "found", "k", "turn"] ["deck", "most"] (defScope s__law_great_lot) := ⟨rfl, rfl, rfl, by decide +kernel, rfl, by decide +kernel, by decide +kernel⟩
theorem ok_great_lot (F : Top K mg "_law_great_lot" s__law_great_lot ["deck", "most"]) (T : NoB mg) (G_law_draw : Def P w K mg base "_law_draw" ["deck", "many"] 1 spDraw) (G_law_one : Def P w K mg base "_law_one" ["deck", "items"] 2 spOne) : Def P w K mg base "_law_great_lot" ["deck", "most"] 3 (spLot fun _ => True) := by
  obtain ⟨f, fd, F⟩ := F
  refine F.def sc__law_great_lot (fun vs H Q E h => ?_) (fun cdv A outer s H vs Q E hg hr h => ?_)
  · obtain ⟨D, n, rfl, _⟩ := h
    rfl
  obtain ⟨D, n, rfl, dk, hn1, hn2, k⟩ := h
  have nd := sc__law_great_lot.nd
  refine ⟨_, (pss_cons (ps_par (i := 2) (j := 3) rfl nd rfl rfl (by decide) rfl rfl (pa_cons (DW.pe_def G_law_one hg (hr.mono (by omega)) rfl (pa_cons (pv 0) (pa_cons (pe_lst (pa_cons pe_int (pa_cons pe_int (pa_cons pe_int (pa_cons pe_int (pa_cons (pe_op op_pow pe_int pe_int) (pa_cons pe_int pa_nil))))))) pa_nil))) (pa_cons (pe_lst pa_nil) pa_nil)) (by rfl))
      (pss_cons (ps_for PassesOwn.never rfl (pi_range1 rfl T.range (pa_cons (DW.pe_def G_law_draw hg (hr.mono (by omega)) rfl (pa_cons (pv 0) (pa_cons (pe_op op_add (pv 1) pe_int) pa_nil))) pa_nil)) (pg_name (i := 4) nd rfl (Or.inl rfl)) (pss_cons (ps_set (i := 5) nd rfl (Or.inl rfl) (pe_op op_mul (pv 2) (pe_op op_add pe_int (DW.pe_def G_law_draw hg (hr.mono (by omega)) rfl (pa_cons (pv 0) (pa_cons pe_int pa_nil))))))
      (pss_one (ps_expr (pe_bm PySem.F.plainAttrs_list PySem.F.slot_list_append PySem.F.type_list_append mt_append (pv 3) (pa_cons (pe_tup (pa_cons (pv 5) (pa_cons (DW.pe_def G_law_draw hg (hr.mono (by omega)) rfl (pa_cons (pv 0) (pa_cons (pv 5) pa_nil))) pa_nil))) pa_nil))))))
      (pss_one (ps_ret (pe_callTy call_tuple_of (by rfl) T.tuple (by decide +kernel) (pa_cons (pv 3) pa_nil)))))), ?_⟩
  walk_at "g"
  intro a0 h0
  have g := Gr.refl dk
  have off := Off.new (o := .lst [V.int 1, V.int 6, V.int 30, V.int 1000, V.int (2 ^ (20 : Int).toNat), V.int 999983]) g.at_ h0
  have g := g.new (o := .lst [V.int 1, V.int 6, V.int 30, V.int 1000, V.int (2 ^ (20 : Int).toNat), V.int 999983]) h0
  walk_at "g"
  refine ⟨D, a0, _, rfl, g.at_, .inl off, by simp, by show 6 ≤ 100000; decide, fun v H1 hv g1 => ?_⟩
  obtain ⟨b, rfl, hb0, hb1⟩ : ∃ b : Int, v = .int b ∧ 1 ≤ b ∧ b ≤ 1048576 := by
    simp only [List.mem_cons, List.not_mem_nil, or_false] at hv
    rcases hv with rfl | rfl | rfl | rfl | rfl | rfl
    all_goals exact ⟨_, rfl, by decide, by decide⟩
  have g := g.trans g1
  walk_at "g"
  intro q hq
  have nq := g.free dk hq
  obtain ⟨q0, q1, _⟩ := dk.ne nq
  have g := g.new (o := .lst []) hq
  walk_at "g"
  refine ⟨D, _, rfl, g.at_, by omega, lt200 (by omega) (by omega), fun r H2 hr0 hr1 g2 => ?_⟩
  have hq2 := g2.keep _ _ upd_same q0 q1
  have g := g.trans g2
  walk_at "g"
  refine ⟨by omega, by omega, ?_⟩
  refine f_range (fun i σ H' => ∃ (vs : List V) (ps : List (Int × Int)) (v4 v5 : Option V), σ = [some (.ref D.dk), some (.int n), some (.int b), some (.ref q), v4, v5] ∧ Gr D H H' ∧ H' q = some (.lst vs) ∧ PairsAt H' vs ps ∧ ps.length = i ∧ ∀ p ∈ ps, WOk p)
    ⟨[], [], none, none, rfl, g, hq2, .nil, rfl, fun _ h => nomatch h⟩ ?_ ?_
  · rintro i σ H' hi ⟨vs, ps, v4, v5, rfl, g, e1, e2, e3, e4⟩
    have hvl := e2.len
    walk_at "g"
    refine ⟨D, 900, rfl, g.at_, by decide, by decide, fun r3 H3 h30 h31 g3 => ?_⟩
    have e1 := g3.keep _ _ e1 q0 q1
    have e2 := e2.go (g3.tk g.at_)
    have g := g.trans g3
    walk_at "g"
    refine g_I (.inl ⟨by omega, by omega⟩) ?_
    walk_at "g"
    have t1 : 1 ≤ b * (1 + r3) := by
      have : 1 * 1 ≤ b * (1 + r3) := Int.mul_le_mul hb0 (by omega) (by decide) (by omega)
      omega
    have t2 : b * (1 + r3) ≤ 1048576 * 900 := Int.mul_le_mul hb1 (by omega) (by omega) (by decide)
    generalize b * (1 + r3) = t at t1 t2 ⊢
    refine ⟨D, t, rfl, g.at_, by omega, lt200 (by omega) (by omega), fun f' H4 h40 h41 g4 => ?_⟩
    have e1 := g4.keep _ _ e1 q0 q1
    have e2 := e2.go (g4.tk g.at_)
    have g := g.trans g4
    walk_at "g"
    intro p hp
    have e1 := same_new (o := .tup [V.int t, V.int f']) hp _ _ e1
    have e2 := e2.new (o := .tup [V.int t, V.int f']) hp
    have g := g.new (o := .tup [V.int t, V.int f']) hp
    walk_at "g"
    refine g_app e1 (by omega) ?_
    refine ⟨vs ++ [.ref p], ps ++ [(t, f')], _, _, rfl, g.mut dk nq, upd_same, (e2.app (PairsAt.one ⟨p, rfl, upd_same⟩)).mut e1, by rw [List.length_append, e3]; rfl, fun x hx => ?_⟩
    rcases List.mem_append.mp hx with hx | hx
    · exact e4 x hx
    · rw [List.mem_singleton.mp hx]
      exact ⟨t1, by show t ≤ _; omega, h40, h41⟩
  · rintro σ H' ⟨vs, ps, v4, v5, rfl, g, e1, e2, e3, e4⟩
    walk_at "g"
    refine ⟨q, vs, rfl, .inl ⟨SqL.of e1, fun l hl => ?_⟩⟩
    exact k l ps _ ⟨vs, upd_same, e2.new hl⟩ (by omega) e4 trivial (g.new hl)
end
end DW
namespace DW
open PySem PySem.Spec PyProof.Rows L2
/-- the readings, until a question is met -/
local macro_rules | `(tactic| walk_at "g") => `(tactic| repeat (first
  | with_reducible refine g_seq ?_
  | with_reducible refine g_asg ?_
  | with_reducible refine g_name ?_
  | with_reducible refine g_op ?_
  | with_reducible refine g_cons ?_
  | with_reducible refine g_c ?_
  | ((with_reducible refine' g_var ?hv ?_); (case hv => exact rfl))
  | with_reducible refine g_nil ?_
  | with_reducible refine g_I0 ?_
  | with_reducible refine g_cb ?_
  | with_reducible refine g_call ?_
  | with_reducible refine g_callS ?_
  | with_reducible refine g_mkE ?_
  | with_reducible refine g_fld ?_
  | with_reducible refine g_ret ?_
  | with_reducible refine g_retN ?_
  | with_reducible refine g_drop ?_
  | with_reducible refine g_if ?_
  | with_reducible refine g_next ?_
  | with_reducible refine g_un ?_
  | with_reducible refine g_U ?_
  | with_reducible refine g_eqI ?_
  | with_reducible refine g_neI ?_
  | with_reducible refine g_eqS ?_
  | with_reducible refine g_neS ?_
  | with_reducible refine g_tup ?_
  | with_reducible refine g_lst ?_
  | with_reducible refine g_test ?_
  | with_reducible refine g_tif ?_
  | with_reducible refine g_forB ?_
  | with_reducible refine g_forEL ?_
  | with_reducible refine g_forRev ?_
  | with_reducible refine g_for3 ?_
  | with_reducible refine g_B ?_
  | with_reducible refine g_and ?_
  | with_reducible refine g_or ?_
  | with_reducible refine g_not ?_
  | with_reducible refine g_ifE ?_
  | with_reducible refine g_andV ?_
  | with_reducible refine g_orV ?_
  | with_reducible refine g_notV ?_
  | with_reducible refine g_chain ?_
  | with_reducible refine g_chainT ?_
  | with_reducible refine g_no ?_
  | with_reducible refine g_part ?_
  | with_reducible refine g_sl ?_
  | with_reducible refine g_bm ?_
  | with_reducible refine g_bm0 ?_
  | with_reducible refine g_par ?_
  | with_reducible refine g_sub ?_
  | with_reducible refine g_gCons ?_
  | with_reducible refine g_gNil ?_
  | ((with_reducible refine' g_ixL ?hv ?he ?_); (case hv => first | assumption | exact upd_same); (case he => first | exact rfl | exact atI_nat (j := 0) rfl | exact atI_nat (j := 1) rfl | exact atI_nat (j := 2) rfl))
  | ((with_reducible refine' g_ixT ?hv ?he ?_); (case hv => first | assumption | exact upd_same); (case he => first | exact rfl | exact atI_nat (j := 0) rfl | exact atI_nat (j := 1) rfl | exact atI_nat (j := 2) rfl))
  | ((with_reducible refine' g_gTup ?hv ?he ?_); (case hv => first | assumption | exact upd_same); (case he => exact rfl))
  | ((with_reducible refine' g_tyL ?hv ?_); (case hv => first | assumption | exact upd_same))
  | with_reducible refine g_for1 ?_
  | with_reducible refine g_for2 ?_
  | with_reducible refine g_forL ?_
  | with_reducible refine g_forT ?_
  | with_reducible refine g_lc1 ?_
  | with_reducible refine g_lc2 ?_
  | with_reducible refine g_lcL ?_
  | with_reducible refine g_lcT ?_
  | with_reducible refine g_lcE ?_
  | with_reducible refine g_lcZ ?_
  | with_reducible refine g_rev ?_
  | with_reducible refine g_listRg ?_
  | with_reducible refine g_tupRg ?_
  | with_reducible refine g_rg1 ?_
  | with_reducible refine g_ckw ?_
  | with_reducible refine g_rg2 ?_
  | with_reducible refine g_yes ?_
  | with_reducible refine iteT ?_
  | with_reducible refine iteF ?_
  | with_reducible refine g_ifNT ?_
  | with_reducible refine g_ifNF ?_
  | ((with_reducible refine' g_ifC ?hc ?_); (case hc => exact rfl))
  | ((with_reducible refine' g_ifD ?hc ?_); (case hc => exact rfl))
  | (with_reducible refine ⟨(show List.length _ ≤ sizeLine from Nat.le_of_ble_eq_true (by with_unfolding_all rfl)), ?_⟩)
  | (with_reducible refine ⟨_, rfl, ?_⟩)
  | (with_reducible refine Or.inl ⟨_, rfl, ?_⟩)
  | ((with_reducible refine' ⟨_, _, rfl, Or.inl (SqL.of ?hv), ?_⟩); (case hv => first | assumption | exact upd_same))
  | ((with_reducible refine' ⟨_, _, rfl, Or.inr (SqT.of ?hv), ?_⟩); (case hv => first | assumption | exact upd_same))
  | ((with_reducible refine' g_I ?hc ?_); (case hc => first | (show (0 : Int) < _; omega) | exact Or.inl ⟨by decide, by decide⟩ | exact Or.inr ⟨by decide, by decide⟩ | exact ⟨by decide, by decide +kernel⟩))
  | (with_reducible refine ⟨_, _, rfl, ?_⟩)))
/-- steps of the heap, from its end: tuples stay (k), all stays (s), the deck stands (d), it is drawn from (r), a thing stands beside it (o) -/
local macro_rules | `(tactic| walk_at "k") => `(tactic| first
  | with_reducible assumption
  | with_reducible exact tk_refl
  | ((with_reducible refine tk_step ?_ (by assumption)); walk_at "k")
  | ((with_reducible refine tk_mut ?_ (by assumption)); walk_at "k")
  | ((with_reducible refine tk_same ?_ (by assumption)); walk_at "k")
  | ((with_reducible refine tk_gr ?_ (by assumption) (by walk_at "d")); walk_at "k"))
local macro_rules | `(tactic| walk_at "s") => `(tactic| first
  | with_reducible assumption
  | with_reducible exact Same.refl _
  | ((with_reducible refine same_step ?_ (by assumption)); walk_at "s")
  | ((with_reducible refine Same.trans ?_ (by assumption)); walk_at "s"))
local macro_rules | `(tactic| walk_at "d") => `(tactic| first
  | with_reducible assumption
  | with_reducible exact Gr.at_ (by assumption)
  | ((with_reducible refine dk_step ?_ (by assumption)); walk_at "d")
  | ((with_reducible refine DeckAt.same ?_ (by assumption)); walk_at "d"))
local macro_rules | `(tactic| walk_at "r") => `(tactic| first
  | with_reducible assumption
  | ((with_reducible refine Gr.refl ?_); walk_at "d")
  | ((with_reducible refine Gr.new ?_ (by assumption)); walk_at "r")
  | ((with_reducible refine Gr.mut ?_ (by walk_at "d") (by assumption)); walk_at "r")
  | ((with_reducible refine Gr.same ?_ (by assumption)); walk_at "r")
  | ((with_reducible refine Gr.trans ?_ (by assumption)); walk_at "r"))
local macro_rules | `(tactic| walk_at "o") => `(tactic| first
  | with_reducible assumption
  | (refine Off.new ?_ (by assumption); walk_at "d")
  | ((with_reducible refine Off.step ?_ (by assumption)); walk_at "o")
  | ((with_reducible refine off_same ?_ (by assumption)); walk_at "o")
  | ((with_reducible refine Off.go ?_ (by assumption)); walk_at "o"))

section
variable {P : Program} {w : World} {K : PySem.W.Frag} {mg : Str → Option Value} {base : Heap}
abbrev s__law_deck : Stmt := top 21
theorem sc__law_deck : FnScope ["script", "cells", "cell"] ["script"] (defScope s__law_deck) := ⟨rfl, rfl, rfl, by decide +kernel, rfl, by decide +kernel, by decide +kernel⟩
theorem ok_deck (F : Top K mg "_law_deck" s__law_deck ["script"]) (T : NoB mg) : Def P w K mg base "_law_deck" ["script"] 1 (spDeck K) := by
  obtain ⟨f, fd, F⟩ := F
  refine F.def sc__law_deck (fun vs H Q E h => ?_) (fun cdv A outer s H vs Q E hg hr h => ?_)
  · obtain ⟨a, ns, rfl, _⟩ := h
    rfl
  obtain ⟨a, ns, rfl, hs, hl, k⟩ := h
  have nd := sc__law_deck.nd
  refine ⟨_, (pss_cons (ps_setLc (i := 1) (own := [("cell", 2)]) rfl nd rfl rfl (sw_true rfl rfl rfl (by decide +kernel)) (pi_list (pe_slice sl_list (pv 0) po_none (po_some pe_int))) (blkOk_by (own := [("cell", 2)]) (N := ["script", "cells", "cell"]) (sc := defScope s__law_deck) (by decide +kernel)) (fun _ _ _ _ _ => (pg_name (i := 2) nd rfl (Or.inl rfl))) (fun _ _ _ _ _ => pts_nil) (fun _ _ _ _ _ => (pe_callB call_abs (by rfl) T.abs (by decide +kernel) (pa_cons (pv 2) pa_nil))))
      (pss_one (ps_ret (pe_lst (pa_cons (pe_lc (own := [("cell", 2)]) rfl nd (pi_list (pv 1)) (blkOk_by (own := [("cell", 2)]) (N := ["script", "cells", "cell"]) (sc := defScope s__law_deck) (by decide +kernel)) (fun _ _ _ _ _ => (pg_name (i := 2) nd rfl (Or.inl rfl))) (fun _ _ _ _ _ => pts_one (pt_cmpR op_ge (pv 2) (pe_op op_pow pe_int pe_int) (nomark _))) (fun _ _ _ _ _ => (pv 2))) (pa_cons (pe_op op_cat (pv 1) (pe_lst (pa_cons (pe_op op_add pe_int (pe_callB call_len_seq (by rfl) T.len (by decide +kernel) (pa_cons (pv 1) pa_nil))) pa_nil))) (pa_cons pe_int pa_nil))))))), ?_⟩
  walk_at "g"
  refine ⟨a, _, rfl, hs, fun c0 hc0 => ?_⟩
  have e0 : cutV (ns.map V.int) none (some 63) = ns.map V.int := cut_all (n := 63) _ (by rw [List.length_map]; exact hl)
  rw [e0]
  walk_at "g"
  refine ⟨⟨_, SqL.of upd_same⟩, ?_⟩
  refine c_list (xs := ns.map V.int) (fun D i H' => Same H H' ∧ H' c0 = some (.lst (ns.map V.int)) ∧ H' D = some (.lst (((ns.take i).map fun z => if z < 0 then -z else z).map V.int)) ∧ D ≠ c0 ∧ H D = none)
    (fun D hD => ?_) (fun D i H' p => SqL.of p.2.1) ?_ ?_
  · obtain ⟨n1, n2⟩ := of_upd_none hD
    exact ⟨same_mut (same_new hc0) n2, by rw [upd_ne n1.symm, upd_same], upd_same, n1, n2⟩
  · rintro D i x H' hi ⟨s1, h1, h2, n1, n2⟩
    rw [List.getElem?_map] at hi
    obtain ⟨z, hz, rfl⟩ := Option.map_eq_some_iff.mp hi
    walk_at "g"
    refine ⟨rfl, ?_⟩
    walk_at "g"
    refine ⟨_, h2, small ?_, same_mut s1 n2, by rw [upd_ne n1.symm]; exact h1, ?_, n1, n2⟩
    · rw [List.length_map, List.length_map, List.length_take]
      omega
    · rw [upd_same, take_step hz, List.map_append, List.map_append]
      rfl
  rintro D1 H1 ⟨s1, _, h1, _, n1⟩
  rw [List.length_map, List.take_length] at h1
  generalize ec : (ns.map fun z => if z < 0 then -z else z) = cs at h1
  have lc : cs.length ≤ 63 := by
    rw [← ec, List.length_map]
    exact hl
  walk_at "g"
  refine ⟨⟨_, SqL.of h1⟩, ?_⟩
  refine c_list (xs := cs.map V.int) (fun D i H' => Same H1 H' ∧ H1 D = none ∧ H' D = some (.lst (((cs.take i).filter fun z => decide (1000000000000000000 ≤ z)).map V.int)))
    (fun D hD => ⟨same_new hD, hD, upd_same⟩) (fun D i H' p => SqL.of (p.1 _ _ h1)) ?_ ?_
  · rintro D i x H' hi ⟨s2, n2, h2⟩
    rw [List.getElem?_map] at hi
    obtain ⟨z, hz, rfl⟩ := Option.map_eq_some_iff.mp hi
    walk_at "g"
    refine ⟨rfl, ?_⟩
    walk_at "g"
    refine ite2 (fun h => ?_) (fun h => ?_)
    · walk_at "g"
      refine ⟨_, h2, small ?_, same_mut s2 n2, n2, ?_⟩
      · rw [List.length_map]
        exact Nat.le_trans (List.length_filter_le _ _) (by rw [List.length_take]; omega)
      · rw [upd_same, take_step hz, List.filter_append, List.map_append]
        have hd : decide ((1000000000000000000 : Int) ≤ z) = true := h
        have ef : List.filter (fun z => decide ((1000000000000000000 : Int) ≤ z)) [z] = [z] := by simp [hd]
        rw [ef]
        rfl
    · refine ⟨s2, n2, ?_⟩
      rw [take_step hz, List.filter_append, List.map_append]
      have hd : ¬ decide ((1000000000000000000 : Int) ≤ z) = true := h
      have ef : List.filter (fun z => decide ((1000000000000000000 : Int) ≤ z)) [z] = [] := by simpa using hd
      rw [ef, List.map_nil, List.append_nil]
      exact h2
  rintro D0 H2 ⟨s2, n2, h2⟩
  rw [List.length_map, List.take_length] at h2
  have h12 := s2 _ _ h1
  walk_at "g"
  intro q hq
  have h13 := same_new (o := .lst [V.int (11249 + ((List.map V.int cs).length : Int))]) hq _ _ h12
  refine g_cat h13 upd_same ?_ fun d1 hd1 => ?_
  · rw [List.length_map]
    show cs.length + 1 ≤ _
    omega
  walk_at "g"
  intro dk hdk
  obtain ⟨m1, m2⟩ := of_upd_none hdk
  obtain ⟨m3, m4⟩ := of_upd_none m2
  obtain ⟨o1, o2⟩ := of_upd_none hd1
  have f2 : Same H H2 := s1.trans s2
  have h22 : D0 ≠ q := ne_of_none h2 hq
  have h23 : D0 ≠ d1 := ne_of_none h2 o2
  have h24 : D0 ≠ dk := ne_of_none h2 m4
  have nd0 : H D0 = none := s1.free n2
  have nq : H q = none := f2.free hq
  have nd1 : H d1 = none := f2.free o2
  have ndk : H dk = none := f2.free m4
  refine k ⟨dk, D0, d1, fun _ => False⟩ _ ⟨⟨cs.filter fun z => decide (1000000000000000000 ≤ z), cs ++ [11249 + (cs.length : Int)], 0, upd_same, ?_, ?_, by simp⟩, fun e => h24 e.symm, m1, h23, fun _ z => z.elim⟩ ?_ ndk nd0 nd1
  · show L2.upd _ dk _ D0 = _
    rw [upd_ne h24, upd_ne h23, upd_ne h22]
    exact h2
  · show L2.upd _ dk _ d1 = _
    rw [upd_ne m1.symm, upd_same, List.map_append, List.length_map]
    rfl
  · exact same_mut (same_mut (same_mut f2 nq) nd1) ndk
end
end DW
namespace DW
open PySem PySem.Spec PyProof.Rows L2
/-- the readings, until a question is met -/
local macro_rules | `(tactic| walk_at "g") => `(tactic| repeat (first
  | with_reducible refine g_seq ?_
  | with_reducible refine g_asg ?_
  | with_reducible refine g_name ?_
  | with_reducible refine g_op ?_
  | with_reducible refine g_cons ?_
  | with_reducible refine g_c ?_
  | ((with_reducible refine' g_var ?hv ?_); (case hv => exact rfl))
  | with_reducible refine g_nil ?_
  | with_reducible refine g_I0 ?_
  | with_reducible refine g_cb ?_
  | with_reducible refine g_call ?_
  | with_reducible refine g_callS ?_
  | with_reducible refine g_mkE ?_
  | with_reducible refine g_fld ?_
  | with_reducible refine g_ret ?_
  | with_reducible refine g_retN ?_
  | with_reducible refine g_drop ?_
  | with_reducible refine g_if ?_
  | with_reducible refine g_next ?_
  | with_reducible refine g_un ?_
  | with_reducible refine g_U ?_
  | with_reducible refine g_eqI ?_
  | with_reducible refine g_neI ?_
  | with_reducible refine g_eqS ?_
  | with_reducible refine g_neS ?_
  | with_reducible refine g_tup ?_
  | with_reducible refine g_lst ?_
  | with_reducible refine g_test ?_
  | with_reducible refine g_tif ?_
  | with_reducible refine g_forB ?_
  | with_reducible refine g_forEL ?_
  | with_reducible refine g_forRev ?_
  | with_reducible refine g_for3 ?_
  | with_reducible refine g_B ?_
  | with_reducible refine g_and ?_
  | with_reducible refine g_or ?_
  | with_reducible refine g_not ?_
  | with_reducible refine g_ifE ?_
  | with_reducible refine g_andV ?_
  | with_reducible refine g_orV ?_
  | with_reducible refine g_notV ?_
  | with_reducible refine g_chain ?_
  | with_reducible refine g_chainT ?_
  | with_reducible refine g_no ?_
  | with_reducible refine g_part ?_
  | with_reducible refine g_sl ?_
  | with_reducible refine g_bm ?_
  | with_reducible refine g_bm0 ?_
  | with_reducible refine g_par ?_
  | with_reducible refine g_sub ?_
  | with_reducible refine g_gCons ?_
  | with_reducible refine g_gNil ?_
  | ((with_reducible refine' g_ixL ?hv ?he ?_); (case hv => first | assumption | exact upd_same); (case he => first | exact rfl | exact atI_nat (j := 0) rfl | exact atI_nat (j := 1) rfl | exact atI_nat (j := 2) rfl))
  | ((with_reducible refine' g_ixT ?hv ?he ?_); (case hv => first | assumption | exact upd_same); (case he => first | exact rfl | exact atI_nat (j := 0) rfl | exact atI_nat (j := 1) rfl | exact atI_nat (j := 2) rfl))
  | ((with_reducible refine' g_gTup ?hv ?he ?_); (case hv => first | assumption | exact upd_same); (case he => exact rfl))
  | ((with_reducible refine' g_tyL ?hv ?_); (case hv => first | assumption | exact upd_same))
  | with_reducible refine g_for1 ?_
  | with_reducible refine g_for2 ?_
  | with_reducible refine g_forL ?_
  | with_reducible refine g_forT ?_
  | with_reducible refine g_lc1 ?_
  | with_reducible refine g_lc2 ?_
  | with_reducible refine g_lcL ?_
  | with_reducible refine g_lcT ?_
  | with_reducible refine g_lcE ?_
  | with_reducible refine g_lcZ ?_
  | with_reducible refine g_rev ?_
  | with_reducible refine g_listRg ?_
  | with_reducible refine g_tupRg ?_
  | with_reducible refine g_rg1 ?_
  | with_reducible refine g_ckw ?_
  | with_reducible refine g_rg2 ?_
  | with_reducible refine g_yes ?_
  | with_reducible refine iteT ?_
  | with_reducible refine iteF ?_
  | with_reducible refine g_ifNT ?_
  | with_reducible refine g_ifNF ?_
  | ((with_reducible refine' g_ifC ?hc ?_); (case hc => exact rfl))
  | ((with_reducible refine' g_ifD ?hc ?_); (case hc => exact rfl))
  | (with_reducible refine ⟨(show List.length _ ≤ sizeLine from Nat.le_of_ble_eq_true (by with_unfolding_all rfl)), ?_⟩)
  | (with_reducible refine ⟨_, rfl, ?_⟩)
  | (with_reducible refine Or.inl ⟨_, rfl, ?_⟩)
  | ((with_reducible refine' ⟨_, _, rfl, Or.inl (SqL.of ?hv), ?_⟩); (case hv => first | assumption | exact upd_same))
  | ((with_reducible refine' ⟨_, _, rfl, Or.inr (SqT.of ?hv), ?_⟩); (case hv => first | assumption | exact upd_same))
  | ((with_reducible refine' g_I ?hc ?_); (case hc => first | (show (0 : Int) < _; omega) | exact Or.inl ⟨by decide, by decide⟩ | exact Or.inr ⟨by decide, by decide⟩ | exact ⟨by decide, by decide +kernel⟩))
  | (with_reducible refine ⟨_, _, rfl, ?_⟩)))
/-- steps of the heap, from its end: tuples stay (k), all stays (s), the deck stands (d), it is drawn from (r), a thing stands beside it (o) -/
local macro_rules | `(tactic| walk_at "k") => `(tactic| first
  | with_reducible assumption
  | with_reducible exact tk_refl
  | ((with_reducible refine tk_step ?_ (by assumption)); walk_at "k")
  | ((with_reducible refine tk_mut ?_ (by assumption)); walk_at "k")
  | ((with_reducible refine tk_same ?_ (by assumption)); walk_at "k")
  | ((with_reducible refine tk_gr ?_ (by assumption) (by walk_at "d")); walk_at "k"))
local macro_rules | `(tactic| walk_at "s") => `(tactic| first
  | with_reducible assumption
  | with_reducible exact Same.refl _
  | ((with_reducible refine same_step ?_ (by assumption)); walk_at "s")
  | ((with_reducible refine Same.trans ?_ (by assumption)); walk_at "s"))
local macro_rules | `(tactic| walk_at "d") => `(tactic| first
  | with_reducible assumption
  | with_reducible exact Gr.at_ (by assumption)
  | ((with_reducible refine dk_step ?_ (by assumption)); walk_at "d")
  | ((with_reducible refine DeckAt.same ?_ (by assumption)); walk_at "d"))
local macro_rules | `(tactic| walk_at "r") => `(tactic| first
  | with_reducible assumption
  | ((with_reducible refine Gr.refl ?_); walk_at "d")
  | ((with_reducible refine Gr.new ?_ (by assumption)); walk_at "r")
  | ((with_reducible refine Gr.mut ?_ (by walk_at "d") (by assumption)); walk_at "r")
  | ((with_reducible refine Gr.same ?_ (by assumption)); walk_at "r")
  | ((with_reducible refine Gr.trans ?_ (by assumption)); walk_at "r"))
local macro_rules | `(tactic| walk_at "o") => `(tactic| first
  | with_reducible assumption
  | (refine Off.new ?_ (by assumption); walk_at "d")
  | ((with_reducible refine Off.step ?_ (by assumption)); walk_at "o")
  | ((with_reducible refine off_same ?_ (by assumption)); walk_at "o")
  | ((with_reducible refine Off.go ?_ (by assumption)); walk_at "o"))

section
variable {P : Program} {w : World} {K : PySem.W.Frag} {mg : Str → Option Value} {base : Heap}
abbrev s__law_holds : Stmt := top 28
theorem sc__law_holds : FnScope ["watch", "day"] ["watch", "day"] (defScope s__law_holds) := ⟨rfl, rfl, rfl, by decide +kernel, rfl, by decide +kernel, by decide +kernel⟩
def spHolds : Sp := fun vs H Q _ => ∃ (a : Addr) (p : Int × Int) (d : Int), vs = [.ref a, .int d] ∧ H a = some (.tup [.int p.1, .int p.2]) ∧ 0 < p.1 ∧ Q (.bl (decide ((d - p.2) % p.1 = 0))) H
theorem ok_holds (F : Top K mg "_law_holds" s__law_holds ["watch", "day"]) (T : NoB mg) : Def P w K mg base "_law_holds" ["watch", "day"] 1 spHolds := by
  obtain ⟨f, fd, F⟩ := F
  refine F.def sc__law_holds (fun vs H Q E h => ?_) (fun cdv A outer s H vs Q E hg hr h => ?_)
  · obtain ⟨a, p, d, rfl, _⟩ := h
    rfl
  obtain ⟨a, ⟨t, f'⟩, d, rfl, ha, hp, k⟩ := h
  have hp' : 0 < t := hp
  have nd := sc__law_holds.nd
  refine ⟨_, (pss_one (ps_ret (pe_cmpR op_eq (pe_op op_mod (pe_callTy call_int1 (by rfl) T.int (by decide +kernel) (pa_cons (pe_op op_sub (pv 1) (pe_ix ix_tup (pv 0) pe_int (fun _ _ => rfl))) pa_nil)) (pe_ix ix_tup (pv 0) pe_int (fun _ _ => rfl))) pe_int (nomark _)))), ?_⟩
  walk_at "g"
  exact k
end
end DW
namespace DW
open PySem PySem.Spec PyProof.Rows L2
/-- the readings, until a question is met -/
local macro_rules | `(tactic| walk_at "g") => `(tactic| repeat (first
  | with_reducible refine g_seq ?_
  | with_reducible refine g_asg ?_
  | with_reducible refine g_name ?_
  | with_reducible refine g_op ?_
  | with_reducible refine g_cons ?_
  | with_reducible refine g_c ?_
  | ((with_reducible refine' g_var ?hv ?_); (case hv => exact rfl))
  | with_reducible refine g_nil ?_
  | with_reducible refine g_I0 ?_
  | with_reducible refine g_cb ?_
  | with_reducible refine g_call ?_
  | with_reducible refine g_callS ?_
  | with_reducible refine g_mkE ?_
  | with_reducible refine g_fld ?_
  | with_reducible refine g_ret ?_
  | with_reducible refine g_retN ?_
  | with_reducible refine g_drop ?_
  | with_reducible refine g_if ?_
  | with_reducible refine g_next ?_
  | with_reducible refine g_un ?_
  | with_reducible refine g_U ?_
  | with_reducible refine g_eqI ?_
  | with_reducible refine g_neI ?_
  | with_reducible refine g_eqS ?_
  | with_reducible refine g_neS ?_
  | with_reducible refine g_tup ?_
  | with_reducible refine g_lst ?_
  | with_reducible refine g_test ?_
  | with_reducible refine g_tif ?_
  | with_reducible refine g_forB ?_
  | with_reducible refine g_forEL ?_
  | with_reducible refine g_forRev ?_
  | with_reducible refine g_for3 ?_
  | with_reducible refine g_B ?_
  | with_reducible refine g_and ?_
  | with_reducible refine g_or ?_
  | with_reducible refine g_not ?_
  | with_reducible refine g_ifE ?_
  | with_reducible refine g_andV ?_
  | with_reducible refine g_orV ?_
  | with_reducible refine g_notV ?_
  | with_reducible refine g_chain ?_
  | with_reducible refine g_chainT ?_
  | with_reducible refine g_no ?_
  | with_reducible refine g_part ?_
  | with_reducible refine g_sl ?_
  | with_reducible refine g_bm ?_
  | with_reducible refine g_bm0 ?_
  | with_reducible refine g_par ?_
  | with_reducible refine g_sub ?_
  | with_reducible refine g_gCons ?_
  | with_reducible refine g_gNil ?_
  | ((with_reducible refine' g_ixL ?hv ?he ?_); (case hv => first | assumption | exact upd_same); (case he => first | exact rfl | exact atI_nat (j := 0) rfl | exact atI_nat (j := 1) rfl | exact atI_nat (j := 2) rfl))
  | ((with_reducible refine' g_ixT ?hv ?he ?_); (case hv => first | assumption | exact upd_same); (case he => first | exact rfl | exact atI_nat (j := 0) rfl | exact atI_nat (j := 1) rfl | exact atI_nat (j := 2) rfl))
  | ((with_reducible refine' g_gTup ?hv ?he ?_); (case hv => first | assumption | exact upd_same); (case he => exact rfl))
  | ((with_reducible refine' g_tyL ?hv ?_); (case hv => first | assumption | exact upd_same))
  | with_reducible refine g_for1 ?_
  | with_reducible refine g_for2 ?_
  | with_reducible refine g_forL ?_
  | with_reducible refine g_forT ?_
  | with_reducible refine g_lc1 ?_
  | with_reducible refine g_lc2 ?_
  | with_reducible refine g_lcL ?_
  | with_reducible refine g_lcT ?_
  | with_reducible refine g_lcE ?_
  | with_reducible refine g_lcZ ?_
  | with_reducible refine g_rev ?_
  | with_reducible refine g_listRg ?_
  | with_reducible refine g_tupRg ?_
  | with_reducible refine g_rg1 ?_
  | with_reducible refine g_ckw ?_
  | with_reducible refine g_rg2 ?_
  | with_reducible refine g_yes ?_
  | with_reducible refine iteT ?_
  | with_reducible refine iteF ?_
  | with_reducible refine g_ifNT ?_
  | with_reducible refine g_ifNF ?_
  | ((with_reducible refine' g_ifC ?hc ?_); (case hc => exact rfl))
  | ((with_reducible refine' g_ifD ?hc ?_); (case hc => exact rfl))
  | (with_reducible refine ⟨(show List.length _ ≤ sizeLine from Nat.le_of_ble_eq_true (by with_unfolding_all rfl)), ?_⟩)
  | (with_reducible refine ⟨_, rfl, ?_⟩)
  | (with_reducible refine Or.inl ⟨_, rfl, ?_⟩)
  | ((with_reducible refine' ⟨_, _, rfl, Or.inl (SqL.of ?hv), ?_⟩); (case hv => first | assumption | exact upd_same))
  | ((with_reducible refine' ⟨_, _, rfl, Or.inr (SqT.of ?hv), ?_⟩); (case hv => first | assumption | exact upd_same))
  | ((with_reducible refine' g_I ?hc ?_); (case hc => first | (show (0 : Int) < _; omega) | exact Or.inl ⟨by decide, by decide⟩ | exact Or.inr ⟨by decide, by decide⟩ | exact ⟨by decide, by decide +kernel⟩))
  | (with_reducible refine ⟨_, _, rfl, ?_⟩)))
/-- steps of the heap, from its end: tuples stay (k), all stays (s), the deck stands (d), it is drawn from (r), a thing stands beside it (o) -/
local macro_rules | `(tactic| walk_at "k") => `(tactic| first
  | with_reducible assumption
  | with_reducible exact tk_refl
  | ((with_reducible refine tk_step ?_ (by assumption)); walk_at "k")
  | ((with_reducible refine tk_mut ?_ (by assumption)); walk_at "k")
  | ((with_reducible refine tk_same ?_ (by assumption)); walk_at "k")
  | ((with_reducible refine tk_gr ?_ (by assumption) (by walk_at "d")); walk_at "k"))
local macro_rules | `(tactic| walk_at "s") => `(tactic| first
  | with_reducible assumption
  | with_reducible exact Same.refl _
  | ((with_reducible refine same_step ?_ (by assumption)); walk_at "s")
  | ((with_reducible refine Same.trans ?_ (by assumption)); walk_at "s"))
local macro_rules | `(tactic| walk_at "d") => `(tactic| first
  | with_reducible assumption
  | with_reducible exact Gr.at_ (by assumption)
  | ((with_reducible refine dk_step ?_ (by assumption)); walk_at "d")
  | ((with_reducible refine DeckAt.same ?_ (by assumption)); walk_at "d"))
local macro_rules | `(tactic| walk_at "r") => `(tactic| first
  | with_reducible assumption
  | ((with_reducible refine Gr.refl ?_); walk_at "d")
  | ((with_reducible refine Gr.new ?_ (by assumption)); walk_at "r")
  | ((with_reducible refine Gr.mut ?_ (by walk_at "d") (by assumption)); walk_at "r")
  | ((with_reducible refine Gr.same ?_ (by assumption)); walk_at "r")
  | ((with_reducible refine Gr.trans ?_ (by assumption)); walk_at "r"))
local macro_rules | `(tactic| walk_at "o") => `(tactic| first
  | with_reducible assumption
  | (refine Off.new ?_ (by assumption); walk_at "d")
  | ((with_reducible refine Off.step ?_ (by assumption)); walk_at "o")
  | ((with_reducible refine off_same ?_ (by assumption)); walk_at "o")
  | ((with_reducible refine Off.go ?_ (by assumption)); walk_at "o"))

section
variable {P : Program} {w : World} {K : PySem.W.Frag} {mg : Str → Option Value} {base : Heap}
abbrev s__law_tally : Stmt := top 29
theorem sc__law_tally : FnScope ["lot", "day", "watch"] ["lot", "day"] (defScope s__law_tally) := ⟨rfl, rfl, rfl, by decide +kernel, rfl, by decide +kernel, by decide +kernel⟩
theorem heldUp_count {lot : List (Int × Int)} {d : Int} {n : Nat} {p : Int × Int} (h : lot[n]? = some p) : (heldUp lot d (n + 1)).length = (heldUp lot d n).length + (if Hld p d = true then 1 else 0) := by
  rw [heldUp_step h, List.length_append]
  by_cases z : Hld p d = true
  · rw [if_pos z, if_pos z]
    rfl
  · rw [if_neg z, if_neg z]
    rfl
theorem ok_law_tally (F : Top K mg "_law_tally" s__law_tally ["lot", "day"]) (T : NoB mg) (G_law_holds : Def P w K mg base "_law_holds" ["watch", "day"] 1 spHolds) : Def P w K mg base "_law_tally" ["lot", "day"] 2 spTally := by
  obtain ⟨f, fd, F⟩ := F
  refine F.def sc__law_tally (fun vs H Q E h => ?_) (fun cdv A outer s H vs Q E hg hr h => ?_)
  · obtain ⟨a, lot, d, rfl, _⟩ := h
    rfl
  obtain ⟨a, lot, d, rfl, L, k⟩ := h
  obtain ⟨vs, ea, pr, hvl⟩ := L.vs
  have nd := sc__law_tally.nd
  refine ⟨_, (pss_one (ps_ret (pe_callB call_len_seq (by rfl) T.len (by decide +kernel) (pa_cons (pe_lc (own := [("watch", 2)]) rfl nd (pi_tup (pv 0)) (blkOk_by (own := [("watch", 2)]) (N := ["lot", "day", "watch"]) (sc := defScope s__law_tally) (by decide +kernel)) (fun _ _ _ _ _ => (pg_name (i := 2) nd rfl (Or.inl rfl))) (fun _ _ _ _ _ => pts_one (pt_val (DW.pe_def G_law_holds hg (hr.mono (by omega)) rfl (pa_cons (pv 2) (pa_cons (pv 1) pa_nil))))) (fun _ _ _ _ _ => pe_int)) pa_nil)))), ?_⟩
  walk_at "g"
  refine ⟨⟨_, SqT.of ea⟩, ?_⟩
  refine c_tupP (fun i H' acc => acc.length = (heldUp lot d i).length) (fun _ _ _ _ _ r => r) ea (by have := L.len; omega) rfl ?_ ?_
  · rintro i x H' acc Kt Kf hx s r hl kt kf
    obtain ⟨p, hpr, z, rfl, hz⟩ := pr.get hx
    have hz := s _ _ hz
    have hw := L.ok _ (List.mem_of_getElem? hpr)
    have e := heldUp_count (d := d) hpr
    walk_at "g"
    refine ⟨rfl, ?_⟩
    walk_at "g"
    refine ⟨z, p, d, rfl, hz, by have := hw.1; omega, ?_⟩
    walk_at "g"
    refine ite2 (fun h => ?_) (fun h => ?_)
    · have h : Hld p d = true := h
      rw [if_pos h] at e
      walk_at "g"
      refine kt _ _ (Same.refl _) ?_
      rw [List.length_append, e, r]
      rfl
    · have h : ¬ Hld p d = true := h
      rw [if_neg h] at e
      refine kf _ (Same.refl _) ?_
      rw [e, r]
      rfl
  · rintro D H' acc nD s e hl r
    rw [hvl] at r
    walk_at "g"
    rw [r]
    exact k _ s
end
end DW
namespace DW
open PySem PySem.Spec PyProof.Rows L2
/-- the readings, until a question is met -/
local macro_rules | `(tactic| walk_at "g") => `(tactic| repeat (first
  | with_reducible refine g_seq ?_
  | with_reducible refine g_asg ?_
  | with_reducible refine g_name ?_
  | with_reducible refine g_op ?_
  | with_reducible refine g_cons ?_
  | with_reducible refine g_c ?_
  | ((with_reducible refine' g_var ?hv ?_); (case hv => exact rfl))
  | with_reducible refine g_nil ?_
  | with_reducible refine g_I0 ?_
  | with_reducible refine g_cb ?_
  | with_reducible refine g_call ?_
  | with_reducible refine g_callS ?_
  | with_reducible refine g_mkE ?_
  | with_reducible refine g_fld ?_
  | with_reducible refine g_ret ?_
  | with_reducible refine g_retN ?_
  | with_reducible refine g_drop ?_
  | with_reducible refine g_if ?_
  | with_reducible refine g_next ?_
  | with_reducible refine g_un ?_
  | with_reducible refine g_U ?_
  | with_reducible refine g_eqI ?_
  | with_reducible refine g_neI ?_
  | with_reducible refine g_eqS ?_
  | with_reducible refine g_neS ?_
  | with_reducible refine g_tup ?_
  | with_reducible refine g_lst ?_
  | with_reducible refine g_test ?_
  | with_reducible refine g_tif ?_
  | with_reducible refine g_forB ?_
  | with_reducible refine g_forEL ?_
  | with_reducible refine g_forRev ?_
  | with_reducible refine g_for3 ?_
  | with_reducible refine g_B ?_
  | with_reducible refine g_and ?_
  | with_reducible refine g_or ?_
  | with_reducible refine g_not ?_
  | with_reducible refine g_ifE ?_
  | with_reducible refine g_andV ?_
  | with_reducible refine g_orV ?_
  | with_reducible refine g_notV ?_
  | with_reducible refine g_chain ?_
  | with_reducible refine g_chainT ?_
  | with_reducible refine g_no ?_
  | with_reducible refine g_part ?_
  | with_reducible refine g_sl ?_
  | with_reducible refine g_bm ?_
  | with_reducible refine g_bm0 ?_
  | with_reducible refine g_par ?_
  | with_reducible refine g_sub ?_
  | with_reducible refine g_gCons ?_
  | with_reducible refine g_gNil ?_
  | ((with_reducible refine' g_ixL ?hv ?he ?_); (case hv => first | assumption | exact upd_same); (case he => first | exact rfl | exact atI_nat (j := 0) rfl | exact atI_nat (j := 1) rfl | exact atI_nat (j := 2) rfl))
  | ((with_reducible refine' g_ixT ?hv ?he ?_); (case hv => first | assumption | exact upd_same); (case he => first | exact rfl | exact atI_nat (j := 0) rfl | exact atI_nat (j := 1) rfl | exact atI_nat (j := 2) rfl))
  | ((with_reducible refine' g_gTup ?hv ?he ?_); (case hv => first | assumption | exact upd_same); (case he => exact rfl))
  | ((with_reducible refine' g_tyL ?hv ?_); (case hv => first | assumption | exact upd_same))
  | with_reducible refine g_for1 ?_
  | with_reducible refine g_for2 ?_
  | with_reducible refine g_forL ?_
  | with_reducible refine g_forT ?_
  | with_reducible refine g_lc1 ?_
  | with_reducible refine g_lc2 ?_
  | with_reducible refine g_lcL ?_
  | with_reducible refine g_lcT ?_
  | with_reducible refine g_lcE ?_
  | with_reducible refine g_lcZ ?_
  | with_reducible refine g_rev ?_
  | with_reducible refine g_listRg ?_
  | with_reducible refine g_tupRg ?_
  | with_reducible refine g_rg1 ?_
  | with_reducible refine g_ckw ?_
  | with_reducible refine g_rg2 ?_
  | with_reducible refine g_yes ?_
  | with_reducible refine iteT ?_
  | with_reducible refine iteF ?_
  | with_reducible refine g_ifNT ?_
  | with_reducible refine g_ifNF ?_
  | ((with_reducible refine' g_ifC ?hc ?_); (case hc => exact rfl))
  | ((with_reducible refine' g_ifD ?hc ?_); (case hc => exact rfl))
  | (with_reducible refine ⟨(show List.length _ ≤ sizeLine from Nat.le_of_ble_eq_true (by with_unfolding_all rfl)), ?_⟩)
  | (with_reducible refine ⟨_, rfl, ?_⟩)
  | (with_reducible refine Or.inl ⟨_, rfl, ?_⟩)
  | ((with_reducible refine' ⟨_, _, rfl, Or.inl (SqL.of ?hv), ?_⟩); (case hv => first | assumption | exact upd_same))
  | ((with_reducible refine' ⟨_, _, rfl, Or.inr (SqT.of ?hv), ?_⟩); (case hv => first | assumption | exact upd_same))
  | ((with_reducible refine' g_I ?hc ?_); (case hc => first | (show (0 : Int) < _; omega) | exact Or.inl ⟨by decide, by decide⟩ | exact Or.inr ⟨by decide, by decide⟩ | exact ⟨by decide, by decide +kernel⟩))
  | (with_reducible refine ⟨_, _, rfl, ?_⟩)))
/-- steps of the heap, from its end: tuples stay (k), all stays (s), the deck stands (d), it is drawn from (r), a thing stands beside it (o) -/
local macro_rules | `(tactic| walk_at "k") => `(tactic| first
  | with_reducible assumption
  | with_reducible exact tk_refl
  | ((with_reducible refine tk_step ?_ (by assumption)); walk_at "k")
  | ((with_reducible refine tk_mut ?_ (by assumption)); walk_at "k")
  | ((with_reducible refine tk_same ?_ (by assumption)); walk_at "k")
  | ((with_reducible refine tk_gr ?_ (by assumption) (by walk_at "d")); walk_at "k"))
local macro_rules | `(tactic| walk_at "s") => `(tactic| first
  | with_reducible assumption
  | with_reducible exact Same.refl _
  | ((with_reducible refine same_step ?_ (by assumption)); walk_at "s")
  | ((with_reducible refine Same.trans ?_ (by assumption)); walk_at "s"))
local macro_rules | `(tactic| walk_at "d") => `(tactic| first
  | with_reducible assumption
  | with_reducible exact Gr.at_ (by assumption)
  | ((with_reducible refine dk_step ?_ (by assumption)); walk_at "d")
  | ((with_reducible refine DeckAt.same ?_ (by assumption)); walk_at "d"))
local macro_rules | `(tactic| walk_at "r") => `(tactic| first
  | with_reducible assumption
  | ((with_reducible refine Gr.refl ?_); walk_at "d")
  | ((with_reducible refine Gr.new ?_ (by assumption)); walk_at "r")
  | ((with_reducible refine Gr.mut ?_ (by walk_at "d") (by assumption)); walk_at "r")
  | ((with_reducible refine Gr.same ?_ (by assumption)); walk_at "r")
  | ((with_reducible refine Gr.trans ?_ (by assumption)); walk_at "r"))
local macro_rules | `(tactic| walk_at "o") => `(tactic| first
  | with_reducible assumption
  | (refine Off.new ?_ (by assumption); walk_at "d")
  | ((with_reducible refine Off.step ?_ (by assumption)); walk_at "o")
  | ((with_reducible refine off_same ?_ (by assumption)); walk_at "o")
  | ((with_reducible refine Off.go ?_ (by assumption)); walk_at "o"))

section
variable {P : Program} {w : World} {K : PySem.W.Frag} {mg : Str → Option Value} {base : Heap}
/-- the tallies of so many days in a row -/
def tl (lot : List (Int × Int)) (d : Int) (N : Nat) : List V := (List.range N).map fun k => V.int (tallyZ lot (d + ((k : Nat) : Int)))
theorem tally_snoc {lot : List (Int × Int)} {p : Int × Int} {x : Int} : tallyZ (lot ++ [p]) x = tallyZ lot x + (if Hld p x = true then 1 else 0) := by
  rw [tally_filter, tally_filter, List.filter_append, List.length_append]
  by_cases h : Hld p x = true
  · rw [if_pos h, show [p].filter (fun p => Hld p x) = [p] by simp [h]]
    rfl
  · rw [if_neg h, show [p].filter (fun p => Hld p x) = [] by simp [h]]
    rfl
theorem tally_nil {x : Int} : tallyZ [] x = 0 := rfl
def spTallies : Sp := fun vs H Q _ => ∃ (a : Addr) (lot : List (Int × Int)) (d : Int) (N : Nat), vs = [.ref a, .int d, .int (N : Int)] ∧ Lot H a lot ∧ N ≤ 100000 ∧
  ∀ p H', H p = none → Same H H' → H' p = some (.lst (tl lot d N)) → Q (.ref p) H'
abbrev s_tallies_from : Stmt := top 9
theorem sc_tallies_from : FnScope ["lot", "begin", "many", "told", "turn", "first", "place"] ["lot", "begin", "many"] (defScope s_tallies_from) := ⟨rfl, rfl, rfl, by decide +kernel, rfl, by decide +kernel, by decide +kernel⟩
theorem ok_tallies (F : Top K mg "tallies_from" s_tallies_from ["lot", "begin", "many"]) (T : NoB mg) : Def P w K mg base "tallies_from" ["lot", "begin", "many"] 1 spTallies := by
  obtain ⟨f, fd, F⟩ := F
  refine F.def sc_tallies_from (fun vs H Q E h => ?_) (fun cdv A outer s H vs Q E hg hr h => ?_)
  · obtain ⟨a, lot, d, N, rfl, _⟩ := h
    rfl
  obtain ⟨a, lot, d, N, rfl, L, hN, k⟩ := h
  obtain ⟨vs, ea, pr, hvl⟩ := L.vs
  have nd := sc_tallies_from.nd
  refine ⟨_, (pss_cons (ps_set (i := 3) nd rfl (Or.inl rfl) (pe_op op_rep (pe_lst (pa_cons pe_int pa_nil)) (pv 2)))
      (pss_cons (ps_for PassesOwn.never rfl (pi_tup (pv 0)) (pg_tup rfl (pgs_cons (pg_name (i := 4) nd rfl (Or.inl rfl)) (pgs_cons (pg_name (i := 5) nd rfl (Or.inl rfl)) pgs_nil))) (pss_one (ps_for PassesOwn.never rfl (DW.pi_rangeB rfl T.range (pa_cons (pe_op op_mod (pe_op op_sub (pv 5) (pv 1)) (pv 4)) (pa_cons (pv 2) (pa_cons (pv 4) pa_nil)))) (pg_name (i := 6) nd rfl (Or.inl rfl)) (pss_one (ps_asg (pe_op op_add (pe_ix ix_list (pv 3) (pv 6) (fun _ _ => rfl)) pe_int) (pg_sub (pv 3) (pv 6) set_list))))))
      (pss_one (ps_ret (pv 3))))), ?_⟩
  walk_at "g"
  intro p0 hp0
  walk_at "g"
  refine ⟨p0, (N : Int), [.int 0], rfl, rfl, upd_same, by omega, by omega, by rw [Int.toNat_natCast]; have := small (n := N) (by omega); simp; omega, fun p hp => ?_⟩
  rw [Int.toNat_natCast, rep_one]
  obtain ⟨hpp, hpH⟩ := of_upd_none hp
  have s0 : Same H (L2.upd (L2.upd H p0 (.lst [.int 0])) p (.lst ((List.range N).map fun _ => V.int 0))) := by walk_at "s"
  have e0 := (upd_same : L2.upd (L2.upd H p0 (.lst [.int 0])) p (.lst ((List.range N).map fun _ => V.int 0)) p = _)
  generalize L2.upd (L2.upd H p0 (.lst [.int 0])) p (.lst ((List.range N).map fun _ => V.int 0)) = H0 at s0 e0 ⊢
  walk_at "g"
  refine ⟨⟨_, SqT.of (s0 _ _ ea)⟩, ?_⟩
  refine f_tup (xs := vs) (fun i σ H' => ∃ v4 v5 v6 : Option V, σ = [some (.ref a), some (.int d), some (.int (N : Int)), some (.ref p), v4, v5, v6] ∧ Same H H' ∧ H' p = some (.lst (tl (lot.take i) d N)))
    ⟨none, none, none, rfl, s0, e0⟩ (fun i σ H' ⟨_, _, _, _, s, _⟩ => s _ _ ea) ?_ ?_
  · rintro i x σ H' hx ⟨v4, v5, v6, rfl, s, e⟩
    obtain ⟨⟨t, f'⟩, hpr, z, rfl, hz⟩ := pr.get hx
    have hz := s _ _ hz
    obtain ⟨w1, w2, w3, w4⟩ := L.ok _ (List.mem_of_getElem? hpr)
    have w1 : 1 ≤ t := w1
    have w2 : t ≤ 1000000000000 := w2
    have m0 := Int.emod_nonneg (f' - d) (show t ≠ 0 by omega)
    have m1 := Int.emod_lt_of_pos (f' - d) (show 0 < t by omega)
    walk_at "g"
    refine ⟨_, _, _, rfl, show 0 < t by omega, show t < 2 ^ 62 by omega, m0, show (f' - d) % t < 2 ^ 62 by omega, by omega, by omega, ?_⟩
    refine f_rangeC (fun j σ H1 => ∃ v6 : Option V, σ = [some (.ref a), some (.int d), some (.int (N : Int)), some (.ref p), some (.int t), some (.int f'), v6] ∧ Same H H1 ∧
        H1 p = some (.lst ((List.range N).map fun k => V.int (tallyZ (lot.take i) (d + ((k : Nat) : Int)) + (if ∃ j', j' < j ∧ ((k : Nat) : Int) = (f' - d) % t + ((j' : Nat) : Int) * t then 1 else 0)))))
      ⟨_, rfl, s, by rw [e]; unfold tl; simp⟩ ?_ ?_
    · rintro j σ H1 hj ⟨v6, rfl, s1, e1⟩
      have hq := turns_in (show 0 < t by omega) hj
      have hj0 : 0 ≤ (j : Int) * t := Int.mul_nonneg (by omega) (by omega)
      obtain ⟨q, hq'⟩ : ∃ q : Nat, (q : Int) = (f' - d) % t + (j : Int) * t := ⟨((f' - d) % t + (j : Int) * t).toNat, by omega⟩
      rw [← hq'] at hq ⊢
      have hqN : q < N := by omega
      walk_at "g"
      walk_at "g"
      refine g_ixL e1 (atI_nat (by rw [List.getElem?_map, List.getElem?_range hqN]; rfl)) ?_
      walk_at "g"
      have hno : ¬ ∃ j', j' < j ∧ ((q : Nat) : Int) = (f' - d) % t + ((j' : Nat) : Int) * t := by
        rintro ⟨j', h1, h2⟩
        have h3 : ((j' : Nat) : Int) * t < (j : Int) * t := Int.mul_lt_mul_of_pos_right (by omega) (by omega)
        omega
      rw [if_neg hno]
      refine g_setL e1 (ixn (by rw [List.length_map, List.length_range]; exact hqN)) ?_
      refine ⟨_, rfl, same_mut s1 hpH, ?_⟩
      rw [upd_same, map_set]
      refine congrArg (fun l => some (HO.lst l)) (List.map_congr_left fun k hk => ?_)
      by_cases ek : k = q
      · subst ek
        rw [if_pos rfl, if_pos ⟨j, by omega, hq'⟩, Int.add_zero]
      · rw [if_neg ek]
        have : (∃ j', j' < j ∧ ((k : Nat) : Int) = (f' - d) % t + ((j' : Nat) : Int) * t) ↔ ∃ j', j' < j + 1 ∧ ((k : Nat) : Int) = (f' - d) % t + ((j' : Nat) : Int) * t := by
          constructor
          · rintro ⟨j', h1, h2⟩
            exact ⟨j', by omega, h2⟩
          · rintro ⟨j', h1, h2⟩
            by_cases ej : j' = j
            · subst ej
              omega
            · exact ⟨j', by omega, h2⟩
        simp only [this]
    · rintro σ H1 ⟨v6, rfl, s1, e1⟩
      walk_at "g"
      refine ⟨_, _, _, rfl, s1, ?_⟩
      rw [e1, take_step hpr]
      refine congrArg (fun l => some (HO.lst l)) (List.map_congr_left fun k hk => ?_)
      have hk := List.mem_range.mp hk
      rw [tally_snoc]
      have : (∃ j', j' < turns ((f' - d) % t) (N : Int) t ∧ ((k : Nat) : Int) = (f' - d) % t + ((j' : Nat) : Int) * t) ↔ Hld (t, f') (d + ((k : Nat) : Int)) = true := by
        unfold Hld
        rw [decide_eq_true_eq]
        show _ ↔ (d + ((k : Nat) : Int) - f') % t = 0
        have hdm := Int.mul_ediv_add_emod (f' - d) t
        constructor
        · rintro ⟨j', h1, h2⟩
          rw [show d + ((k : Nat) : Int) - f' = t * (-((f' - d) / t) + (j' : Int)) by rw [Int.mul_add, Int.mul_neg, Int.mul_comm t (j' : Int)]; omega]
          exact Int.mul_emod_right _ _
        · intro h
          have h5 : (((k : Nat) : Int) - (f' - d) % t) % t = 0 := by
            rw [show ((k : Nat) : Int) - (f' - d) % t = d + ((k : Nat) : Int) - f' + t * ((f' - d) / t) by omega, Int.add_mul_emod_self_left]
            exact h
          have h6 : (f' - d) % t ≤ ((k : Nat) : Int) := by
            refine Classical.byContradiction fun hn => ?_
            have hdv := Int.dvd_of_emod_eq_zero h5
            have hneg : t ∣ (f' - d) % t - ((k : Nat) : Int) := by
              have := Int.dvd_neg.mpr hdv
              rwa [show -(((k : Nat) : Int) - (f' - d) % t) = (f' - d) % t - ((k : Nat) : Int) by omega] at this
            have := Int.le_of_dvd (by omega) hneg
            omega
          exact turns_all (by omega) h6 (by omega) h5
      simp only [this]
  · rintro σ H1 ⟨v4, v5, v6, rfl, s, e⟩
    walk_at "g"
    rw [hvl, List.take_length] at e
    exact k p H1 hpH s e
end
end DW
namespace DW
open PySem PySem.Spec PyProof.Rows L2
/-- the readings, until a question is met -/
local macro_rules | `(tactic| walk_at "g") => `(tactic| repeat (first
  | with_reducible refine g_seq ?_
  | with_reducible refine g_asg ?_
  | with_reducible refine g_name ?_
  | with_reducible refine g_op ?_
  | with_reducible refine g_cons ?_
  | with_reducible refine g_c ?_
  | ((with_reducible refine' g_var ?hv ?_); (case hv => exact rfl))
  | with_reducible refine g_nil ?_
  | with_reducible refine g_I0 ?_
  | with_reducible refine g_cb ?_
  | with_reducible refine g_call ?_
  | with_reducible refine g_callS ?_
  | with_reducible refine g_mkE ?_
  | with_reducible refine g_fld ?_
  | with_reducible refine g_ret ?_
  | with_reducible refine g_retN ?_
  | with_reducible refine g_drop ?_
  | with_reducible refine g_if ?_
  | with_reducible refine g_next ?_
  | with_reducible refine g_un ?_
  | with_reducible refine g_U ?_
  | with_reducible refine g_eqI ?_
  | with_reducible refine g_neI ?_
  | with_reducible refine g_eqS ?_
  | with_reducible refine g_neS ?_
  | with_reducible refine g_tup ?_
  | with_reducible refine g_lst ?_
  | with_reducible refine g_test ?_
  | with_reducible refine g_tif ?_
  | with_reducible refine g_forB ?_
  | with_reducible refine g_forEL ?_
  | with_reducible refine g_forRev ?_
  | with_reducible refine g_for3 ?_
  | with_reducible refine g_B ?_
  | with_reducible refine g_and ?_
  | with_reducible refine g_or ?_
  | with_reducible refine g_not ?_
  | with_reducible refine g_ifE ?_
  | with_reducible refine g_andV ?_
  | with_reducible refine g_orV ?_
  | with_reducible refine g_notV ?_
  | with_reducible refine g_chain ?_
  | with_reducible refine g_chainT ?_
  | with_reducible refine g_no ?_
  | with_reducible refine g_part ?_
  | with_reducible refine g_sl ?_
  | with_reducible refine g_bm ?_
  | with_reducible refine g_bm0 ?_
  | with_reducible refine g_par ?_
  | with_reducible refine g_sub ?_
  | with_reducible refine g_gCons ?_
  | with_reducible refine g_gNil ?_
  | ((with_reducible refine' g_ixL ?hv ?he ?_); (case hv => first | assumption | exact upd_same); (case he => first | exact rfl | exact atI_nat (j := 0) rfl | exact atI_nat (j := 1) rfl | exact atI_nat (j := 2) rfl))
  | ((with_reducible refine' g_ixT ?hv ?he ?_); (case hv => first | assumption | exact upd_same); (case he => first | exact rfl | exact atI_nat (j := 0) rfl | exact atI_nat (j := 1) rfl | exact atI_nat (j := 2) rfl))
  | ((with_reducible refine' g_gTup ?hv ?he ?_); (case hv => first | assumption | exact upd_same); (case he => exact rfl))
  | ((with_reducible refine' g_tyL ?hv ?_); (case hv => first | assumption | exact upd_same))
  | with_reducible refine g_for1 ?_
  | with_reducible refine g_for2 ?_
  | with_reducible refine g_forL ?_
  | with_reducible refine g_forT ?_
  | with_reducible refine g_lc1 ?_
  | with_reducible refine g_lc2 ?_
  | with_reducible refine g_lcL ?_
  | with_reducible refine g_lcT ?_
  | with_reducible refine g_lcE ?_
  | with_reducible refine g_lcZ ?_
  | with_reducible refine g_rev ?_
  | with_reducible refine g_listRg ?_
  | with_reducible refine g_tupRg ?_
  | with_reducible refine g_rg1 ?_
  | with_reducible refine g_ckw ?_
  | with_reducible refine g_rg2 ?_
  | with_reducible refine g_yes ?_
  | with_reducible refine iteT ?_
  | with_reducible refine iteF ?_
  | with_reducible refine g_ifNT ?_
  | with_reducible refine g_ifNF ?_
  | ((with_reducible refine' g_ifC ?hc ?_); (case hc => exact rfl))
  | ((with_reducible refine' g_ifD ?hc ?_); (case hc => exact rfl))
  | (with_reducible refine ⟨(show List.length _ ≤ sizeLine from Nat.le_of_ble_eq_true (by with_unfolding_all rfl)), ?_⟩)
  | (with_reducible refine ⟨_, rfl, ?_⟩)
  | (with_reducible refine Or.inl ⟨_, rfl, ?_⟩)
  | ((with_reducible refine' ⟨_, _, rfl, Or.inl (SqL.of ?hv), ?_⟩); (case hv => first | assumption | exact upd_same))
  | ((with_reducible refine' ⟨_, _, rfl, Or.inr (SqT.of ?hv), ?_⟩); (case hv => first | assumption | exact upd_same))
  | ((with_reducible refine' g_I ?hc ?_); (case hc => first | (show (0 : Int) < _; omega) | exact Or.inl ⟨by decide, by decide⟩ | exact Or.inr ⟨by decide, by decide⟩ | exact ⟨by decide, by decide +kernel⟩))
  | (with_reducible refine ⟨_, _, rfl, ?_⟩)))
/-- steps of the heap, from its end: tuples stay (k), all stays (s), the deck stands (d), it is drawn from (r), a thing stands beside it (o) -/
local macro_rules | `(tactic| walk_at "k") => `(tactic| first
  | with_reducible assumption
  | with_reducible exact tk_refl
  | ((with_reducible refine tk_step ?_ (by assumption)); walk_at "k")
  | ((with_reducible refine tk_mut ?_ (by assumption)); walk_at "k")
  | ((with_reducible refine tk_same ?_ (by assumption)); walk_at "k")
  | ((with_reducible refine tk_gr ?_ (by assumption) (by walk_at "d")); walk_at "k"))
local macro_rules | `(tactic| walk_at "s") => `(tactic| first
  | with_reducible assumption
  | with_reducible exact Same.refl _
  | ((with_reducible refine same_step ?_ (by assumption)); walk_at "s")
  | ((with_reducible refine Same.trans ?_ (by assumption)); walk_at "s"))
local macro_rules | `(tactic| walk_at "d") => `(tactic| first
  | with_reducible assumption
  | with_reducible exact Gr.at_ (by assumption)
  | ((with_reducible refine dk_step ?_ (by assumption)); walk_at "d")
  | ((with_reducible refine DeckAt.same ?_ (by assumption)); walk_at "d"))
local macro_rules | `(tactic| walk_at "r") => `(tactic| first
  | with_reducible assumption
  | ((with_reducible refine Gr.refl ?_); walk_at "d")
  | ((with_reducible refine Gr.new ?_ (by assumption)); walk_at "r")
  | ((with_reducible refine Gr.mut ?_ (by walk_at "d") (by assumption)); walk_at "r")
  | ((with_reducible refine Gr.same ?_ (by assumption)); walk_at "r")
  | ((with_reducible refine Gr.trans ?_ (by assumption)); walk_at "r"))
local macro_rules | `(tactic| walk_at "o") => `(tactic| first
  | with_reducible assumption
  | (refine Off.new ?_ (by assumption); walk_at "d")
  | ((with_reducible refine Off.step ?_ (by assumption)); walk_at "o")
  | ((with_reducible refine off_same ?_ (by assumption)); walk_at "o")
  | ((with_reducible refine Off.go ?_ (by assumption)); walk_at "o"))

section
variable {P : Program} {w : World} {K : PySem.W.Frag} {mg : Str → Option Value} {base : Heap}
abbrev s_enough_days : Stmt := top 10
theorem sc_enough_days : FnScope ["lot"] ["lot"] (defScope s_enough_days) := ⟨rfl, rfl, rfl, by decide +kernel, rfl, by decide +kernel, by decide +kernel⟩
def spEnough : Sp := fun vs H Q _ => ∃ (a : Addr) (lot : List (Int × Int)), vs = [.ref a] ∧ Lot H a lot ∧ Q (.int ((2 ^ lot.length : Nat) : Int)) H
theorem ok_enough (F : Top K mg "enough_days" s_enough_days ["lot"]) (T : NoB mg) : Def P w K mg base "enough_days" ["lot"] 1 spEnough := by
  obtain ⟨f, fd, F⟩ := F
  refine F.def sc_enough_days (fun vs H Q E h => ?_) (fun cdv A outer s H vs Q E hg hr h => ?_)
  · obtain ⟨a, lot, rfl, _⟩ := h
    rfl
  obtain ⟨a, lot, rfl, L, k⟩ := h
  obtain ⟨vs, ea, pr, hvl⟩ := L.vs
  have nd := sc_enough_days.nd
  refine ⟨_, (pss_one (ps_ret (pe_op op_shl pe_int (pe_callB call_len_seq (by rfl) T.len (by decide +kernel) (pa_cons (pv 0) pa_nil))))), ?_⟩
  walk_at "g"
  rw [hvl]
  refine g_I ?_ ?_
  · exact ⟨by omega, by have := L.len; omega, by decide⟩
  · rw [Int.toNat_natCast, Int.one_mul]
    rw [Int.natCast_pow] at k
    exact k
end
end DW
namespace DW
open PySem PySem.Spec PyProof.Rows L2
/-- the readings, until a question is met -/
local macro_rules | `(tactic| walk_at "g") => `(tactic| repeat (first
  | with_reducible refine g_seq ?_
  | with_reducible refine g_asg ?_
  | with_reducible refine g_name ?_
  | with_reducible refine g_op ?_
  | with_reducible refine g_cons ?_
  | with_reducible refine g_c ?_
  | ((with_reducible refine' g_var ?hv ?_); (case hv => exact rfl))
  | with_reducible refine g_nil ?_
  | with_reducible refine g_I0 ?_
  | with_reducible refine g_cb ?_
  | with_reducible refine g_call ?_
  | with_reducible refine g_callS ?_
  | with_reducible refine g_mkE ?_
  | with_reducible refine g_fld ?_
  | with_reducible refine g_ret ?_
  | with_reducible refine g_retN ?_
  | with_reducible refine g_drop ?_
  | with_reducible refine g_if ?_
  | with_reducible refine g_next ?_
  | with_reducible refine g_un ?_
  | with_reducible refine g_U ?_
  | with_reducible refine g_eqI ?_
  | with_reducible refine g_neI ?_
  | with_reducible refine g_eqS ?_
  | with_reducible refine g_neS ?_
  | with_reducible refine g_tup ?_
  | with_reducible refine g_lst ?_
  | with_reducible refine g_test ?_
  | with_reducible refine g_tif ?_
  | with_reducible refine g_forB ?_
  | with_reducible refine g_forEL ?_
  | with_reducible refine g_forRev ?_
  | with_reducible refine g_for3 ?_
  | with_reducible refine g_B ?_
  | with_reducible refine g_and ?_
  | with_reducible refine g_or ?_
  | with_reducible refine g_not ?_
  | with_reducible refine g_ifE ?_
  | with_reducible refine g_andV ?_
  | with_reducible refine g_orV ?_
  | with_reducible refine g_notV ?_
  | with_reducible refine g_chain ?_
  | with_reducible refine g_chainT ?_
  | with_reducible refine g_no ?_
  | with_reducible refine g_part ?_
  | with_reducible refine g_sl ?_
  | with_reducible refine g_bm ?_
  | with_reducible refine g_bm0 ?_
  | with_reducible refine g_par ?_
  | with_reducible refine g_sub ?_
  | with_reducible refine g_gCons ?_
  | with_reducible refine g_gNil ?_
  | ((with_reducible refine' g_ixL ?hv ?he ?_); (case hv => first | assumption | exact upd_same); (case he => first | exact rfl | exact atI_nat (j := 0) rfl | exact atI_nat (j := 1) rfl | exact atI_nat (j := 2) rfl))
  | ((with_reducible refine' g_ixT ?hv ?he ?_); (case hv => first | assumption | exact upd_same); (case he => first | exact rfl | exact atI_nat (j := 0) rfl | exact atI_nat (j := 1) rfl | exact atI_nat (j := 2) rfl))
  | ((with_reducible refine' g_gTup ?hv ?he ?_); (case hv => first | assumption | exact upd_same); (case he => exact rfl))
  | ((with_reducible refine' g_tyL ?hv ?_); (case hv => first | assumption | exact upd_same))
  | with_reducible refine g_for1 ?_
  | with_reducible refine g_for2 ?_
  | with_reducible refine g_forL ?_
  | with_reducible refine g_forT ?_
  | with_reducible refine g_lc1 ?_
  | with_reducible refine g_lc2 ?_
  | with_reducible refine g_lcL ?_
  | with_reducible refine g_lcT ?_
  | with_reducible refine g_lcE ?_
  | with_reducible refine g_lcZ ?_
  | with_reducible refine g_rev ?_
  | with_reducible refine g_listRg ?_
  | with_reducible refine g_tupRg ?_
  | with_reducible refine g_rg1 ?_
  | with_reducible refine g_ckw ?_
  | with_reducible refine g_rg2 ?_
  | with_reducible refine g_yes ?_
  | with_reducible refine iteT ?_
  | with_reducible refine iteF ?_
  | with_reducible refine g_ifNT ?_
  | with_reducible refine g_ifNF ?_
  | ((with_reducible refine' g_ifC ?hc ?_); (case hc => exact rfl))
  | ((with_reducible refine' g_ifD ?hc ?_); (case hc => exact rfl))
  | (with_reducible refine ⟨(show List.length _ ≤ sizeLine from Nat.le_of_ble_eq_true (by with_unfolding_all rfl)), ?_⟩)
  | (with_reducible refine ⟨_, rfl, ?_⟩)
  | (with_reducible refine Or.inl ⟨_, rfl, ?_⟩)
  | ((with_reducible refine' ⟨_, _, rfl, Or.inl (SqL.of ?hv), ?_⟩); (case hv => first | assumption | exact upd_same))
  | ((with_reducible refine' ⟨_, _, rfl, Or.inr (SqT.of ?hv), ?_⟩); (case hv => first | assumption | exact upd_same))
  | ((with_reducible refine' g_I ?hc ?_); (case hc => first | (show (0 : Int) < _; omega) | exact Or.inl ⟨by decide, by decide⟩ | exact Or.inr ⟨by decide, by decide⟩ | exact ⟨by decide, by decide +kernel⟩))
  | (with_reducible refine ⟨_, _, rfl, ?_⟩)))
/-- steps of the heap, from its end: tuples stay (k), all stays (s), the deck stands (d), it is drawn from (r), a thing stands beside it (o) -/
local macro_rules | `(tactic| walk_at "k") => `(tactic| first
  | with_reducible assumption
  | with_reducible exact tk_refl
  | ((with_reducible refine tk_step ?_ (by assumption)); walk_at "k")
  | ((with_reducible refine tk_mut ?_ (by assumption)); walk_at "k")
  | ((with_reducible refine tk_same ?_ (by assumption)); walk_at "k")
  | ((with_reducible refine tk_gr ?_ (by assumption) (by walk_at "d")); walk_at "k"))
local macro_rules | `(tactic| walk_at "s") => `(tactic| first
  | with_reducible assumption
  | with_reducible exact Same.refl _
  | ((with_reducible refine same_step ?_ (by assumption)); walk_at "s")
  | ((with_reducible refine Same.trans ?_ (by assumption)); walk_at "s"))
local macro_rules | `(tactic| walk_at "d") => `(tactic| first
  | with_reducible assumption
  | with_reducible exact Gr.at_ (by assumption)
  | ((with_reducible refine dk_step ?_ (by assumption)); walk_at "d")
  | ((with_reducible refine DeckAt.same ?_ (by assumption)); walk_at "d"))
local macro_rules | `(tactic| walk_at "r") => `(tactic| first
  | with_reducible assumption
  | ((with_reducible refine Gr.refl ?_); walk_at "d")
  | ((with_reducible refine Gr.new ?_ (by assumption)); walk_at "r")
  | ((with_reducible refine Gr.mut ?_ (by walk_at "d") (by assumption)); walk_at "r")
  | ((with_reducible refine Gr.same ?_ (by assumption)); walk_at "r")
  | ((with_reducible refine Gr.trans ?_ (by assumption)); walk_at "r"))
local macro_rules | `(tactic| walk_at "o") => `(tactic| first
  | with_reducible assumption
  | (refine Off.new ?_ (by assumption); walk_at "d")
  | ((with_reducible refine Off.step ?_ (by assumption)); walk_at "o")
  | ((with_reducible refine off_same ?_ (by assumption)); walk_at "o")
  | ((with_reducible refine Off.go ?_ (by assumption)); walk_at "o"))

section
variable {P : Program} {w : World} {K : PySem.W.Frag} {mg : Str → Option Value} {base : Heap}
theorem pow_small {lot : List (Int × Int)} (h : lot.length ≤ 10) : 2 ^ lot.length ≤ 1024 := Nat.le_trans (Nat.pow_le_pow_right (by decide) h) (by decide : 2 ^ 10 ≤ 1024)
abbrev s_few_tallies : Stmt := top 12
theorem sc_few_tallies : FnScope ["lot"] ["lot"] (defScope s_few_tallies) := ⟨rfl, rfl, rfl, by decide +kernel, rfl, by decide +kernel, by decide +kernel⟩
def spFew : Sp := fun vs H Q _ => ∃ (a : Addr) (lot : List (Int × Int)), vs = [.ref a] ∧ Lot H a lot ∧
  ∀ p H', H p = none → Same H H' → H' p = some (.lst (tl lot 0 (2 ^ lot.length))) → Q (.ref p) H'
theorem ok_few (F : Top K mg "few_tallies" s_few_tallies ["lot"]) (T : NoB mg) (Gtallies_from : Def P w K mg base "tallies_from" ["lot", "begin", "many"] 1 spTallies) (Genough_days : Def P w K mg base "enough_days" ["lot"] 1 spEnough) : Def P w K mg base "few_tallies" ["lot"] 2 spFew := by
  obtain ⟨f, fd, F⟩ := F
  refine F.def sc_few_tallies (fun vs H Q E h => ?_) (fun cdv A outer s H vs Q E hg hr h => ?_)
  · obtain ⟨a, lot, rfl, _⟩ := h
    rfl
  obtain ⟨a, lot, rfl, L, k⟩ := h
  have hp := pow_small L.len
  have nd := sc_few_tallies.nd
  refine ⟨_, (pss_one (ps_ret (DW.pe_def Gtallies_from hg (hr.mono (by omega)) rfl (pa_cons (pv 0) (pa_cons pe_int (pa_cons (DW.pe_def Genough_days hg (hr.mono (by omega)) rfl (pa_cons (pv 0) pa_nil)) pa_nil)))))), ?_⟩
  walk_at "g"
  refine ⟨a, lot, rfl, L, ?_⟩
  walk_at "g"
  exact ⟨a, lot, 0, _, rfl, L, by omega, fun p H' n s e => k p H' n s e⟩
abbrev s_open_day : Stmt := top 13
theorem sc_open_day : FnScope ["lot", "least", "day", "held"] ["lot", "least"] (defScope s_open_day) := ⟨rfl, rfl, rfl, by decide +kernel, rfl, by decide +kernel, by decide +kernel⟩
def spOpenDay : Sp := fun vs H Q _ => ∃ (a : Addr) (lot : List (Int × Int)) (m : Int), vs = [.ref a, .int m] ∧ Lot H a lot ∧ ∀ H', Same H H' → Q (oV (firstLow lot m (2 ^ lot.length))) H'
theorem ok_open_day (F : Top K mg "open_day" s_open_day ["lot", "least"]) (T : NoB mg) (Gfew_tallies : Def P w K mg base "few_tallies" ["lot"] 2 spFew) : Def P w K mg base "open_day" ["lot", "least"] 3 spOpenDay := by
  obtain ⟨f, fd, F⟩ := F
  refine F.def sc_open_day (fun vs H Q E h => ?_) (fun cdv A outer s H vs Q E hg hr h => ?_)
  · obtain ⟨a, lot, m, rfl, _⟩ := h
    rfl
  obtain ⟨a, lot, m, rfl, L, k⟩ := h
  have nd := sc_open_day.nd
  refine ⟨_, (pss_cons (ps_for PassesOwn.never rfl (pi_enum (by rfl) T.enumerate (pa_cons (DW.pe_def Gfew_tallies hg (hr.mono (by omega)) rfl (pa_cons (pv 0) pa_nil)) pa_nil)) (pg_tup rfl (pgs_cons (pg_name (i := 2) nd rfl (Or.inl rfl)) (pgs_cons (pg_name (i := 3) nd rfl (Or.inl rfl)) pgs_nil))) (pss_one (ps_if (pt_cmpR op_lt (pv 3) (pv 1) (nomark _)) (pss_one (ps_ret (pv 2))) pss_nil)))
      (pss_one (ps_ret pe_non))), ?_⟩
  walk_at "g"
  refine ⟨a, lot, rfl, L, fun p H1 np s1 e1 => ?_⟩
  walk_at "g"
  refine ⟨p, _, rfl, SqL.of e1, ?_⟩
  refine f_enumL (xs := tl lot 0 (2 ^ lot.length)) (fun i σ H' => (∃ v2 v3 : Option V, σ = [some (.ref a), some (.int m), v2, v3]) ∧ Same H H' ∧ H' p = some (.lst (tl lot 0 (2 ^ lot.length))) ∧ ∀ j < i, m ≤ tallyZ lot ((j : Nat) : Int))
    ⟨⟨none, none, rfl⟩, s1, e1, fun _ h => by omega⟩ (fun i σ H' ⟨_, _, e, _⟩ => e) ?_ ?_
  · rintro i x σ H2 q hx ⟨⟨v2, v3, rfl⟩, s2, e2, hj⟩ nq
    unfold tl at hx
    rw [List.getElem?_map] at hx
    obtain ⟨i2, hi2, rfl⟩ := Option.map_eq_some_iff.mp hx
    obtain ⟨hi, ei⟩ := List.getElem?_eq_some_iff.mp hi2
    rw [List.length_range] at hi
    rw [List.getElem_range] at ei
    subst ei
    rw [Int.zero_add]
    walk_at "g"
    refine ite2 (fun h => ?_) (fun h => ?_)
    · have h : tallyZ lot ((i : Nat) : Int) < m := by simpa using h
      walk_at "g"
      have := k (L2.upd H2 q (.tup [.int ((i : Nat) : Int), .int (tallyZ lot ((i : Nat) : Int))])) (by walk_at "s")
      rw [low_hit hi hj h] at this
      exact this
    · have h : ¬ tallyZ lot ((i : Nat) : Int) < m := by simpa using h
      walk_at "g"
      refine ⟨⟨_, _, rfl⟩, by walk_at "s", same_new nq _ _ e2, fun j hj2 => ?_⟩
      by_cases ej : j = i
      · subst ej
        omega
      · exact hj j (by omega)
  · rintro σ H2 ⟨⟨v2, v3, rfl⟩, s2, e2, hj⟩
    rw [show (tl lot 0 (2 ^ lot.length)).length = 2 ^ lot.length by unfold tl; rw [List.length_map, List.length_range]] at hj
    walk_at "g"
    have := k H2 s2
    rw [low_miss hj] at this
    exact this
end
end DW
namespace DW
open PySem PySem.Spec PyProof.Rows L2
/-- the readings, until a question is met -/
local macro_rules | `(tactic| walk_at "g") => `(tactic| repeat (first
  | with_reducible refine g_seq ?_
  | with_reducible refine g_asg ?_
  | with_reducible refine g_name ?_
  | with_reducible refine g_op ?_
  | with_reducible refine g_cons ?_
  | with_reducible refine g_c ?_
  | ((with_reducible refine' g_var ?hv ?_); (case hv => exact rfl))
  | with_reducible refine g_nil ?_
  | with_reducible refine g_I0 ?_
  | with_reducible refine g_cb ?_
  | with_reducible refine g_call ?_
  | with_reducible refine g_callS ?_
  | with_reducible refine g_mkE ?_
  | with_reducible refine g_fld ?_
  | with_reducible refine g_ret ?_
  | with_reducible refine g_retN ?_
  | with_reducible refine g_drop ?_
  | with_reducible refine g_if ?_
  | with_reducible refine g_next ?_
  | with_reducible refine g_un ?_
  | with_reducible refine g_U ?_
  | with_reducible refine g_eqI ?_
  | with_reducible refine g_neI ?_
  | with_reducible refine g_eqS ?_
  | with_reducible refine g_neS ?_
  | with_reducible refine g_tup ?_
  | with_reducible refine g_lst ?_
  | with_reducible refine g_test ?_
  | with_reducible refine g_tif ?_
  | with_reducible refine g_forB ?_
  | with_reducible refine g_forEL ?_
  | with_reducible refine g_forRev ?_
  | with_reducible refine g_for3 ?_
  | with_reducible refine g_B ?_
  | with_reducible refine g_and ?_
  | with_reducible refine g_or ?_
  | with_reducible refine g_not ?_
  | with_reducible refine g_ifE ?_
  | with_reducible refine g_andV ?_
  | with_reducible refine g_orV ?_
  | with_reducible refine g_notV ?_
  | with_reducible refine g_chain ?_
  | with_reducible refine g_chainT ?_
  | with_reducible refine g_no ?_
  | with_reducible refine g_part ?_
  | with_reducible refine g_sl ?_
  | with_reducible refine g_bm ?_
  | with_reducible refine g_bm0 ?_
  | with_reducible refine g_par ?_
  | with_reducible refine g_sub ?_
  | with_reducible refine g_gCons ?_
  | with_reducible refine g_gNil ?_
  | ((with_reducible refine' g_ixL ?hv ?he ?_); (case hv => first | assumption | exact upd_same); (case he => first | exact rfl | exact atI_nat (j := 0) rfl | exact atI_nat (j := 1) rfl | exact atI_nat (j := 2) rfl))
  | ((with_reducible refine' g_ixT ?hv ?he ?_); (case hv => first | assumption | exact upd_same); (case he => first | exact rfl | exact atI_nat (j := 0) rfl | exact atI_nat (j := 1) rfl | exact atI_nat (j := 2) rfl))
  | ((with_reducible refine' g_gTup ?hv ?he ?_); (case hv => first | assumption | exact upd_same); (case he => exact rfl))
  | ((with_reducible refine' g_tyL ?hv ?_); (case hv => first | assumption | exact upd_same))
  | with_reducible refine g_for1 ?_
  | with_reducible refine g_for2 ?_
  | with_reducible refine g_forL ?_
  | with_reducible refine g_forT ?_
  | with_reducible refine g_lc1 ?_
  | with_reducible refine g_lc2 ?_
  | with_reducible refine g_lcL ?_
  | with_reducible refine g_lcT ?_
  | with_reducible refine g_lcE ?_
  | with_reducible refine g_lcZ ?_
  | with_reducible refine g_rev ?_
  | with_reducible refine g_listRg ?_
  | with_reducible refine g_tupRg ?_
  | with_reducible refine g_rg1 ?_
  | with_reducible refine g_ckw ?_
  | with_reducible refine g_rg2 ?_
  | with_reducible refine g_yes ?_
  | with_reducible refine iteT ?_
  | with_reducible refine iteF ?_
  | with_reducible refine g_ifNT ?_
  | with_reducible refine g_ifNF ?_
  | ((with_reducible refine' g_ifC ?hc ?_); (case hc => exact rfl))
  | ((with_reducible refine' g_ifD ?hc ?_); (case hc => exact rfl))
  | (with_reducible refine ⟨(show List.length _ ≤ sizeLine from Nat.le_of_ble_eq_true (by with_unfolding_all rfl)), ?_⟩)
  | (with_reducible refine ⟨_, rfl, ?_⟩)
  | (with_reducible refine Or.inl ⟨_, rfl, ?_⟩)
  | ((with_reducible refine' ⟨_, _, rfl, Or.inl (SqL.of ?hv), ?_⟩); (case hv => first | assumption | exact upd_same))
  | ((with_reducible refine' ⟨_, _, rfl, Or.inr (SqT.of ?hv), ?_⟩); (case hv => first | assumption | exact upd_same))
  | ((with_reducible refine' g_I ?hc ?_); (case hc => first | (show (0 : Int) < _; omega) | exact Or.inl ⟨by decide, by decide⟩ | exact Or.inr ⟨by decide, by decide⟩ | exact ⟨by decide, by decide +kernel⟩))
  | (with_reducible refine ⟨_, _, rfl, ?_⟩)))
/-- steps of the heap, from its end: tuples stay (k), all stays (s), the deck stands (d), it is drawn from (r), a thing stands beside it (o) -/
local macro_rules | `(tactic| walk_at "k") => `(tactic| first
  | with_reducible assumption
  | with_reducible exact tk_refl
  | ((with_reducible refine tk_step ?_ (by assumption)); walk_at "k")
  | ((with_reducible refine tk_mut ?_ (by assumption)); walk_at "k")
  | ((with_reducible refine tk_same ?_ (by assumption)); walk_at "k")
  | ((with_reducible refine tk_gr ?_ (by assumption) (by walk_at "d")); walk_at "k"))
local macro_rules | `(tactic| walk_at "s") => `(tactic| first
  | with_reducible assumption
  | with_reducible exact Same.refl _
  | ((with_reducible refine same_step ?_ (by assumption)); walk_at "s")
  | ((with_reducible refine Same.trans ?_ (by assumption)); walk_at "s"))
local macro_rules | `(tactic| walk_at "d") => `(tactic| first
  | with_reducible assumption
  | with_reducible exact Gr.at_ (by assumption)
  | ((with_reducible refine dk_step ?_ (by assumption)); walk_at "d")
  | ((with_reducible refine DeckAt.same ?_ (by assumption)); walk_at "d"))
local macro_rules | `(tactic| walk_at "r") => `(tactic| first
  | with_reducible assumption
  | ((with_reducible refine Gr.refl ?_); walk_at "d")
  | ((with_reducible refine Gr.new ?_ (by assumption)); walk_at "r")
  | ((with_reducible refine Gr.mut ?_ (by walk_at "d") (by assumption)); walk_at "r")
  | ((with_reducible refine Gr.same ?_ (by assumption)); walk_at "r")
  | ((with_reducible refine Gr.trans ?_ (by assumption)); walk_at "r"))
local macro_rules | `(tactic| walk_at "o") => `(tactic| first
  | with_reducible assumption
  | (refine Off.new ?_ (by assumption); walk_at "d")
  | ((with_reducible refine Off.step ?_ (by assumption)); walk_at "o")
  | ((with_reducible refine off_same ?_ (by assumption)); walk_at "o")
  | ((with_reducible refine Off.go ?_ (by assumption)); walk_at "o"))

section
variable {P : Program} {w : World} {K : PySem.W.Frag} {mg : Str → Option Value} {base : Heap}
abbrev s_is_held : Stmt := top 14
theorem sc_is_held : FnScope ["lot", "least"] ["lot", "least"] (defScope s_is_held) := ⟨rfl, rfl, rfl, by decide +kernel, rfl, by decide +kernel, by decide +kernel⟩
def spIsHeld : Sp := fun vs H Q _ => ∃ (a : Addr) (lot : List (Int × Int)) (m : Int), vs = [.ref a, .int m] ∧ Lot H a lot ∧ ∀ H', Same H H' → Q (.bl (firstLow lot m (2 ^ lot.length)).isNone) H'
theorem ok_is_held (F : Top K mg "is_held" s_is_held ["lot", "least"]) (T : NoB mg) (Gopen_day : Def P w K mg base "open_day" ["lot", "least"] 3 spOpenDay) : Def P w K mg base "is_held" ["lot", "least"] 4 spIsHeld := by
  obtain ⟨f, fd, F⟩ := F
  refine F.def sc_is_held (fun vs H Q E h => ?_) (fun cdv A outer s H vs Q E hg hr h => ?_)
  · obtain ⟨a, lot, m, rfl, _⟩ := h
    rfl
  obtain ⟨a, lot, m, rfl, L, k⟩ := h
  have nd := sc_is_held.nd
  refine ⟨_, (pss_one (ps_ret (pe_cmpR op_isN (DW.pe_def Gopen_day hg (hr.mono (by omega)) rfl (pa_cons (pv 0) (pa_cons (pv 1) pa_nil))) pe_non (nomark _)))), ?_⟩
  walk_at "g"
  refine ⟨a, lot, m, rfl, L, fun H1 s1 => ?_⟩
  walk_at "g"
  walk_at "g"
  refine ⟨rfl, ?_⟩
  walk_at "g"
  rw [oV_none]
  exact k H1 s1
end
end DW
namespace DW
open PySem PySem.Spec PyProof.Rows L2
/-- the readings, until a question is met -/
local macro_rules | `(tactic| walk_at "g") => `(tactic| repeat (first
  | with_reducible refine g_seq ?_
  | with_reducible refine g_asg ?_
  | with_reducible refine g_name ?_
  | with_reducible refine g_op ?_
  | with_reducible refine g_cons ?_
  | with_reducible refine g_c ?_
  | ((with_reducible refine' g_var ?hv ?_); (case hv => exact rfl))
  | with_reducible refine g_nil ?_
  | with_reducible refine g_I0 ?_
  | with_reducible refine g_cb ?_
  | with_reducible refine g_call ?_
  | with_reducible refine g_callS ?_
  | with_reducible refine g_mkE ?_
  | with_reducible refine g_fld ?_
  | with_reducible refine g_ret ?_
  | with_reducible refine g_retN ?_
  | with_reducible refine g_drop ?_
  | with_reducible refine g_if ?_
  | with_reducible refine g_next ?_
  | with_reducible refine g_un ?_
  | with_reducible refine g_U ?_
  | with_reducible refine g_eqI ?_
  | with_reducible refine g_neI ?_
  | with_reducible refine g_eqS ?_
  | with_reducible refine g_neS ?_
  | with_reducible refine g_tup ?_
  | with_reducible refine g_lst ?_
  | with_reducible refine g_test ?_
  | with_reducible refine g_tif ?_
  | with_reducible refine g_forB ?_
  | with_reducible refine g_forEL ?_
  | with_reducible refine g_forRev ?_
  | with_reducible refine g_for3 ?_
  | with_reducible refine g_B ?_
  | with_reducible refine g_and ?_
  | with_reducible refine g_or ?_
  | with_reducible refine g_not ?_
  | with_reducible refine g_ifE ?_
  | with_reducible refine g_andV ?_
  | with_reducible refine g_orV ?_
  | with_reducible refine g_notV ?_
  | with_reducible refine g_chain ?_
  | with_reducible refine g_chainT ?_
  | with_reducible refine g_no ?_
  | with_reducible refine g_part ?_
  | with_reducible refine g_sl ?_
  | with_reducible refine g_bm ?_
  | with_reducible refine g_bm0 ?_
  | with_reducible refine g_par ?_
  | with_reducible refine g_sub ?_
  | with_reducible refine g_gCons ?_
  | with_reducible refine g_gNil ?_
  | ((with_reducible refine' g_ixL ?hv ?he ?_); (case hv => first | assumption | exact upd_same); (case he => first | exact rfl | exact atI_nat (j := 0) rfl | exact atI_nat (j := 1) rfl | exact atI_nat (j := 2) rfl))
  | ((with_reducible refine' g_ixT ?hv ?he ?_); (case hv => first | assumption | exact upd_same); (case he => first | exact rfl | exact atI_nat (j := 0) rfl | exact atI_nat (j := 1) rfl | exact atI_nat (j := 2) rfl))
  | ((with_reducible refine' g_gTup ?hv ?he ?_); (case hv => first | assumption | exact upd_same); (case he => exact rfl))
  | ((with_reducible refine' g_tyL ?hv ?_); (case hv => first | assumption | exact upd_same))
  | with_reducible refine g_for1 ?_
  | with_reducible refine g_for2 ?_
  | with_reducible refine g_forL ?_
  | with_reducible refine g_forT ?_
  | with_reducible refine g_lc1 ?_
  | with_reducible refine g_lc2 ?_
  | with_reducible refine g_lcL ?_
  | with_reducible refine g_lcT ?_
  | with_reducible refine g_lcE ?_
  | with_reducible refine g_lcZ ?_
  | with_reducible refine g_rev ?_
  | with_reducible refine g_listRg ?_
  | with_reducible refine g_tupRg ?_
  | with_reducible refine g_rg1 ?_
  | with_reducible refine g_ckw ?_
  | with_reducible refine g_rg2 ?_
  | with_reducible refine g_yes ?_
  | with_reducible refine iteT ?_
  | with_reducible refine iteF ?_
  | with_reducible refine g_ifNT ?_
  | with_reducible refine g_ifNF ?_
  | ((with_reducible refine' g_ifC ?hc ?_); (case hc => exact rfl))
  | ((with_reducible refine' g_ifD ?hc ?_); (case hc => exact rfl))
  | (with_reducible refine ⟨(show List.length _ ≤ sizeLine from Nat.le_of_ble_eq_true (by with_unfolding_all rfl)), ?_⟩)
  | (with_reducible refine ⟨_, rfl, ?_⟩)
  | (with_reducible refine Or.inl ⟨_, rfl, ?_⟩)
  | ((with_reducible refine' ⟨_, _, rfl, Or.inl (SqL.of ?hv), ?_⟩); (case hv => first | assumption | exact upd_same))
  | ((with_reducible refine' ⟨_, _, rfl, Or.inr (SqT.of ?hv), ?_⟩); (case hv => first | assumption | exact upd_same))
  | ((with_reducible refine' g_I ?hc ?_); (case hc => first | (show (0 : Int) < _; omega) | exact Or.inl ⟨by decide, by decide⟩ | exact Or.inr ⟨by decide, by decide⟩ | exact ⟨by decide, by decide +kernel⟩))
  | (with_reducible refine ⟨_, _, rfl, ?_⟩)))
/-- steps of the heap, from its end: tuples stay (k), all stays (s), the deck stands (d), it is drawn from (r), a thing stands beside it (o) -/
local macro_rules | `(tactic| walk_at "k") => `(tactic| first
  | with_reducible assumption
  | with_reducible exact tk_refl
  | ((with_reducible refine tk_step ?_ (by assumption)); walk_at "k")
  | ((with_reducible refine tk_mut ?_ (by assumption)); walk_at "k")
  | ((with_reducible refine tk_same ?_ (by assumption)); walk_at "k")
  | ((with_reducible refine tk_gr ?_ (by assumption) (by walk_at "d")); walk_at "k"))
local macro_rules | `(tactic| walk_at "s") => `(tactic| first
  | with_reducible assumption
  | with_reducible exact Same.refl _
  | ((with_reducible refine same_step ?_ (by assumption)); walk_at "s")
  | ((with_reducible refine Same.trans ?_ (by assumption)); walk_at "s"))
local macro_rules | `(tactic| walk_at "d") => `(tactic| first
  | with_reducible assumption
  | with_reducible exact Gr.at_ (by assumption)
  | ((with_reducible refine dk_step ?_ (by assumption)); walk_at "d")
  | ((with_reducible refine DeckAt.same ?_ (by assumption)); walk_at "d"))
local macro_rules | `(tactic| walk_at "r") => `(tactic| first
  | with_reducible assumption
  | ((with_reducible refine Gr.refl ?_); walk_at "d")
  | ((with_reducible refine Gr.new ?_ (by assumption)); walk_at "r")
  | ((with_reducible refine Gr.mut ?_ (by walk_at "d") (by assumption)); walk_at "r")
  | ((with_reducible refine Gr.same ?_ (by assumption)); walk_at "r")
  | ((with_reducible refine Gr.trans ?_ (by assumption)); walk_at "r"))
local macro_rules | `(tactic| walk_at "o") => `(tactic| first
  | with_reducible assumption
  | (refine Off.new ?_ (by assumption); walk_at "d")
  | ((with_reducible refine Off.step ?_ (by assumption)); walk_at "o")
  | ((with_reducible refine off_same ?_ (by assumption)); walk_at "o")
  | ((with_reducible refine Off.go ?_ (by assumption)); walk_at "o"))

section
variable {P : Program} {w : World} {K : PySem.W.Frag} {mg : Str → Option Value} {base : Heap}
abbrev s__law_odd : Stmt := top 25
theorem sc__law_odd : FnScope ["deck", "some"] ["deck"] (defScope s__law_odd) := ⟨rfl, rfl, rfl, by decide +kernel, rfl, by decide +kernel, by decide +kernel⟩
theorem ok_odd (F : Top K mg "_law_odd" s__law_odd ["deck"]) (T : NoB mg) (G_law_one : Def P w K mg base "_law_one" ["deck", "items"] 2 spOne) : Def P w K mg base "_law_odd" ["deck"] 3 spOdd := by
  obtain ⟨f, fd, F⟩ := F
  refine F.def sc__law_odd (fun vs H Q E h => ?_) (fun cdv A outer s H vs Q E hg hr h => ?_)
  · obtain ⟨D, rfl, _⟩ := h
    rfl
  obtain ⟨D, rfl, dk, k⟩ := h
  have nd := sc__law_odd.nd
  refine ⟨_, (pss_cons (ps_set (i := 1) nd rfl (Or.inl rfl) (pe_lst (pa_cons pe_non (pa_cons pe_bl (pa_cons pe_bl (pa_cons pe_int (pa_cons pe_int (pa_cons pe_int (pa_cons (pe_un un_neg pe_int) (pa_cons (pe_op op_pow pe_int pe_int) (pa_cons pe_str (pa_cons pe_str (pa_cons pe_str (pa_cons (pe_tup pa_nil) (pa_cons (pe_lst pa_nil) (pa_cons pe_dnewK (pa_cons (pe_tup (pa_cons pe_int pa_nil)) (pa_cons (pe_tup (pa_cons pe_int pa_nil)) (pa_cons (pe_tup (pa_cons pe_int (pa_cons pe_int pa_nil))) (pa_cons (pe_tup (pa_cons pe_bl (pa_cons pe_int pa_nil))) (pa_cons (pe_tup (pa_cons pe_int (pa_cons pe_int pa_nil))) pa_nil)))))))))))))))))))))
      (pss_cons (ps_set (i := 1) nd rfl (Or.inl rfl) (pe_op op_cat (pv 1) (pe_lst (pa_cons (pe_tup (pa_cons (pe_tup (pa_cons pe_int (pa_cons pe_int pa_nil))) pa_nil)) (pa_cons (pe_tup (pa_cons (pe_tup (pa_cons pe_int (pa_cons pe_int pa_nil))) (pa_cons (pe_tup (pa_cons pe_int (pa_cons pe_int pa_nil))) pa_nil))) (pa_cons (pe_tup (pa_cons (pe_tup (pa_cons pe_int (pa_cons pe_bl pa_nil))) pa_nil)) (pa_cons (pe_lst (pa_cons (pe_tup (pa_cons pe_int (pa_cons pe_int pa_nil))) pa_nil)) (pa_cons (pe_tup (pa_cons (pe_tup (pa_cons pe_int (pa_cons pe_int (pa_cons pe_int pa_nil)))) pa_nil)) (pa_cons (pe_tup (pa_cons (pe_op op_add (pe_op op_pow pe_int pe_int) pe_int) (pa_cons pe_int pa_nil))) (pa_cons (pe_tup (pa_cons pe_str (pa_cons pe_int pa_nil))) pa_nil))))))))))
      (pss_one (ps_ret (DW.pe_def G_law_one hg (hr.mono (by omega)) rfl (pa_cons (pv 0) (pa_cons (pe_op op_cat (pv 1) (pe_lst (pa_cons (pe_tup (pa_cons pe_str (pa_cons pe_int (pa_cons (pe_tup (pa_cons (pe_tup (pa_cons pe_str (pa_cons pe_int pa_nil))) (pa_cons (pe_tup (pa_cons pe_str (pa_cons pe_int pa_nil))) pa_nil))) pa_nil)))) (pa_cons (pe_tup (pa_cons pe_int (pa_cons pe_int pa_nil))) (pa_cons (pe_tup (pa_cons pe_int (pa_cons (pe_un un_neg pe_int) pa_nil))) (pa_cons (pe_tup (pa_cons pe_str (pa_cons pe_int (pa_cons pe_int pa_nil)))) (pa_cons pe_str pa_nil))))))) pa_nil))))))), ?_⟩
  have g := Gr.refl dk
  have tb : DaAll D H [] [] := .nil
  walk_at "g"
  intro p1 n
  generalize hH : L2.upd _ p1 _ = H1
  replace tb := tb.layT .nil n hH
  replace g := g.lay n hH
  clear hH n
  walk_at "g"
  intro p2 n
  generalize hH : L2.upd _ p2 _ = H2
  replace tb := tb.layL .nil g.at_ rfl n hH
  replace g := g.lay n hH
  clear hH n
  walk_at "g"
  intro p3 n
  generalize hH : L2.upd _ p3 _ = H3
  replace tb := tb.layD g.at_ n hH
  replace g := g.lay n hH
  clear hH n
  walk_at "g"
  intro p4 n
  generalize hH : L2.upd _ p4 _ = H4
  replace tb := tb.layT (.cons (.int _) .nil) n hH
  replace g := g.lay n hH
  clear hH n
  walk_at "g"
  intro p5 n
  generalize hH : L2.upd _ p5 _ = H5
  replace tb := tb.layT (.cons (.int _) .nil) n hH
  replace g := g.lay n hH
  clear hH n
  walk_at "g"
  intro p6 n
  generalize hH : L2.upd _ p6 _ = H6
  replace tb := tb.layT (.cons (.int _) (.cons (.int _) .nil)) n hH
  replace g := g.lay n hH
  clear hH n
  walk_at "g"
  intro p7 n
  generalize hH : L2.upd _ p7 _ = H7
  replace tb := tb.layT (.cons (.bl _) (.cons (.int _) .nil)) n hH
  replace g := g.lay n hH
  clear hH n
  walk_at "g"
  intro p8 n
  generalize hH : L2.upd _ p8 _ = H8
  replace tb := tb.layT (.cons (.int _) (.cons (.int _) .nil)) n hH
  replace g := g.lay n hH
  clear hH n
  walk_at "g"
  intro a1 n
  generalize hH : L2.upd _ a1 _ = Ha1
  have o1 := Off.laid g.at_ n hH
  replace tb := tb.lay n hH
  replace g := g.lay n hH
  clear hH n
  walk_at "g"
  intro p9 n
  generalize hH : L2.upd _ p9 _ = H9
  replace o1 := o1.lay n hH
  replace tb := tb.layT (.cons (.int _) (.cons (.int _) .nil)) n hH
  replace g := g.lay n hH
  clear hH n
  walk_at "g"
  intro p10 n
  generalize hH : L2.upd _ p10 _ = H10
  replace o1 := o1.lay n hH
  replace tb := tb.layT (.cons (tb.at 0 rfl rfl) .nil) n hH
  replace g := g.lay n hH
  clear hH n
  walk_at "g"
  intro p11 n
  generalize hH : L2.upd _ p11 _ = H11
  replace o1 := o1.lay n hH
  replace tb := tb.layT (.cons (.int _) (.cons (.int _) .nil)) n hH
  replace g := g.lay n hH
  clear hH n
  walk_at "g"
  intro p12 n
  generalize hH : L2.upd _ p12 _ = H12
  replace o1 := o1.lay n hH
  replace tb := tb.layT (.cons (.int _) (.cons (.int _) .nil)) n hH
  replace g := g.lay n hH
  clear hH n
  walk_at "g"
  intro p13 n
  generalize hH : L2.upd _ p13 _ = H13
  replace o1 := o1.lay n hH
  replace tb := tb.layT (.cons (tb.at 1 rfl rfl) (.cons (tb.at 0 rfl rfl) .nil)) n hH
  replace g := g.lay n hH
  clear hH n
  walk_at "g"
  intro p14 n
  generalize hH : L2.upd _ p14 _ = H14
  replace o1 := o1.lay n hH
  replace tb := tb.layT (.cons (.int _) (.cons (.bl _) .nil)) n hH
  replace g := g.lay n hH
  clear hH n
  walk_at "g"
  intro p15 n
  generalize hH : L2.upd _ p15 _ = H15
  replace o1 := o1.lay n hH
  replace tb := tb.layT (.cons (tb.at 0 rfl rfl) .nil) n hH
  replace g := g.lay n hH
  clear hH n
  walk_at "g"
  intro p16 n
  generalize hH : L2.upd _ p16 _ = H16
  replace o1 := o1.lay n hH
  replace tb := tb.layT (.cons (.int _) (.cons (.int _) .nil)) n hH
  replace g := g.lay n hH
  clear hH n
  walk_at "g"
  intro p17 n
  generalize hH : L2.upd _ p17 _ = H17
  replace o1 := o1.lay n hH
  replace tb := tb.layL (.cons (tb.at 0 rfl rfl) .nil) g.at_ rfl n hH
  replace g := g.lay n hH
  clear hH n
  walk_at "g"
  intro p18 n
  generalize hH : L2.upd _ p18 _ = H18
  replace o1 := o1.lay n hH
  replace tb := tb.layT (.cons (.int _) (.cons (.int _) (.cons (.int _) .nil))) n hH
  replace g := g.lay n hH
  clear hH n
  walk_at "g"
  intro p19 n
  generalize hH : L2.upd _ p19 _ = H19
  replace o1 := o1.lay n hH
  replace tb := tb.layT (.cons (tb.at 0 rfl rfl) .nil) n hH
  replace g := g.lay n hH
  clear hH n
  walk_at "g"
  intro p20 n
  generalize hH : L2.upd _ p20 _ = H20
  replace o1 := o1.lay n hH
  replace tb := tb.layT (.cons (.int _) (.cons (.int _) .nil)) n hH
  replace g := g.lay n hH
  clear hH n
  walk_at "g"
  intro p21 n
  generalize hH : L2.upd _ p21 _ = H21
  replace o1 := o1.lay n hH
  replace tb := tb.layT (.cons (.str _) (.cons (.int _) .nil)) n hH
  replace g := g.lay n hH
  clear hH n
  walk_at "g"
  intro a2 n
  generalize hH : L2.upd _ a2 _ = Ha2
  replace o1 := o1.lay n hH
  have o2 := Off.laid g.at_ n hH
  replace tb := tb.lay n hH
  replace g := g.lay n hH
  clear hH n
  walk_at "g"
  refine g_cat o1.1 o2.1 (Nat.le_of_ble_eq_true (by with_unfolding_all rfl)) ?_
  intro a3 n
  generalize hH : L2.upd _ a3 _ = Ha3
  have o3 := Off.laid g.at_ n hH
  replace tb := tb.lay n hH
  replace g := g.lay n hH
  clear hH n
  walk_at "g"
  intro p22 n
  generalize hH : L2.upd _ p22 _ = H22
  replace o3 := o3.lay n hH
  replace tb := tb.layT (.cons (.str _) (.cons (.int _) .nil)) n hH
  replace g := g.lay n hH
  clear hH n
  walk_at "g"
  intro p23 n
  generalize hH : L2.upd _ p23 _ = H23
  replace o3 := o3.lay n hH
  replace tb := tb.layT (.cons (.str _) (.cons (.int _) .nil)) n hH
  replace g := g.lay n hH
  clear hH n
  walk_at "g"
  intro p24 n
  generalize hH : L2.upd _ p24 _ = H24
  replace o3 := o3.lay n hH
  replace tb := tb.layT (.cons (tb.at 1 rfl rfl) (.cons (tb.at 0 rfl rfl) .nil)) n hH
  replace g := g.lay n hH
  clear hH n
  walk_at "g"
  intro p25 n
  generalize hH : L2.upd _ p25 _ = H25
  replace o3 := o3.lay n hH
  replace tb := tb.layT (.cons (.str _) (.cons (.int _) (.cons (tb.at 0 rfl rfl) .nil))) n hH
  replace g := g.lay n hH
  clear hH n
  walk_at "g"
  intro p26 n
  generalize hH : L2.upd _ p26 _ = H26
  replace o3 := o3.lay n hH
  replace tb := tb.layT (.cons (.int _) (.cons (.int _) .nil)) n hH
  replace g := g.lay n hH
  clear hH n
  walk_at "g"
  intro p27 n
  generalize hH : L2.upd _ p27 _ = H27
  replace o3 := o3.lay n hH
  replace tb := tb.layT (.cons (.int _) (.cons (.int _) .nil)) n hH
  replace g := g.lay n hH
  clear hH n
  walk_at "g"
  intro p28 n
  generalize hH : L2.upd _ p28 _ = H28
  replace o3 := o3.lay n hH
  replace tb := tb.layT (.cons (.str _) (.cons (.int _) (.cons (.int _) .nil))) n hH
  replace g := g.lay n hH
  clear hH n
  walk_at "g"
  intro a4 n
  generalize hH : L2.upd _ a4 _ = Ha4
  replace o3 := o3.lay n hH
  have o4 := Off.laid g.at_ n hH
  replace tb := tb.lay n hH
  replace g := g.lay n hH
  clear hH n
  walk_at "g"
  refine g_cat o3.1 o4.1 (Nat.le_of_ble_eq_true (by with_unfolding_all rfl)) ?_
  intro a5 n
  generalize hH : L2.upd _ a5 _ = Ha5
  have o5 := Off.laid g.at_ n hH
  replace tb := tb.lay n hH
  replace g := g.lay n hH
  clear hH n
  walk_at "g"
  refine ⟨D, a5, _, rfl, g.at_, .inl o5, by simp, Nat.le_of_ble_eq_true (by with_unfolding_all rfl), fun v H' hv g' => ?_⟩
  obtain ⟨d, hd, dv⟩ := DaAll.mem (D := D) (H := Ha5) (DaAll.app (DaAll.app (.cons .non (.cons (.bl _) (.cons (.bl _) (.cons (.int _) (.cons (.int _) (.cons (.int _) (.cons (.int _) (.cons (.int _) (.cons (.str _) (.cons (.str _) (.cons (.str _) (.cons (tb.at 27 rfl rfl) (.cons (tb.at 26 rfl rfl) (.cons (tb.at 25 rfl rfl) (.cons (tb.at 24 rfl rfl) (.cons (tb.at 23 rfl rfl) (.cons (tb.at 22 rfl rfl) (.cons (tb.at 21 rfl rfl) (.cons (tb.at 20 rfl rfl) .nil))))))))))))))))))) (.cons (tb.at 18 rfl rfl) (.cons (tb.at 15 rfl rfl) (.cons (tb.at 13 rfl rfl) (.cons (tb.at 11 rfl rfl) (.cons (tb.at 9 rfl rfl) (.cons (tb.at 8 rfl rfl) (.cons (tb.at 7 rfl rfl) .nil)))))))) (.cons (tb.at 3 rfl rfl) (.cons (tb.at 2 rfl rfl) (.cons (tb.at 1 rfl rfl) (.cons (tb.at 0 rfl rfl) (.cons (.str _) .nil)))))) hv
  obtain ⟨x, y, f1, f2⟩ := smallB_fit (n := 30) (all_of hd (by decide +kernel))
  exact k v H' (g.trans g') ⟨d, x, y, Da.go (g'.ok g.at_) _ _ dv, f1, f2⟩
end
end DW
namespace DW
open PySem PySem.Spec PyProof.Rows L2
/-- the readings, until a question is met -/
local macro_rules | `(tactic| walk_at "g") => `(tactic| repeat (first
  | with_reducible refine g_seq ?_
  | with_reducible refine g_asg ?_
  | with_reducible refine g_name ?_
  | with_reducible refine g_op ?_
  | with_reducible refine g_cons ?_
  | with_reducible refine g_c ?_
  | ((with_reducible refine' g_var ?hv ?_); (case hv => exact rfl))
  | with_reducible refine g_nil ?_
  | with_reducible refine g_I0 ?_
  | with_reducible refine g_cb ?_
  | with_reducible refine g_call ?_
  | with_reducible refine g_callS ?_
  | with_reducible refine g_mkE ?_
  | with_reducible refine g_fld ?_
  | with_reducible refine g_ret ?_
  | with_reducible refine g_retN ?_
  | with_reducible refine g_drop ?_
  | with_reducible refine g_if ?_
  | with_reducible refine g_next ?_
  | with_reducible refine g_un ?_
  | with_reducible refine g_U ?_
  | with_reducible refine g_eqI ?_
  | with_reducible refine g_neI ?_
  | with_reducible refine g_eqS ?_
  | with_reducible refine g_neS ?_
  | with_reducible refine g_tup ?_
  | with_reducible refine g_lst ?_
  | with_reducible refine g_test ?_
  | with_reducible refine g_tif ?_
  | with_reducible refine g_forB ?_
  | with_reducible refine g_forEL ?_
  | with_reducible refine g_forRev ?_
  | with_reducible refine g_for3 ?_
  | with_reducible refine g_B ?_
  | with_reducible refine g_and ?_
  | with_reducible refine g_or ?_
  | with_reducible refine g_not ?_
  | with_reducible refine g_ifE ?_
  | with_reducible refine g_andV ?_
  | with_reducible refine g_orV ?_
  | with_reducible refine g_notV ?_
  | with_reducible refine g_chain ?_
  | with_reducible refine g_chainT ?_
  | with_reducible refine g_no ?_
  | with_reducible refine g_part ?_
  | with_reducible refine g_sl ?_
  | with_reducible refine g_bm ?_
  | with_reducible refine g_bm0 ?_
  | with_reducible refine g_par ?_
  | with_reducible refine g_sub ?_
  | with_reducible refine g_gCons ?_
  | with_reducible refine g_gNil ?_
  | ((with_reducible refine' g_ixL ?hv ?he ?_); (case hv => first | assumption | exact upd_same); (case he => first | exact rfl | exact atI_nat (j := 0) rfl | exact atI_nat (j := 1) rfl | exact atI_nat (j := 2) rfl))
  | ((with_reducible refine' g_ixT ?hv ?he ?_); (case hv => first | assumption | exact upd_same); (case he => first | exact rfl | exact atI_nat (j := 0) rfl | exact atI_nat (j := 1) rfl | exact atI_nat (j := 2) rfl))
  | ((with_reducible refine' g_gTup ?hv ?he ?_); (case hv => first | assumption | exact upd_same); (case he => exact rfl))
  | ((with_reducible refine' g_tyL ?hv ?_); (case hv => first | assumption | exact upd_same))
  | with_reducible refine g_for1 ?_
  | with_reducible refine g_for2 ?_
  | with_reducible refine g_forL ?_
  | with_reducible refine g_forT ?_
  | with_reducible refine g_lc1 ?_
  | with_reducible refine g_lc2 ?_
  | with_reducible refine g_lcL ?_
  | with_reducible refine g_lcT ?_
  | with_reducible refine g_lcE ?_
  | with_reducible refine g_lcZ ?_
  | with_reducible refine g_rev ?_
  | with_reducible refine g_listRg ?_
  | with_reducible refine g_tupRg ?_
  | with_reducible refine g_rg1 ?_
  | with_reducible refine g_ckw ?_
  | with_reducible refine g_rg2 ?_
  | with_reducible refine g_yes ?_
  | with_reducible refine iteT ?_
  | with_reducible refine iteF ?_
  | with_reducible refine g_ifNT ?_
  | with_reducible refine g_ifNF ?_
  | ((with_reducible refine' g_ifC ?hc ?_); (case hc => exact rfl))
  | ((with_reducible refine' g_ifD ?hc ?_); (case hc => exact rfl))
  | (with_reducible refine ⟨(show List.length _ ≤ sizeLine from Nat.le_of_ble_eq_true (by with_unfolding_all rfl)), ?_⟩)
  | (with_reducible refine ⟨_, rfl, ?_⟩)
  | (with_reducible refine Or.inl ⟨_, rfl, ?_⟩)
  | ((with_reducible refine' ⟨_, _, rfl, Or.inl (SqL.of ?hv), ?_⟩); (case hv => first | assumption | exact upd_same))
  | ((with_reducible refine' ⟨_, _, rfl, Or.inr (SqT.of ?hv), ?_⟩); (case hv => first | assumption | exact upd_same))
  | ((with_reducible refine' g_I ?hc ?_); (case hc => first | (show (0 : Int) < _; omega) | exact Or.inl ⟨by decide, by decide⟩ | exact Or.inr ⟨by decide, by decide⟩ | exact ⟨by decide, by decide +kernel⟩))
  | (with_reducible refine ⟨_, _, rfl, ?_⟩)))
/-- steps of the heap, from its end: tuples stay (k), all stays (s), the deck stands (d), it is drawn from (r), a thing stands beside it (o) -/
local macro_rules | `(tactic| walk_at "k") => `(tactic| first
  | with_reducible assumption
  | with_reducible exact tk_refl
  | ((with_reducible refine tk_step ?_ (by assumption)); walk_at "k")
  | ((with_reducible refine tk_mut ?_ (by assumption)); walk_at "k")
  | ((with_reducible refine tk_same ?_ (by assumption)); walk_at "k")
  | ((with_reducible refine tk_gr ?_ (by assumption) (by walk_at "d")); walk_at "k"))
local macro_rules | `(tactic| walk_at "s") => `(tactic| first
  | with_reducible assumption
  | with_reducible exact Same.refl _
  | ((with_reducible refine same_step ?_ (by assumption)); walk_at "s")
  | ((with_reducible refine Same.trans ?_ (by assumption)); walk_at "s"))
local macro_rules | `(tactic| walk_at "d") => `(tactic| first
  | with_reducible assumption
  | with_reducible exact Gr.at_ (by assumption)
  | ((with_reducible refine dk_step ?_ (by assumption)); walk_at "d")
  | ((with_reducible refine DeckAt.same ?_ (by assumption)); walk_at "d"))
local macro_rules | `(tactic| walk_at "r") => `(tactic| first
  | with_reducible assumption
  | ((with_reducible refine Gr.refl ?_); walk_at "d")
  | ((with_reducible refine Gr.new ?_ (by assumption)); walk_at "r")
  | ((with_reducible refine Gr.mut ?_ (by walk_at "d") (by assumption)); walk_at "r")
  | ((with_reducible refine Gr.same ?_ (by assumption)); walk_at "r")
  | ((with_reducible refine Gr.trans ?_ (by assumption)); walk_at "r"))
local macro_rules | `(tactic| walk_at "o") => `(tactic| first
  | with_reducible assumption
  | (refine Off.new ?_ (by assumption); walk_at "d")
  | ((with_reducible refine Off.step ?_ (by assumption)); walk_at "o")
  | ((with_reducible refine off_same ?_ (by assumption)); walk_at "o")
  | ((with_reducible refine Off.go ?_ (by assumption)); walk_at "o"))

section
variable {P : Program} {w : World} {K : PySem.W.Frag} {mg : Str → Option Value} {base : Heap}
abbrev s__law_whole : Stmt := top 27
theorem sc__law_whole : FnScope ["value", "least", "most"] ["value", "least", "most"] (defScope s__law_whole) := ⟨rfl, rfl, rfl, by decide +kernel, rfl, by decide +kernel, by decide +kernel⟩
theorem ok_whole_d (F : Top K mg "_law_whole" s__law_whole ["value", "least", "most"]) (T : NoB mg) : Def P w K mg base "_law_whole" ["value", "least", "most"] 1 spWholeD := by
  obtain ⟨f, fd, F⟩ := F
  refine F.def sc__law_whole (fun vs H Q E h => ?_) (fun cdv A outer s H vs Q E hg hr h => ?_)
  · obtain ⟨D, v, d, l, m, rfl, _⟩ := h
    rfl
  obtain ⟨D, v, d, l, m, rfl, hd, k⟩ := h
  have nd := sc__law_whole.nd
  refine ⟨_, (pss_one (ps_ret (pe_and (pe_callB call_isi (by rfl) T.isinstance (by decide +kernel) (pa_cons (pv 0) (pa_cons (pe_bltn (v := .ty "int") (by rfl) T.int (by decide +kernel) rfl) pa_nil))) (pe_and (pe_not (pe_callB call_isi (by rfl) T.isinstance (by decide +kernel) (pa_cons (pv 0) (pa_cons (pe_bltn (v := .ty "bool") (by rfl) T.bool (by decide +kernel) rfl) pa_nil)))) (pe_one (pe_chain op_le op_le (pv 1) (pv 0) (pv 2))))))), ?_⟩
  rcases int_or hd with ⟨i, rfl, rfl⟩ | ⟨e, e1 | ⟨e1, e2⟩⟩
  · walk_at "g"
    refine g_isInt' hd (b := true) rfl ?_
    walk_at "g"
    refine g_isBool' hd (b := false) rfl ?_
    walk_at "g"
    have k' : Q (.bl (decide (l ≤ i) && decide (i ≤ m))) H := k
    refine ite2 (fun h => ?_) (fun h => ?_)
    · walk_at "g"
      rw [h, Bool.true_and] at k'
      exact k'
    · have h' : decide (l ≤ i) = false := by simpa using h
      rw [h', Bool.false_and] at k'
      exact k'
  · have z : intIn d l m = false := by
      unfold intIn
      rw [e]
    rw [z] at k
    walk_at "g"
    refine g_isInt' hd e1 ?_
    walk_at "g"
    exact k
  · have z : intIn d l m = false := by
      unfold intIn
      rw [e]
    rw [z] at k
    walk_at "g"
    refine g_isInt' hd e1 ?_
    walk_at "g"
    refine g_isBool' hd e2 ?_
    walk_at "g"
    exact k
end
end DW
namespace DW
open PySem PySem.Spec PyProof.Rows L2
/-- the readings, until a question is met -/
local macro_rules | `(tactic| walk_at "g") => `(tactic| repeat (first
  | with_reducible refine g_seq ?_
  | with_reducible refine g_asg ?_
  | with_reducible refine g_name ?_
  | with_reducible refine g_op ?_
  | with_reducible refine g_cons ?_
  | with_reducible refine g_c ?_
  | ((with_reducible refine' g_var ?hv ?_); (case hv => exact rfl))
  | with_reducible refine g_nil ?_
  | with_reducible refine g_I0 ?_
  | with_reducible refine g_cb ?_
  | with_reducible refine g_call ?_
  | with_reducible refine g_callS ?_
  | with_reducible refine g_mkE ?_
  | with_reducible refine g_fld ?_
  | with_reducible refine g_ret ?_
  | with_reducible refine g_retN ?_
  | with_reducible refine g_drop ?_
  | with_reducible refine g_if ?_
  | with_reducible refine g_next ?_
  | with_reducible refine g_un ?_
  | with_reducible refine g_U ?_
  | with_reducible refine g_eqI ?_
  | with_reducible refine g_neI ?_
  | with_reducible refine g_eqS ?_
  | with_reducible refine g_neS ?_
  | with_reducible refine g_tup ?_
  | with_reducible refine g_lst ?_
  | with_reducible refine g_test ?_
  | with_reducible refine g_tif ?_
  | with_reducible refine g_forB ?_
  | with_reducible refine g_forEL ?_
  | with_reducible refine g_forRev ?_
  | with_reducible refine g_for3 ?_
  | with_reducible refine g_B ?_
  | with_reducible refine g_and ?_
  | with_reducible refine g_or ?_
  | with_reducible refine g_not ?_
  | with_reducible refine g_ifE ?_
  | with_reducible refine g_andV ?_
  | with_reducible refine g_orV ?_
  | with_reducible refine g_notV ?_
  | with_reducible refine g_chain ?_
  | with_reducible refine g_chainT ?_
  | with_reducible refine g_no ?_
  | with_reducible refine g_part ?_
  | with_reducible refine g_sl ?_
  | with_reducible refine g_bm ?_
  | with_reducible refine g_bm0 ?_
  | with_reducible refine g_par ?_
  | with_reducible refine g_sub ?_
  | with_reducible refine g_gCons ?_
  | with_reducible refine g_gNil ?_
  | ((with_reducible refine' g_ixL ?hv ?he ?_); (case hv => first | assumption | exact upd_same); (case he => first | exact rfl | exact atI_nat (j := 0) rfl | exact atI_nat (j := 1) rfl | exact atI_nat (j := 2) rfl))
  | ((with_reducible refine' g_ixT ?hv ?he ?_); (case hv => first | assumption | exact upd_same); (case he => first | exact rfl | exact atI_nat (j := 0) rfl | exact atI_nat (j := 1) rfl | exact atI_nat (j := 2) rfl))
  | ((with_reducible refine' g_gTup ?hv ?he ?_); (case hv => first | assumption | exact upd_same); (case he => exact rfl))
  | ((with_reducible refine' g_tyL ?hv ?_); (case hv => first | assumption | exact upd_same))
  | with_reducible refine g_for1 ?_
  | with_reducible refine g_for2 ?_
  | with_reducible refine g_forL ?_
  | with_reducible refine g_forT ?_
  | with_reducible refine g_lc1 ?_
  | with_reducible refine g_lc2 ?_
  | with_reducible refine g_lcL ?_
  | with_reducible refine g_lcT ?_
  | with_reducible refine g_lcE ?_
  | with_reducible refine g_lcZ ?_
  | with_reducible refine g_rev ?_
  | with_reducible refine g_listRg ?_
  | with_reducible refine g_tupRg ?_
  | with_reducible refine g_rg1 ?_
  | with_reducible refine g_ckw ?_
  | with_reducible refine g_rg2 ?_
  | with_reducible refine g_yes ?_
  | with_reducible refine iteT ?_
  | with_reducible refine iteF ?_
  | with_reducible refine g_ifNT ?_
  | with_reducible refine g_ifNF ?_
  | ((with_reducible refine' g_ifC ?hc ?_); (case hc => exact rfl))
  | ((with_reducible refine' g_ifD ?hc ?_); (case hc => exact rfl))
  | (with_reducible refine ⟨(show List.length _ ≤ sizeLine from Nat.le_of_ble_eq_true (by with_unfolding_all rfl)), ?_⟩)
  | (with_reducible refine ⟨_, rfl, ?_⟩)
  | (with_reducible refine Or.inl ⟨_, rfl, ?_⟩)
  | ((with_reducible refine' ⟨_, _, rfl, Or.inl (SqL.of ?hv), ?_⟩); (case hv => first | assumption | exact upd_same))
  | ((with_reducible refine' ⟨_, _, rfl, Or.inr (SqT.of ?hv), ?_⟩); (case hv => first | assumption | exact upd_same))
  | ((with_reducible refine' g_I ?hc ?_); (case hc => first | (show (0 : Int) < _; omega) | exact Or.inl ⟨by decide, by decide⟩ | exact Or.inr ⟨by decide, by decide⟩ | exact ⟨by decide, by decide +kernel⟩))
  | (with_reducible refine ⟨_, _, rfl, ?_⟩)))
/-- steps of the heap, from its end: tuples stay (k), all stays (s), the deck stands (d), it is drawn from (r), a thing stands beside it (o) -/
local macro_rules | `(tactic| walk_at "k") => `(tactic| first
  | with_reducible assumption
  | with_reducible exact tk_refl
  | ((with_reducible refine tk_step ?_ (by assumption)); walk_at "k")
  | ((with_reducible refine tk_mut ?_ (by assumption)); walk_at "k")
  | ((with_reducible refine tk_same ?_ (by assumption)); walk_at "k")
  | ((with_reducible refine tk_gr ?_ (by assumption) (by walk_at "d")); walk_at "k"))
local macro_rules | `(tactic| walk_at "s") => `(tactic| first
  | with_reducible assumption
  | with_reducible exact Same.refl _
  | ((with_reducible refine same_step ?_ (by assumption)); walk_at "s")
  | ((with_reducible refine Same.trans ?_ (by assumption)); walk_at "s"))
local macro_rules | `(tactic| walk_at "d") => `(tactic| first
  | with_reducible assumption
  | with_reducible exact Gr.at_ (by assumption)
  | ((with_reducible refine dk_step ?_ (by assumption)); walk_at "d")
  | ((with_reducible refine DeckAt.same ?_ (by assumption)); walk_at "d"))
local macro_rules | `(tactic| walk_at "r") => `(tactic| first
  | with_reducible assumption
  | ((with_reducible refine Gr.refl ?_); walk_at "d")
  | ((with_reducible refine Gr.new ?_ (by assumption)); walk_at "r")
  | ((with_reducible refine Gr.mut ?_ (by walk_at "d") (by assumption)); walk_at "r")
  | ((with_reducible refine Gr.same ?_ (by assumption)); walk_at "r")
  | ((with_reducible refine Gr.trans ?_ (by assumption)); walk_at "r"))
local macro_rules | `(tactic| walk_at "o") => `(tactic| first
  | with_reducible assumption
  | (refine Off.new ?_ (by assumption); walk_at "d")
  | ((with_reducible refine Off.step ?_ (by assumption)); walk_at "o")
  | ((with_reducible refine off_same ?_ (by assumption)); walk_at "o")
  | ((with_reducible refine Off.go ?_ (by assumption)); walk_at "o"))

section
variable {P : Program} {w : World} {K : PySem.W.Frag} {mg : Str → Option Value} {base : Heap}
abbrev s_is_whole_number : Stmt := top 2
theorem sc_is_whole_number : FnScope ["value"] ["value"] (defScope s_is_whole_number) := ⟨rfl, rfl, rfl, by decide +kernel, rfl, by decide +kernel, by decide +kernel⟩
theorem ok_isint (F : Top K mg "is_whole_number" s_is_whole_number ["value"]) (T : NoB mg) : Def P w K mg base "is_whole_number" ["value"] 1 spIsIntD := by
  obtain ⟨f, fd, F⟩ := F
  refine F.def sc_is_whole_number (fun vs H Q E h => ?_) (fun cdv A outer s H vs Q E hg hr h => ?_)
  · obtain ⟨D, v, d, rfl, _⟩ := h
    rfl
  obtain ⟨D, v, d, rfl, hd, k⟩ := h
  have nd := sc_is_whole_number.nd
  refine ⟨_, (pss_one (ps_ret (pe_and (pe_callB call_isi (by rfl) T.isinstance (by decide +kernel) (pa_cons (pv 0) (pa_cons (pe_bltn (v := .ty "int") (by rfl) T.int (by decide +kernel) rfl) pa_nil))) (pe_one (pe_not (pe_callB call_isi (by rfl) T.isinstance (by decide +kernel) (pa_cons (pv 0) (pa_cons (pe_bltn (v := .ty "bool") (by rfl) T.bool (by decide +kernel) rfl) pa_nil)))))))), ?_⟩
  rcases int_or hd with ⟨i, rfl, rfl⟩ | ⟨e, e1 | ⟨e1, e2⟩⟩
  · walk_at "g"
    refine g_isInt' hd (b := true) rfl ?_
    walk_at "g"
    refine g_isBool' hd (b := false) rfl ?_
    walk_at "g"
    exact k
  · rw [e] at k
    walk_at "g"
    refine g_isInt' hd e1 ?_
    walk_at "g"
    exact k
  · rw [e] at k
    walk_at "g"
    refine g_isInt' hd e1 ?_
    walk_at "g"
    refine g_isBool' hd e2 ?_
    walk_at "g"
    exact k
end
end DW
namespace DW
open PySem PySem.Spec PyProof.Rows L2
/-- the readings, until a question is met -/
local macro_rules | `(tactic| walk_at "g") => `(tactic| repeat (first
  | with_reducible refine g_seq ?_
  | with_reducible refine g_asg ?_
  | with_reducible refine g_name ?_
  | with_reducible refine g_op ?_
  | with_reducible refine g_cons ?_
  | with_reducible refine g_c ?_
  | ((with_reducible refine' g_var ?hv ?_); (case hv => exact rfl))
  | with_reducible refine g_nil ?_
  | with_reducible refine g_I0 ?_
  | with_reducible refine g_cb ?_
  | with_reducible refine g_call ?_
  | with_reducible refine g_callS ?_
  | with_reducible refine g_mkE ?_
  | with_reducible refine g_fld ?_
  | with_reducible refine g_ret ?_
  | with_reducible refine g_retN ?_
  | with_reducible refine g_drop ?_
  | with_reducible refine g_if ?_
  | with_reducible refine g_next ?_
  | with_reducible refine g_un ?_
  | with_reducible refine g_U ?_
  | with_reducible refine g_eqI ?_
  | with_reducible refine g_neI ?_
  | with_reducible refine g_eqS ?_
  | with_reducible refine g_neS ?_
  | with_reducible refine g_tup ?_
  | with_reducible refine g_lst ?_
  | with_reducible refine g_test ?_
  | with_reducible refine g_tif ?_
  | with_reducible refine g_forB ?_
  | with_reducible refine g_forEL ?_
  | with_reducible refine g_forRev ?_
  | with_reducible refine g_for3 ?_
  | with_reducible refine g_B ?_
  | with_reducible refine g_and ?_
  | with_reducible refine g_or ?_
  | with_reducible refine g_not ?_
  | with_reducible refine g_ifE ?_
  | with_reducible refine g_andV ?_
  | with_reducible refine g_orV ?_
  | with_reducible refine g_notV ?_
  | with_reducible refine g_chain ?_
  | with_reducible refine g_chainT ?_
  | with_reducible refine g_no ?_
  | with_reducible refine g_part ?_
  | with_reducible refine g_sl ?_
  | with_reducible refine g_bm ?_
  | with_reducible refine g_bm0 ?_
  | with_reducible refine g_par ?_
  | with_reducible refine g_sub ?_
  | with_reducible refine g_gCons ?_
  | with_reducible refine g_gNil ?_
  | ((with_reducible refine' g_ixL ?hv ?he ?_); (case hv => first | assumption | exact upd_same); (case he => first | exact rfl | exact atI_nat (j := 0) rfl | exact atI_nat (j := 1) rfl | exact atI_nat (j := 2) rfl))
  | ((with_reducible refine' g_ixT ?hv ?he ?_); (case hv => first | assumption | exact upd_same); (case he => first | exact rfl | exact atI_nat (j := 0) rfl | exact atI_nat (j := 1) rfl | exact atI_nat (j := 2) rfl))
  | ((with_reducible refine' g_gTup ?hv ?he ?_); (case hv => first | assumption | exact upd_same); (case he => exact rfl))
  | ((with_reducible refine' g_tyL ?hv ?_); (case hv => first | assumption | exact upd_same))
  | with_reducible refine g_for1 ?_
  | with_reducible refine g_for2 ?_
  | with_reducible refine g_forL ?_
  | with_reducible refine g_forT ?_
  | with_reducible refine g_lc1 ?_
  | with_reducible refine g_lc2 ?_
  | with_reducible refine g_lcL ?_
  | with_reducible refine g_lcT ?_
  | with_reducible refine g_lcE ?_
  | with_reducible refine g_lcZ ?_
  | with_reducible refine g_rev ?_
  | with_reducible refine g_listRg ?_
  | with_reducible refine g_tupRg ?_
  | with_reducible refine g_rg1 ?_
  | with_reducible refine g_ckw ?_
  | with_reducible refine g_rg2 ?_
  | with_reducible refine g_yes ?_
  | with_reducible refine iteT ?_
  | with_reducible refine iteF ?_
  | with_reducible refine g_ifNT ?_
  | with_reducible refine g_ifNF ?_
  | ((with_reducible refine' g_ifC ?hc ?_); (case hc => exact rfl))
  | ((with_reducible refine' g_ifD ?hc ?_); (case hc => exact rfl))
  | (with_reducible refine ⟨(show List.length _ ≤ sizeLine from Nat.le_of_ble_eq_true (by with_unfolding_all rfl)), ?_⟩)
  | (with_reducible refine ⟨_, rfl, ?_⟩)
  | (with_reducible refine Or.inl ⟨_, rfl, ?_⟩)
  | ((with_reducible refine' ⟨_, _, rfl, Or.inl (SqL.of ?hv), ?_⟩); (case hv => first | assumption | exact upd_same))
  | ((with_reducible refine' ⟨_, _, rfl, Or.inr (SqT.of ?hv), ?_⟩); (case hv => first | assumption | exact upd_same))
  | ((with_reducible refine' g_I ?hc ?_); (case hc => first | (show (0 : Int) < _; omega) | exact Or.inl ⟨by decide, by decide⟩ | exact Or.inr ⟨by decide, by decide⟩ | exact ⟨by decide, by decide +kernel⟩))
  | (with_reducible refine ⟨_, _, rfl, ?_⟩)))
/-- steps of the heap, from its end: tuples stay (k), all stays (s), the deck stands (d), it is drawn from (r), a thing stands beside it (o) -/
local macro_rules | `(tactic| walk_at "k") => `(tactic| first
  | with_reducible assumption
  | with_reducible exact tk_refl
  | ((with_reducible refine tk_step ?_ (by assumption)); walk_at "k")
  | ((with_reducible refine tk_mut ?_ (by assumption)); walk_at "k")
  | ((with_reducible refine tk_same ?_ (by assumption)); walk_at "k")
  | ((with_reducible refine tk_gr ?_ (by assumption) (by walk_at "d")); walk_at "k"))
local macro_rules | `(tactic| walk_at "s") => `(tactic| first
  | with_reducible assumption
  | with_reducible exact Same.refl _
  | ((with_reducible refine same_step ?_ (by assumption)); walk_at "s")
  | ((with_reducible refine Same.trans ?_ (by assumption)); walk_at "s"))
local macro_rules | `(tactic| walk_at "d") => `(tactic| first
  | with_reducible assumption
  | with_reducible exact Gr.at_ (by assumption)
  | ((with_reducible refine dk_step ?_ (by assumption)); walk_at "d")
  | ((with_reducible refine DeckAt.same ?_ (by assumption)); walk_at "d"))
local macro_rules | `(tactic| walk_at "r") => `(tactic| first
  | with_reducible assumption
  | ((with_reducible refine Gr.refl ?_); walk_at "d")
  | ((with_reducible refine Gr.new ?_ (by assumption)); walk_at "r")
  | ((with_reducible refine Gr.mut ?_ (by walk_at "d") (by assumption)); walk_at "r")
  | ((with_reducible refine Gr.same ?_ (by assumption)); walk_at "r")
  | ((with_reducible refine Gr.trans ?_ (by assumption)); walk_at "r"))
local macro_rules | `(tactic| walk_at "o") => `(tactic| first
  | with_reducible assumption
  | (refine Off.new ?_ (by assumption); walk_at "d")
  | ((with_reducible refine Off.step ?_ (by assumption)); walk_at "o")
  | ((with_reducible refine off_same ?_ (by assumption)); walk_at "o")
  | ((with_reducible refine Off.go ?_ (by assumption)); walk_at "o"))

section
variable {P : Program} {w : World} {K : PySem.W.Frag} {mg : Str → Option Value} {base : Heap}
abbrev s__law_bent : Stmt := top 26
theorem sc__law_bent : FnScope ["deck", "value", "deep", "at", "near", "some"] ["deck", "value", "deep"] (defScope s__law_bent) := ⟨rfl, rfl, rfl, by decide +kernel, rfl, by decide +kernel, by decide +kernel⟩
def spBentN (n : Nat) : Sp := fun vs H Q _ => ∃ (D : Dk) (v : V) (d : PyData) (m : Int), vs = [.ref D.dk, v, .int m] ∧ m = n ∧ DeckAt D H ∧ Da D H v d ∧ Bd n d ∧ ∀ v' H', Gr D H H' → OkV (n + 6) (bC n) D H' v' → Q v' H'
theorem ok_bentN (n : Nat) (hn10 : n ≤ 5) {kk : Nat} (hkk : 3 ≤ kk) (prev : Sp) (hp : ∀ m, n = m + 1 → prev = spBentN m) (F : Top K mg "_law_bent" s__law_bent ["deck", "value", "deep"]) (T : NoB mg) (G_law_draw : Def P w K mg base "_law_draw" ["deck", "many"] 1 spDraw) (G_law_one : Def P w K mg base "_law_one" ["deck", "items"] 2 spOne) (G_law_odd : Def P w K mg base "_law_odd" ["deck"] 3 spOdd) (G_law_bent : Def P w K mg base "_law_bent" ["deck", "value", "deep"] kk prev) : Def P w K mg base "_law_bent" ["deck", "value", "deep"] (kk + 1) (spBentN n) := by
  obtain ⟨f, fd, F⟩ := F
  refine F.def sc__law_bent (fun vs H Q E h => ?_) (fun cdv A outer s H vs Q E hg hr h => ?_)
  · obtain ⟨D, v, d, m, rfl, _⟩ := h
    rfl
  obtain ⟨D, v, d, m, rfl, rfl, dk, hd, hb, k⟩ := h
  have nd := sc__law_bent.nd
  refine ⟨_, (Evl.pss_cut (ps_if (PW.pt (pw_and (pt_val (pe_callB call_isi (by rfl) T.isinstance (by decide +kernel) (pa_cons (pv 1) (pa_cons (pe_bltn (v := .ty "tuple") (by rfl) T.tuple (by decide +kernel) rfl) pa_nil)))) (pw_and (pt_cmpR (op_neD hr.units) (pv 1) (pe_tup pa_nil) (nomark _)) (pw_and (pt_cmpR op_gt (pv 2) pe_int (nomark _)) (pw_and1 (pt_cmpR op_gt (DW.pe_def G_law_draw hg (hr.mono (by omega)) rfl (pa_cons (pv 0) (pa_cons pe_int pa_nil))) pe_int (nomark _))))))) (pss_cons (ps_set (i := 3) nd rfl (Or.inl rfl) (DW.pe_def G_law_draw hg (hr.mono (by omega)) rfl (pa_cons (pv 0) (pa_cons (pe_callB call_len_seq (by rfl) T.len (by decide +kernel) (pa_cons (pv 1) pa_nil)) pa_nil))))
      (pss_one (ps_ret (pe_op op_catA (pe_op op_catA (pe_slice sl_tupA (pv 1) po_none (po_some (pv 3))) (pe_tup (pa_cons (DW.pe_def G_law_bent hg (hr.mono (by omega)) rfl (pa_cons (pv 0) (pa_cons (pe_ix ix_tup (pv 1) (pv 3) (fun _ _ => rfl)) (pa_cons (pe_op op_sub (pv 2) pe_int) pa_nil)))) pa_nil))) (pe_slice sl_tupA (pv 1) (po_some (pe_op op_add (pv 3) pe_int)) po_none))))) pss_nil)
      (pss_cons (ps_if (pt_not (pt_val (pe_callB call_isi (by rfl) T.isinstance (by decide +kernel) (pa_cons (pv 1) (pa_cons (pe_bltn (v := .ty "tuple") (by rfl) T.tuple (by decide +kernel) rfl) pa_nil))))) (pss_cons (ps_set (i := 4) nd rfl (Or.inl rfl) (pe_ifExp (pt_val (pe_callB call_isi (by rfl) T.isinstance (by decide +kernel) (pa_cons (pv 1) (pa_cons (pe_bltn (v := .ty "int") (by rfl) T.int (by decide +kernel) rfl) pa_nil)))) (pe_lst (pa_cons (pe_op op_add (pv 1) pe_int) (pa_cons (pe_op op_sub (pv 1) pe_int) (pa_cons (pe_op op_sub pe_int (pv 1)) (pa_cons (pe_callTy call_bool1 (by rfl) T.bool (by decide +kernel) (pa_cons (pv 1) pa_nil)) (pa_cons (pe_callTy call_str_int (by rfl) T.str (by decide +kernel) (pa_cons (pv 1) pa_nil)) pa_nil)))))) (pe_lst pa_nil)))
      (pss_one (ps_ret (DW.pe_def G_law_one hg (hr.mono (by omega)) rfl (pa_cons (pv 0) (pa_cons (pe_op op_cat (pv 4) (pe_lst (pa_cons (DW.pe_def G_law_odd hg (hr.mono (by omega)) rfl (pa_cons (pv 0) pa_nil)) (pa_cons (DW.pe_def G_law_odd hg (hr.mono (by omega)) rfl (pa_cons (pv 0) pa_nil)) pa_nil)))) pa_nil)))))) pss_nil)
      (pss_cons (ps_set (i := 3) nd rfl (Or.inl rfl) (DW.pe_def G_law_draw hg (hr.mono (by omega)) rfl (pa_cons (pv 0) (pa_cons (pe_op op_add (pe_callB call_len_seq (by rfl) T.len (by decide +kernel) (pa_cons (pv 1) pa_nil)) pe_int) pa_nil))))
      (pss_cons (ps_set (i := 5) nd rfl (Or.inl rfl) (pe_lst (pa_cons (DW.pe_def G_law_odd hg (hr.mono (by omega)) rfl (pa_cons (pv 0) pa_nil)) (pa_cons (pe_slice sl_tupA (pv 1) (po_some pe_int) po_none) (pa_cons (pe_slice sl_tupA (pv 1) po_none (po_some (pe_un un_neg pe_int))) (pa_cons (DW.pe_back (pv 1)) (pa_cons (pe_callTy call_list_of (by rfl) T.list (by decide +kernel) (pa_cons (pv 1) pa_nil)) (pa_cons (pe_op op_catA (pv 1) (pe_slice sl_tupA (pv 1) (po_some (pe_un un_neg pe_int)) po_none)) pa_nil))))))))
      (pss_one (ps_ret (DW.pe_def G_law_one hg (hr.mono (by omega)) rfl (pa_cons (pv 0) (pa_cons (pe_op op_cat (pv 5) (pe_lst (pa_cons (pe_op op_catA (pe_op op_catA (pe_slice sl_tupA (pv 1) po_none (po_some (pv 3))) (pe_tup (pa_cons (DW.pe_def G_law_odd hg (hr.mono (by omega)) rfl (pa_cons (pv 0) pa_nil)) pa_nil))) (pe_slice sl_tupA (pv 1) (po_some (pv 3)) po_none)) (pa_cons (pe_op op_catA (pe_slice sl_tupA (pv 1) po_none (po_some (pv 3))) (pe_slice sl_tupA (pv 1) (po_some (pe_op op_add (pv 3) pe_int)) po_none)) pa_nil)))) pa_nil))))))))), ?_⟩
  have b30 := bC_30 n
  cases n with
  | zero =>
    obtain ⟨i, rfl, hi⟩ := hb
    obtain ⟨rfl, _⟩ := isInt_int hd rfl
    have k0 : ∀ v' H', Gr D H H' → OkV 6 30 D H' v' → Q v' H' := k
    walk_at "g"
    refine g_cut (fun σ H' => H' = H ∧ σ = L2.start ["deck", "value", "deep", "at", "near", "some"] [.ref D.dk, .int i, .int ((0 : Nat) : Int)]) ?_ ?_
    · walk_at "g"
      refine g_isTup' hd (b := false) rfl ?_
      walk_at "g"
      exact ⟨rfl, rfl⟩
    · rintro σ H' ⟨rfl, rfl⟩
      have g := Gr.refl dk
      walk_at "g"
      refine g_isTup' hd (b := false) rfl ?_
      walk_at "g"
      refine g_isInt' hd (b := true) rfl ?_
      walk_at "g"
      have hlog : i.natAbs.log2 < 1920 := by
        have := (fit_int (i := i) (Nat.lt_of_le_of_lt hi (by decide))).s
        simpa only [PyData.showable, decide_eq_true_eq] using this
      refine ⟨hlog, ?_⟩
      walk_at "g"
      intro a1 n1
      generalize hH : L2.upd _ a1 _ = H1
      have o1 := Off.laid g.at_ n1 hH
      replace g := g.lay n1 hH
      clear hH n1
      walk_at "g"
      refine ⟨D, rfl, g.at_, fun v1 H2 g1 d1 => ?_⟩
      replace o1 := o1.go g1
      replace g := g.trans g1
      walk_at "g"
      refine ⟨D, rfl, g.at_, fun v2 H3 g1 d2 => ?_⟩
      replace o1 := o1.go g1
      replace d1 := d1.go (g1.ok g.at_)
      replace g := g.trans g1
      walk_at "g"
      intro a2 n1
      generalize hH : L2.upd _ a2 _ = H4
      replace o1 := o1.lay n1 hH
      have o2 := Off.laid g.at_ n1 hH
      replace d1 := d1.go (hH ▸ OffKeep.new n1)
      replace d2 := d2.go (hH ▸ OffKeep.new n1)
      replace g := g.lay n1 hH
      clear hH n1
      walk_at "g"
      refine g_cat o1.1 o2.1 (Nat.le_of_ble_eq_true (by with_unfolding_all rfl)) ?_
      intro a3 n1
      generalize hH : L2.upd _ a3 _ = H5
      have o3 := Off.laid g.at_ n1 hH
      replace d1 := d1.go (hH ▸ OffKeep.new n1)
      replace d2 := d2.go (hH ▸ OffKeep.new n1)
      replace g := g.lay n1 hH
      clear hH n1
      walk_at "g"
      refine ⟨D, a3, _, rfl, g.at_, .inl o3, by simp, Nat.le_of_ble_eq_true (by with_unfolding_all rfl), fun v H' hv g' => ?_⟩
      refine k0 v H' (g.trans g') (OkV.go ?_ (g'.ok g.at_))
      have big : ∀ j : Int, j.natAbs ≤ 10 ^ 14 + 1 → j.natAbs < 10 ^ 39 := fun j h => Nat.lt_of_le_of_lt h (by decide)
      simp only [List.cons_append, List.nil_append, List.mem_cons, List.not_mem_nil, or_false] at hv
      rcases hv with rfl | rfl | rfl | rfl | rfl | rfl | rfl
      · exact okPure (.int _) (fit_int (big _ (by omega))) (by decide) (by decide)
      · exact okPure (.int _) (fit_int (big _ (by omega))) (by decide) (by decide)
      · exact okPure (.int _) (fit_int (big _ (by omega))) (by decide) (by decide)
      · exact okPure (.bl _) fit_bool (by decide) (by decide)
      · refine okPure (.str _) (fit_str (n := 30) ?_) (by decide) (by decide)
        exact Nat.le_trans (int_text_length_le10 (k := 29) (by decide) (Nat.lt_of_le_of_lt hi (by decide))) (by decide)
      · exact d1.up (by decide) (by decide)
      · exact d2.up (by decide) (by decide)
  | succ n =>
    obtain rfl := hp n rfl
    obtain ⟨ds, rfl, hl10, hbs⟩ := id hb
    obtain ⟨a, xs, rfl, ha, r⟩ : ∃ a xs, v = .ref a ∧ H a = some (.tup xs) ∧ DaAll D H xs ds := by
      cases hd with
      | tup h r => exact ⟨_, _, rfl, h, r⟩
    have hl := r.len
    have hg0 := bC_ge n
    have b30' := bC_30 n
    have pure : ∀ e ∈ ds, Fit false false (n + 6) (bC n) e := fun e m => (hbs e m).fit.up (by omega) hg0
    have fin : ∀ v' H', Gr D H H' → OkV (n + 7) (11 * (bC n + 1)) D H' v' → Q v' H' := k
    walk_at "g"
    refine g_cut (fun σ H' => Gr D H H' ∧ σ = L2.start ["deck", "value", "deep", "at", "near", "some"] [.ref D.dk, .ref a, .int ((n + 1 : Nat) : Int)]) ?_ ?_
    · walk_at "g"
      refine g_isTup' hd (b := true) rfl ?_
      walk_at "g"
      intro p1 n1
      generalize hH : L2.upd _ p1 _ = H1
      have g : Gr D H H1 := (Gr.refl dk).lay n1 hH
      replace ha := g.tup dk ha
      replace r := r.lay n1 hH
      have ep := (same_of hH n1).2
      clear hH n1
      refine g_neTup (by omega) ha r hb ep ?_
      by_cases hne : ds = []
      · subst hne
        walk_at "g"
        exact ⟨g, rfl⟩
      · have he : ds.isEmpty = false := by
          cases ds with
          | nil => exact absurd rfl hne
          | cons => rfl
        have hpos : 0 < xs.length := by
          rw [hl]
          exact List.length_pos_iff.mpr hne
        rw [he]
        walk_at "g"
        rw [show decide (((n + 1 : Nat) : Int) > 0) = true from decide_eq_true (by omega)]
        walk_at "g"
        refine ⟨D, 4, rfl, g.at_, by decide, by decide, fun r1 H2 _ _ g1 => ?_⟩
        replace ha := g1.tup g.at_ ha
        replace r := DaAll.go (g1.ok g.at_) _ _ r
        replace g := g.trans g1
        walk_at "g"
        refine ite2 (fun h => ?_) (fun h => ?_)
        · walk_at "g"
          refine ⟨D, _, rfl, g.at_, by omega, lt200 (by omega) (by omega), fun r2 H3 h20 h21 g1 => ?_⟩
          obtain ⟨j, rfl⟩ : ∃ j : Nat, r2 = (j : Int) := ⟨r2.toNat, by omega⟩
          have hj : j < xs.length := by omega
          have gx : xs[j]? = some xs[j] := List.getElem?_eq_getElem hj
          generalize xs[j] = x at gx
          replace ha := g1.tup g.at_ ha
          replace r := DaAll.go (g1.ok g.at_) _ _ r
          replace g := g.trans g1
          walk_at "g"
          refine g_slA ha fun p2 H4 s1 e2 => ?_
          rw [cut_take] at e2
          replace ha := s1 _ _ ha
          replace r := DaAll.go (OffKeep.same s1) _ _ r
          replace g := g.same s1
          walk_at "g"
          refine g_ixT ha (atI_nat gx) ?_
          walk_at "g"
          obtain ⟨e, ge, dx⟩ := r.get gx
          refine ⟨D, x, e, _, rfl, by omega, g.at_, dx, hbs e (List.mem_of_getElem? ge), fun v' H5 g1 ov => ?_⟩
          replace e2 := g1.tup g.at_ e2
          replace ha := g1.tup g.at_ ha
          replace r := DaAll.go (g1.ok g.at_) _ _ r
          replace g := g.trans g1
          walk_at "g"
          intro p3 n1
          generalize hH : L2.upd _ p3 _ = H6
          obtain ⟨s1, e3⟩ := same_of hH n1
          clear hH n1
          replace e2 := s1 _ _ e2
          replace ha := s1 _ _ ha
          replace r := DaAll.go (OffKeep.same s1) _ _ r
          replace ov := ov.go (OffKeep.same s1)
          replace g := g.same s1
          walk_at "g"
          refine g_catA e2 e3 (by rw [List.length_take]; simp only [List.length_cons, List.length_nil]; omega) fun p4 H7 s1 e4 => ?_
          replace ha := s1 _ _ ha
          replace r := DaAll.go (OffKeep.same s1) _ _ r
          replace ov := ov.go (OffKeep.same s1)
          replace g := g.same s1
          walk_at "g"
          refine g_slA ha fun p5 H8 s1 e5 => ?_
          rw [show ((j : Int) + 1) = ((j + 1 : Nat) : Int) by omega, cut_drop] at e5
          replace e4 := s1 _ _ e4
          replace r := DaAll.go (OffKeep.same s1) _ _ r
          replace ov := ov.go (OffKeep.same s1)
          replace g := g.same s1
          walk_at "g"
          refine g_catA e4 e5 (by rw [List.length_append, List.length_take, List.length_drop]; simp only [List.length_cons, List.length_nil]; omega) fun p6 H9 s1 e6 => ?_
          replace r := DaAll.go (OffKeep.same s1) _ _ r
          replace ov := ov.go (OffKeep.same s1)
          replace g := g.same s1
          obtain ⟨d', x', y', dv, fv, ev⟩ := ov
          refine fin _ _ g (okTup e6 (((r.take j).app (.one dv)).app (r.drop (j + 1))) (fit_mix (fun e m => pure e (List.mem_of_mem_take m)) (fun e m => pure e (List.mem_of_mem_drop m)) fv) ev (by omega) ?_)
          refine Nat.mul_le_mul_right _ ?_
          simp only [List.length_append, List.length_take, List.length_drop, List.length_cons, List.length_nil]
          omega
        · walk_at "g"
          exact ⟨g, rfl⟩
    · rintro σ H1 ⟨g, rfl⟩
      replace ha := g.tup dk ha
      replace r := DaAll.go (g.ok dk) _ _ r
      replace hd := Da.go (g.ok dk) _ _ hd
      walk_at "g"
      refine g_isTup' hd (b := true) rfl ?_
      walk_at "g"
      refine ⟨D, _, rfl, g.at_, by omega, lt200 (by omega) (by omega), fun r2 H2 h20 h21 g1 => ?_⟩
      obtain ⟨j, rfl⟩ : ∃ j : Nat, r2 = (j : Int) := ⟨r2.toNat, by omega⟩
      have hj : j ≤ xs.length := by omega
      replace ha := g1.tup g.at_ ha
      replace r := DaAll.go (g1.ok g.at_) _ _ r
      replace g := g.trans g1
      walk_at "g"
      refine ⟨D, rfl, g.at_, fun v1 H3 g1 ov => ?_⟩
      replace ha := g1.tup g.at_ ha
      replace r := DaAll.go (g1.ok g.at_) _ _ r
      replace g := g.trans g1
      have tb : OkAll (n + 7) (11 * (bC n + 1)) D H3 [v1] := OkAll.cons (ov.up (by omega) (by have := bC_30 n; omega)) OkAll.nil
      clear ov
      -- what a part of the tuple comes to
      have part : ∀ {p H' ys es}, H' p = some (HO.tup ys) → DaAll D H' ys es → (∀ e ∈ es, e ∈ ds) → es.length ≤ 11 → OkV (n + 7) (11 * (bC n + 1)) D H' (.ref p) := fun h1 h2 h3 h4 =>
        okTup h1 h2 (fun e m => pure e (h3 e m)) rfl (by omega) (Nat.mul_le_mul_right _ h4)
      walk_at "g"
      refine g_slA ha fun p2 H4 s1 e2 => ?_
      replace ha := s1 _ _ ha
      replace r := DaAll.go (OffKeep.same s1) _ _ r
      replace g := g.same s1
      replace tb := OkAll.cons (part e2 (r.cut _ _) (fun e m => mem_cut m) (by rw [List.length_take, List.length_drop]; omega)) (tb.go (OffKeep.same s1))
      walk_at "g"
      refine g_slA ha fun p3 H5 s1 e3 => ?_
      replace ha := s1 _ _ ha
      replace r := DaAll.go (OffKeep.same s1) _ _ r
      replace g := g.same s1
      replace tb := OkAll.cons (part e3 (r.cut _ _) (fun e m => mem_cut m) (by rw [List.length_take, List.length_drop]; omega)) (tb.go (OffKeep.same s1))
      walk_at "g"
      refine g_back ?_
      walk_at "g"
      refine ⟨a, xs, rfl, SqT.of ha, fun p4 n1 => ?_⟩
      generalize hH : L2.upd _ p4 _ = H6
      obtain ⟨s1, e4⟩ := same_of hH n1
      clear hH n1
      replace ha := s1 _ _ ha
      replace r := DaAll.go (OffKeep.same s1) _ _ r
      replace g := g.same s1
      replace tb := OkAll.cons (part e4 r.rev (fun e m => List.mem_reverse.mp m) (by rw [List.length_reverse]; omega)) (tb.go (OffKeep.same s1))
      walk_at "g"
      intro p5 n1
      generalize hH : L2.upd _ p5 _ = H7
      have o5 := Off.laid g.at_ n1 hH
      obtain ⟨s1, e5⟩ := same_of hH n1
      clear hH n1
      replace ha := s1 _ _ ha
      replace r := DaAll.go (OffKeep.same s1) _ _ r
      replace g := g.same s1
      replace tb := OkAll.cons (okLst o5 r pure (by omega) (Nat.mul_le_mul_right _ (by omega))) (tb.go (OffKeep.same s1))
      walk_at "g"
      refine g_slA ha fun p6 H8 s1 e6 => ?_
      replace ha := s1 _ _ ha
      replace r := DaAll.go (OffKeep.same s1) _ _ r
      replace g := g.same s1
      replace tb := tb.go (OffKeep.same s1)
      walk_at "g"
      refine g_catA ha e6 (by have := cutV_length xs (some (-1)) none; omega) fun p7 H9 s1 e7 => ?_
      replace ha := s1 _ _ ha
      replace r := DaAll.go (OffKeep.same s1) _ _ r
      replace g := g.same s1
      replace tb := OkAll.cons (part e7 (r.app (r.cut _ _)) (fun e m => (List.mem_append.mp m).elim id mem_cut) (by
        have := last_len ds (HT.sIx ds.length ds.length none - HT.sIx ds.length 0 (some (-1)))
        rw [List.length_append]
        omega)) (tb.go (OffKeep.same s1))
      walk_at "g"
      intro a1 n1
      generalize hH : L2.upd _ a1 _ = H10
      have o1 := Off.laid g.at_ n1 hH
      obtain ⟨s1, _⟩ := same_of hH n1
      clear hH n1
      replace ha := s1 _ _ ha
      replace r := DaAll.go (OffKeep.same s1) _ _ r
      replace g := g.same s1
      replace tb := tb.go (OffKeep.same s1)
      walk_at "g"
      refine g_slA ha fun p8 H11 s1 e8 => ?_
      rw [cut_take] at e8
      replace ha := s1 _ _ ha
      replace r := DaAll.go (OffKeep.same s1) _ _ r
      replace g := g.same s1
      replace tb := tb.go (OffKeep.same s1)
      replace o1 := o1.same s1
      walk_at "g"
      refine ⟨D, rfl, g.at_, fun v2 H12 g1 ov => ?_⟩
      replace o1 := o1.go g1
      replace e8 := g1.tup g.at_ e8
      replace ha := g1.tup g.at_ ha
      replace r := DaAll.go (g1.ok g.at_) _ _ r
      replace tb := tb.go (g1.ok g.at_)
      replace g := g.trans g1
      walk_at "g"
      intro p9 n1
      generalize hH : L2.upd _ p9 _ = H13
      obtain ⟨s1, e9⟩ := same_of hH n1
      clear hH n1
      replace e8 := s1 _ _ e8
      replace ov := ov.go (OffKeep.same s1)
      replace ha := s1 _ _ ha
      replace r := DaAll.go (OffKeep.same s1) _ _ r
      replace g := g.same s1
      replace tb := tb.go (OffKeep.same s1)
      replace o1 := o1.same s1
      walk_at "g"
      refine g_catA e8 e9 (by rw [List.length_take]; simp only [List.length_cons, List.length_nil]; omega) fun p10 H14 s1 e10 => ?_
      replace ov := ov.go (OffKeep.same s1)
      replace ha := s1 _ _ ha
      replace r := DaAll.go (OffKeep.same s1) _ _ r
      replace g := g.same s1
      replace tb := tb.go (OffKeep.same s1)
      replace o1 := o1.same s1
      walk_at "g"
      refine g_slA ha fun p11 H15 s1 e11 => ?_
      rw [cut_drop] at e11
      replace e10 := s1 _ _ e10
      replace ov := ov.go (OffKeep.same s1)
      replace ha := s1 _ _ ha
      replace r := DaAll.go (OffKeep.same s1) _ _ r
      replace g := g.same s1
      replace tb := tb.go (OffKeep.same s1)
      replace o1 := o1.same s1
      walk_at "g"
      refine g_catA e10 e11 (by rw [List.length_append, List.length_take, List.length_drop]; simp only [List.length_cons, List.length_nil]; omega) fun p12 H16 s1 e12 => ?_
      replace ov := ov.go (OffKeep.same s1)
      replace ha := s1 _ _ ha
      replace r := DaAll.go (OffKeep.same s1) _ _ r
      replace g := g.same s1
      replace o1 := o1.same s1
      obtain ⟨d', x', y', dv, fv, ev⟩ := ov
      replace tb := OkAll.cons (okTup e12 (((r.take j).app (.one dv)).app (r.drop j)) (fit_mix (fun e m => pure e (List.mem_of_mem_take m)) (fun e m => pure e (List.mem_of_mem_drop m)) (fv.up (by omega) b30')) ev (Nat.le_refl _) (Nat.mul_le_mul_right _ (by
        simp only [List.length_append, List.length_take, List.length_drop, List.length_cons, List.length_nil]
        omega))) (tb.go (OffKeep.same s1))
      clear dv
      walk_at "g"
      refine g_slA ha fun p13 H17 s1 e13 => ?_
      rw [cut_take] at e13
      replace ha := s1 _ _ ha
      replace r := DaAll.go (OffKeep.same s1) _ _ r
      replace g := g.same s1
      replace tb := tb.go (OffKeep.same s1)
      replace o1 := o1.same s1
      walk_at "g"
      refine g_slA ha fun p14 H18 s1 e14 => ?_
      rw [show ((j : Int) + 1) = ((j + 1 : Nat) : Int) by omega, cut_drop] at e14
      replace e13 := s1 _ _ e13
      replace ha := s1 _ _ ha
      replace r := DaAll.go (OffKeep.same s1) _ _ r
      replace g := g.same s1
      replace tb := tb.go (OffKeep.same s1)
      replace o1 := o1.same s1
      walk_at "g"
      refine g_catA e13 e14 (by rw [List.length_take, List.length_drop]; omega) fun p15 H19 s1 e15 => ?_
      replace ha := s1 _ _ ha
      replace r := DaAll.go (OffKeep.same s1) _ _ r
      replace g := g.same s1
      replace o1 := o1.same s1
      replace tb := OkAll.cons (part e15 ((r.take j).app (r.drop (j + 1))) (fun e m => (List.mem_append.mp m).elim (fun m => List.mem_of_mem_take m) (fun m => List.mem_of_mem_drop m)) (by
        rw [List.length_append, List.length_take, List.length_drop]
        omega)) (tb.go (OffKeep.same s1))
      walk_at "g"
      intro a2 n1
      generalize hH : L2.upd _ a2 _ = H20
      have o2 := Off.laid g.at_ n1 hH
      obtain ⟨s1, _⟩ := same_of hH n1
      clear hH n1
      replace ha := s1 _ _ ha
      replace r := DaAll.go (OffKeep.same s1) _ _ r
      replace g := g.same s1
      replace tb := tb.go (OffKeep.same s1)
      replace o1 := o1.same s1
      walk_at "g"
      refine g_cat o1.1 o2.1 (Nat.le_of_ble_eq_true (by with_unfolding_all rfl)) ?_
      intro a3 n1
      generalize hH : L2.upd _ a3 _ = H21
      have o3 := Off.laid g.at_ n1 hH
      obtain ⟨s1, _⟩ := same_of hH n1
      clear hH n1
      replace ha := s1 _ _ ha
      replace r := DaAll.go (OffKeep.same s1) _ _ r
      replace g := g.same s1
      replace tb := tb.go (OffKeep.same s1)
      walk_at "g"
      refine ⟨D, a3, _, rfl, g.at_, .inl o3, by simp, Nat.le_of_ble_eq_true (by with_unfolding_all rfl), fun v H' hv g' => ?_⟩
      refine fin v H' (g.trans g') (OkV.go (tb v ?_) (g'.ok g.at_))
      simp only [List.cons_append, List.nil_append, List.mem_cons, List.not_mem_nil, or_false] at hv ⊢
      rcases hv with h | h | h | h | h | h | h | h <;> simp [h]
theorem no_bentN (F : Top K mg "_law_bent" s__law_bent ["deck", "value", "deep"]) : Def P w K mg base "_law_bent" ["deck", "value", "deep"] 3 (fun _ _ _ _ => False) := by
  obtain ⟨f, fd, F⟩ := F
  exact ⟨f, fd, ⟨fun _ _ _ _ h => h.elim, fun _ _ _ _ _ _ _ _ _ _ _ _ _ _ h => h.elim⟩, F.mg, F.F.kp, F.b⟩
theorem ok_bentN1 (F : Top K mg "_law_bent" s__law_bent ["deck", "value", "deep"]) (T : NoB mg) (G_law_draw : Def P w K mg base "_law_draw" ["deck", "many"] 1 spDraw) (G_law_one : Def P w K mg base "_law_one" ["deck", "items"] 2 spOne) (G_law_odd : Def P w K mg base "_law_odd" ["deck"] 3 spOdd) : Def P w K mg base "_law_bent" ["deck", "value", "deep"] 5 (spBentN 1) := by
  have h0 := ok_bentN 0 (by decide) (by decide) _ (fun m e => by omega) F T G_law_draw G_law_one G_law_odd (no_bentN F)
  exact ok_bentN 1 (by decide) (by decide) _ (fun m e => by obtain rfl : m = 0 := by omega
                                                            rfl) F T G_law_draw G_law_one G_law_odd h0
end
end DW
namespace DW
open PySem PySem.Spec PyProof.Rows L2
/-- the readings, until a question is met -/
local macro_rules | `(tactic| walk_at "g") => `(tactic| repeat (first
  | with_reducible refine g_seq ?_
  | with_reducible refine g_asg ?_
  | with_reducible refine g_name ?_
  | with_reducible refine g_op ?_
  | with_reducible refine g_cons ?_
  | with_reducible refine g_c ?_
  | ((with_reducible refine' g_var ?hv ?_); (case hv => exact rfl))
  | with_reducible refine g_nil ?_
  | with_reducible refine g_I0 ?_
  | with_reducible refine g_cb ?_
  | with_reducible refine g_call ?_
  | with_reducible refine g_callS ?_
  | with_reducible refine g_mkE ?_
  | with_reducible refine g_fld ?_
  | with_reducible refine g_ret ?_
  | with_reducible refine g_retN ?_
  | with_reducible refine g_drop ?_
  | with_reducible refine g_if ?_
  | with_reducible refine g_next ?_
  | with_reducible refine g_un ?_
  | with_reducible refine g_U ?_
  | with_reducible refine g_eqI ?_
  | with_reducible refine g_neI ?_
  | with_reducible refine g_eqS ?_
  | with_reducible refine g_neS ?_
  | with_reducible refine g_tup ?_
  | with_reducible refine g_lst ?_
  | with_reducible refine g_test ?_
  | with_reducible refine g_tif ?_
  | with_reducible refine g_forB ?_
  | with_reducible refine g_forEL ?_
  | with_reducible refine g_forRev ?_
  | with_reducible refine g_for3 ?_
  | with_reducible refine g_B ?_
  | with_reducible refine g_and ?_
  | with_reducible refine g_or ?_
  | with_reducible refine g_not ?_
  | with_reducible refine g_ifE ?_
  | with_reducible refine g_andV ?_
  | with_reducible refine g_orV ?_
  | with_reducible refine g_notV ?_
  | with_reducible refine g_chain ?_
  | with_reducible refine g_chainT ?_
  | with_reducible refine g_no ?_
  | with_reducible refine g_part ?_
  | with_reducible refine g_sl ?_
  | with_reducible refine g_bm ?_
  | with_reducible refine g_bm0 ?_
  | with_reducible refine g_par ?_
  | with_reducible refine g_sub ?_
  | with_reducible refine g_gCons ?_
  | with_reducible refine g_gNil ?_
  | ((with_reducible refine' g_ixL ?hv ?he ?_); (case hv => first | assumption | exact upd_same); (case he => first | exact rfl | exact atI_nat (j := 0) rfl | exact atI_nat (j := 1) rfl | exact atI_nat (j := 2) rfl))
  | ((with_reducible refine' g_ixT ?hv ?he ?_); (case hv => first | assumption | exact upd_same); (case he => first | exact rfl | exact atI_nat (j := 0) rfl | exact atI_nat (j := 1) rfl | exact atI_nat (j := 2) rfl))
  | ((with_reducible refine' g_gTup ?hv ?he ?_); (case hv => first | assumption | exact upd_same); (case he => exact rfl))
  | ((with_reducible refine' g_tyL ?hv ?_); (case hv => first | assumption | exact upd_same))
  | with_reducible refine g_for1 ?_
  | with_reducible refine g_for2 ?_
  | with_reducible refine g_forL ?_
  | with_reducible refine g_forT ?_
  | with_reducible refine g_lc1 ?_
  | with_reducible refine g_lc2 ?_
  | with_reducible refine g_lcL ?_
  | with_reducible refine g_lcT ?_
  | with_reducible refine g_lcE ?_
  | with_reducible refine g_lcZ ?_
  | with_reducible refine g_rev ?_
  | with_reducible refine g_listRg ?_
  | with_reducible refine g_tupRg ?_
  | with_reducible refine g_rg1 ?_
  | with_reducible refine g_ckw ?_
  | with_reducible refine g_rg2 ?_
  | with_reducible refine g_yes ?_
  | with_reducible refine iteT ?_
  | with_reducible refine iteF ?_
  | with_reducible refine g_ifNT ?_
  | with_reducible refine g_ifNF ?_
  | ((with_reducible refine' g_ifC ?hc ?_); (case hc => exact rfl))
  | ((with_reducible refine' g_ifD ?hc ?_); (case hc => exact rfl))
  | (with_reducible refine ⟨(show List.length _ ≤ sizeLine from Nat.le_of_ble_eq_true (by with_unfolding_all rfl)), ?_⟩)
  | (with_reducible refine ⟨_, rfl, ?_⟩)
  | (with_reducible refine Or.inl ⟨_, rfl, ?_⟩)
  | ((with_reducible refine' ⟨_, _, rfl, Or.inl (SqL.of ?hv), ?_⟩); (case hv => first | assumption | exact upd_same))
  | ((with_reducible refine' ⟨_, _, rfl, Or.inr (SqT.of ?hv), ?_⟩); (case hv => first | assumption | exact upd_same))
  | ((with_reducible refine' g_I ?hc ?_); (case hc => first | (show (0 : Int) < _; omega) | exact Or.inl ⟨by decide, by decide⟩ | exact Or.inr ⟨by decide, by decide⟩ | exact ⟨by decide, by decide +kernel⟩))
  | (with_reducible refine ⟨_, _, rfl, ?_⟩)))
/-- steps of the heap, from its end: tuples stay (k), all stays (s), the deck stands (d), it is drawn from (r), a thing stands beside it (o) -/
local macro_rules | `(tactic| walk_at "k") => `(tactic| first
  | with_reducible assumption
  | with_reducible exact tk_refl
  | ((with_reducible refine tk_step ?_ (by assumption)); walk_at "k")
  | ((with_reducible refine tk_mut ?_ (by assumption)); walk_at "k")
  | ((with_reducible refine tk_same ?_ (by assumption)); walk_at "k")
  | ((with_reducible refine tk_gr ?_ (by assumption) (by walk_at "d")); walk_at "k"))
local macro_rules | `(tactic| walk_at "s") => `(tactic| first
  | with_reducible assumption
  | with_reducible exact Same.refl _
  | ((with_reducible refine same_step ?_ (by assumption)); walk_at "s")
  | ((with_reducible refine Same.trans ?_ (by assumption)); walk_at "s"))
local macro_rules | `(tactic| walk_at "d") => `(tactic| first
  | with_reducible assumption
  | with_reducible exact Gr.at_ (by assumption)
  | ((with_reducible refine dk_step ?_ (by assumption)); walk_at "d")
  | ((with_reducible refine DeckAt.same ?_ (by assumption)); walk_at "d"))
local macro_rules | `(tactic| walk_at "r") => `(tactic| first
  | with_reducible assumption
  | ((with_reducible refine Gr.refl ?_); walk_at "d")
  | ((with_reducible refine Gr.new ?_ (by assumption)); walk_at "r")
  | ((with_reducible refine Gr.mut ?_ (by walk_at "d") (by assumption)); walk_at "r")
  | ((with_reducible refine Gr.same ?_ (by assumption)); walk_at "r")
  | ((with_reducible refine Gr.trans ?_ (by assumption)); walk_at "r"))
local macro_rules | `(tactic| walk_at "o") => `(tactic| first
  | with_reducible assumption
  | (refine Off.new ?_ (by assumption); walk_at "d")
  | ((with_reducible refine Off.step ?_ (by assumption)); walk_at "o")
  | ((with_reducible refine off_same ?_ (by assumption)); walk_at "o")
  | ((with_reducible refine Off.go ?_ (by assumption)); walk_at "o"))

section
variable {P : Program} {w : World} {K : PySem.W.Frag} {mg : Str → Option Value} {base : Heap}
abbrev s_refuse_many : Stmt := top 7
theorem sc_refuse_many : FnScope ["many", "limit"] ["many", "limit"] (defScope s_refuse_many) := ⟨rfl, rfl, rfl, by decide +kernel, rfl, by decide +kernel, by decide +kernel⟩
def spNoMany : Sp := fun vs H Q _ => ∃ (n m : Int), vs = [.int n, .int m] ∧ n ≤ m ∧ Q .non H
theorem ok_no_many (F : Top K mg "refuse_many" s_refuse_many ["many", "limit"]) (T : NoB mg) : Def P w K mg base "refuse_many" ["many", "limit"] 1 spNoMany := by
  obtain ⟨f, fd, F⟩ := F
  refine F.def sc_refuse_many (fun vs H Q E h => ?_) (fun cdv A outer s H vs Q E hg hr h => ?_)
  · obtain ⟨n, m, rfl, _⟩ := h
    rfl
  obtain ⟨n, m, rfl, hl, k⟩ := h
  have nd := sc_refuse_many.nd
  refine ⟨_, (pss_one (ps_if (pt_cmpR op_gt (pv 0) (pv 1) (nomark _)) (pss_one DW.ps_never) pss_nil)), ?_⟩
  walk_at "g"
  refine ite2 (fun h => ?_) (fun h => ?_)
  · have : m < n := by simpa using h
    omega
  · walk_at "g"
    exact k
/-- the bound that the module has -/
structure Bn56 (mg : Str → Option Value) : Prop where
  seen : ∃ t, mg "MAX_SEEN" = some (.int 8 t)
theorem bnl_of {mg : Str → Option Value} {x : Str} {v : Value} {n : Int} (h : mg x = some v) (f : ∃ t, v = .int n t) : ∃ t, mg x = some (.int n t) := by
  obtain ⟨t, rfl⟩ := f
  exact ⟨t, h⟩
abbrev s_refuse_many_items : Stmt := top 16
theorem sc_refuse_many_items : FnScope ["lot", "turns"] ["lot", "turns"] (defScope s_refuse_many_items) := ⟨rfl, rfl, rfl, by decide +kernel, rfl, by decide +kernel, by decide +kernel⟩
def spNoItems : Sp := fun vs H Q _ => ∃ (a b : Addr) (xs ys : List V), vs = [.ref a, .ref b] ∧ H a = some (.tup xs) ∧ H b = some (.tup ys) ∧ xs.length + ys.length ≤ 8 ∧ Q .non H
theorem ok_no_items (F : Top K mg "refuse_many_items" s_refuse_many_items ["lot", "turns"]) (T : NoB mg) (B : Bn56 mg) (Grefuse_many : Def P w K mg base "refuse_many" ["many", "limit"] 1 spNoMany) : Def P w K mg base "refuse_many_items" ["lot", "turns"] 2 spNoItems := by
  obtain ⟨t5, m5⟩ := B.seen
  obtain ⟨f, fd, F⟩ := F
  refine F.def sc_refuse_many_items (fun vs H Q E h => ?_) (fun cdv A outer s H vs Q E hg hr h => ?_)
  · obtain ⟨a, b, xs, ys, rfl, _⟩ := h
    rfl
  obtain ⟨a, b, xs, ys, rfl, ea, eb, hl, k⟩ := h
  have nd := sc_refuse_many_items.nd
  refine ⟨_, (pss_one (ps_expr (DW.pe_def Grefuse_many hg (hr.mono (by omega)) rfl (pa_cons (pe_op op_add (pe_callB call_len_seq (by rfl) T.len (by decide +kernel) (pa_cons (pv 0) pa_nil)) (pe_callB call_len_seq (by rfl) T.len (by decide +kernel) (pa_cons (pv 1) pa_nil))) (pa_cons (pe_glob (v := .int 8) rfl m5 ⟨_, rfl⟩) pa_nil))))), ?_⟩
  walk_at "g"
  refine ⟨_, 8, rfl, by omega, ?_⟩
  walk_at "g"
  exact k
/-- whether these are firsts of such turns -/
def firstsOf : List Int → List PyData → Bool
  | [], [] => true
  | t :: ts, d :: ds => intIn d 0 (t - 1) && firstsOf ts ds
  | _, _ => false
def firstsB (ts : List Int) : PyData → Bool
  | .tuple ds => firstsOf ts ds
  | _ => false
theorem firstsOf_len : ∀ {ts : List Int} {ds : List PyData}, firstsOf ts ds = true → ds.length = ts.length
  | [], [], _ => rfl
  | t :: ts, d :: ds, h => by
    rw [firstsOf, Bool.and_eq_true] at h
    rw [List.length_cons, List.length_cons, firstsOf_len h.2]
  | [], _ :: _, h => by simp [firstsOf] at h
  | _ :: _, [], h => by simp [firstsOf] at h
/-- the answers, one after another -/
def eachB (ts : List Int) (ds : List PyData) (n : Nat) : List Bool := (List.range n).map fun i => intIn (ds.getD i .none) 0 (ts.getD i 0 - 1)
theorem eachB_step {ts : List Int} {ds : List PyData} {n : Nat} : eachB ts ds (n + 1) = eachB ts ds n ++ [intIn (ds.getD n .none) 0 (ts.getD n 0 - 1)] := by
  unfold eachB
  rw [List.range_succ, List.map_append]
  rfl
theorem eachB_cons {t : Int} {ts : List Int} {d : PyData} {ds : List PyData} {n : Nat} : eachB (t :: ts) (d :: ds) (n + 1) = intIn d 0 (t - 1) :: eachB ts ds n := by
  unfold eachB
  rw [List.range_succ_eq_map, List.map_cons, List.map_map]
  rfl
theorem each_firsts : ∀ {ts : List Int} {ds : List PyData}, ds.length = ts.length → (eachB ts ds ts.length).all id = firstsOf ts ds
  | [], [], _ => rfl
  | t :: ts, d :: ds, h => by
    rw [List.length_cons, eachB_cons, List.all_cons, each_firsts (by simpa using h)]
    rfl
  | [], _ :: _, h => by simp at h
  | _ :: _, [], h => by simp at h
abbrev s_are_firsts : Stmt := top 17
theorem sc_are_firsts : FnScope ["turns", "value", "turn", "first"] ["turns", "value"] (defScope s_are_firsts) := ⟨rfl, rfl, rfl, by decide +kernel, rfl, by decide +kernel, by decide +kernel⟩
def spAreFirsts : Sp := fun vs H Q _ => ∃ (D : Dk) (a : Addr) (v : V) (ts : List Int) (d : PyData), vs = [.ref a, v] ∧ H a = some (.tup (ts.map V.int)) ∧ ts.length ≤ 10 ∧ Da D H v d ∧ ∀ H', Same H H' → Q (.bl (firstsB ts d)) H'
theorem ok_are_firsts (F : Top K mg "are_firsts" s_are_firsts ["turns", "value"]) (T : NoB mg) (Gis_whole_number : Def P w K mg base "is_whole_number" ["value"] 1 spIsIntD) : Def P w K mg base "are_firsts" ["turns", "value"] 2 spAreFirsts := by
  obtain ⟨f, fd, F⟩ := F
  refine F.def sc_are_firsts (fun vs H Q E h => ?_) (fun cdv A outer s H vs Q E hg hr h => ?_)
  · obtain ⟨D, a, v, ts, d, rfl, _⟩ := h
    rfl
  obtain ⟨D, a, v, ts, d, rfl, ea, htl, hd, k⟩ := h
  have nd := sc_are_firsts.nd
  refine ⟨_, (pss_cons (ps_if (PW.pt (pw_or (pt_not (pt_val (pe_callB call_isi (by rfl) T.isinstance (by decide +kernel) (pa_cons (pv 1) (pa_cons (pe_bltn (v := .ty "tuple") (by rfl) T.tuple (by decide +kernel) rfl) pa_nil))))) (pw_or1 (pt_cmpR op_ne (pe_callB call_len_seq (by rfl) T.len (by decide +kernel) (pa_cons (pv 1) pa_nil)) (pe_callB call_len_seq (by rfl) T.len (by decide +kernel) (pa_cons (pv 0) pa_nil)) (nomark _))))) (pss_one (ps_ret pe_bl)) pss_nil)
      (pss_one (ps_ret (pe_callB (cr_all rfl) (by rfl) T.all (by decide +kernel) (pa_cons (pe_lc (g := (gTup K 2 (gCons (gName 2) (gCons (gName 3) gNil)))) (own := [("turn", 2), ("first", 3)]) rfl nd (DW.pi_zipB (by rfl) T.zip (pa_cons (pv 0) (pa_cons (pv 1) pa_nil))) (blkOk_by (own := [("turn", 2), ("first", 3)]) (N := ["turns", "value", "turn", "first"]) (sc := defScope s_are_firsts) (by decide +kernel)) (fun _ _ _ _ _ => (pg_tup rfl (pgs_cons (pg_name (i := 2) nd rfl (Or.inl rfl)) (pgs_cons (pg_name (i := 3) nd rfl (Or.inl rfl)) pgs_nil)))) (fun _ _ _ _ _ => pts_nil) (fun _ _ _ _ _ => (pe_and (DW.pe_def Gis_whole_number hg (hr.mono (by omega)) rfl (pa_cons (pv 3) pa_nil)) (pe_one (pe_chain op_le op_lt pe_int (pv 3) (pv 2)))))) pa_nil))))), ?_⟩
  rcases tup_or hd with ⟨b, xs, ds, rfl, rfl, eb, r0⟩ | ⟨e1, e2, _⟩
  · have hl := r0.len
    walk_at "g"
    refine g_isTup' hd (b := true) rfl ?_
    walk_at "g"
    rw [List.length_map]
    by_cases hlen : ds.length = ts.length
    · rw [decide_eq_true (show (xs.length : Int) = (ts.length : Int) by omega)]
      walk_at "g"
      refine ⟨true, true, a, b, _, xs, rfl, SqT.of ea, SqT.of eb, ?_⟩
      refine c_zipS (k1 := true) (k2 := true) (by rw [List.length_map]; omega) (fun i H' acc => acc = (eachB ts ds i).map V.bl) (fun _ _ _ _ _ r => r) (SqT.of ea) (SqT.of eb) (by rw [List.length_map]; omega) rfl ?_ ?_
      · rintro Dz i x y Tz H' acc Kt Kf hx hy s eT eD r hl2 kt kf
        rw [List.getElem?_map] at hx
        obtain ⟨t, ht, rfl⟩ := Option.map_eq_some_iff.mp hx
        obtain ⟨d, hd', dy⟩ := r0.get hy
        have dy := Da.go (OffKeep.same s) _ _ dy
        have et : ts.getD i 0 = t := by rw [List.getD_eq_getElem?_getD, ht]; rfl
        have ed : ds.getD i .none = d := by rw [List.getD_eq_getElem?_getD, hd']; rfl
        have step := eachB_step (ts := ts) (ds := ds) (n := i)
        rw [et, ed] at step
        walk_at "g"
        refine ⟨rfl, ?_⟩
        walk_at "g"
        refine ⟨D, y, d, rfl, dy, ?_⟩
        have fin : ∀ bb, intIn d 0 (t - 1) = bb → Kt (.bl bb) H' := fun bb e => by
          refine kt _ _ (Same.refl _) ?_
          rw [r, step, List.map_append, e]
          rfl
        cases q : isInt? d with
        | none =>
          refine ⟨false, rfl, ?_⟩
          refine fin false ?_
          unfold intIn
          rw [q]
        | some n =>
          obtain ⟨rfl, rfl⟩ := isInt_int dy q
          have fin : ∀ bb, (decide (0 ≤ n) && decide (n ≤ t - 1)) = bb → Kt (.bl bb) H' := fun bb e => fin bb e
          refine ⟨true, rfl, ?_⟩
          walk_at "g"
          refine ite2 (fun h => ?_) (fun h => ?_)
          · walk_at "g"
            refine fin _ ?_
            rw [h, Bool.true_and]
            exact decide_eq_decide.mpr (by omega)
          · refine fin _ ?_
            rw [Bool.eq_false_iff.mpr h, Bool.false_and]
      rintro L H2 acc nL s2 e2 hl2 rfl
      rw [List.length_map] at e2
      walk_at "g"
      refine ⟨L, _, rfl, SqL.of e2, ?_⟩
      rw [each_firsts hlen]
      exact k H2 s2
    · have z : firstsB ts (.tuple ds) = false := by
        cases e : firstsB ts (.tuple ds) with
        | false => rfl
        | true => exact absurd (firstsOf_len e) hlen
      rw [z] at k
      rw [decide_eq_false (show ¬ (xs.length : Int) = (ts.length : Int) by omega)]
      walk_at "g"
      exact k H (Same.refl _)
  · have z : firstsB ts d = false := by
      cases hd <;> first | rfl | cases e1
    rw [z] at k
    walk_at "g"
    refine g_isTup' hd e1 ?_
    walk_at "g"
    exact k H (Same.refl _)
abbrev s_watches_of : Stmt := top 18
theorem sc_watches_of : FnScope ["turns", "firsts"] ["turns", "firsts"] (defScope s_watches_of) := ⟨rfl, rfl, rfl, by decide +kernel, rfl, by decide +kernel, by decide +kernel⟩
def spWatchesOf : Sp := fun vs H Q _ => ∃ (a b : Addr) (ts fs : List Int), vs = [.ref a, .ref b] ∧ H a = some (.tup (ts.map V.int)) ∧ H b = some (.tup (fs.map V.int)) ∧ fs.length = ts.length ∧ ∀ p H', Same H H' → LotAt H' p (ts.zip fs) → Q (.ref p) H'
theorem pairsZ_lot {H : Hp} : ∀ {us : List V} {ts fs : List Int}, fs.length = ts.length → PairsZ H us (ts.map V.int) (fs.map V.int) → PairsAt H us (ts.zip fs)
  | [], [], [], _, _ => .nil
  | u :: us, t :: ts, f :: fs, hl, ⟨h1, h2⟩ => by
    obtain ⟨T, e1, e2⟩ := h2 0 (.int t) (.int f) rfl rfl
    cases e1
    exact .cons ⟨T, rfl, e2⟩ (pairsZ_lot (by simpa using hl) ⟨by simpa using h1, fun i x y hx hy => h2 (i + 1) x y (by simpa using hx) (by simpa using hy)⟩)
  | [], _ :: _, _, _, ⟨h1, _⟩ => by simp at h1
  | _ :: _, [], _, _, ⟨h1, _⟩ => by simp at h1
  | _ :: _, _ :: _, [], hl, _ => by simp at hl
  | [], [], _ :: _, hl, _ => by simp at hl
theorem ok_watches_of (F : Top K mg "watches_of" s_watches_of ["turns", "firsts"]) (T : NoB mg) : Def P w K mg base "watches_of" ["turns", "firsts"] 1 spWatchesOf := by
  obtain ⟨f, fd, F⟩ := F
  refine F.def sc_watches_of (fun vs H Q E h => ?_) (fun cdv A outer s H vs Q E hg hr h => ?_)
  · obtain ⟨a, b, ts, fs, rfl, _⟩ := h
    rfl
  obtain ⟨a, b, ts, fs, rfl, ea, eb, hl, k⟩ := h
  have nd := sc_watches_of.nd
  refine ⟨_, (pss_one (ps_ret (DW.pe_tupZip rfl (by rfl) T.tuple (by rfl) T.zip (pa_cons (pv 0) (pa_cons (pv 1) pa_nil))))), ?_⟩
  refine g_tupZip ?_
  walk_at "g"
  refine ⟨true, true, a, b, _, _, rfl, SqT.of ea, SqT.of eb, by rw [List.length_map, List.length_map, hl], fun r H' us s e pz => ?_⟩
  exact k r H' s ⟨us, e, pairsZ_lot hl pz⟩
theorem firstsOf_ints : ∀ {ts : List Int} {ds : List PyData}, firstsOf ts ds = true → ∃ fs : List Int, ds = fs.map PyData.int ∧ fs.length = ts.length ∧ ∀ p ∈ ts.zip fs, 0 ≤ p.2 ∧ p.2 < p.1
  | [], [], _ => ⟨[], rfl, rfl, nofun⟩
  | t :: ts, d :: ds, h => by
    rw [firstsOf, Bool.and_eq_true] at h
    obtain ⟨fs, rfl, h1, h2⟩ := firstsOf_ints h.2
    unfold intIn at h
    cases q : isInt? d with
    | none => rw [q] at h; cases h.1
    | some n =>
      rw [q] at h
      have h3 : (decide (0 ≤ n) && decide (n ≤ t - 1)) = true := h.1
      rw [Bool.and_eq_true, decide_eq_true_eq, decide_eq_true_eq] at h3
      have ed : d = .int n := by
        cases d <;> first | (cases q; rfl) | (cases q; done)
      subst ed
      refine ⟨n :: fs, rfl, by rw [List.length_cons, List.length_cons, h1], fun p hp => ?_⟩
      rw [List.zip_cons_cons] at hp
      rcases List.mem_cons.mp hp with rfl | hp
      · exact ⟨h3.1, by show n < t; omega⟩
      · exact h2 p hp
  | [], _ :: _, h => by simp [firstsOf] at h
  | _ :: _, [], h => by simp [firstsOf] at h
theorem da_ints {D : Dk} {H : Hp} : ∀ {xs : List V} {fs : List Int}, DaAll D H xs (fs.map PyData.int) → xs = fs.map V.int
  | _, [], h => by cases h; rfl
  | _, f :: fs, h => by
    cases h with
    | cons r t =>
      cases r
      rw [da_ints t]
      rfl
/-- whether all days are held then -/
def closesB (lot : List (Int × Int)) (ts : List Int) (fs : List Int) : Bool := (firstLow (lot ++ ts.zip fs) 1 (2 ^ (lot ++ ts.zip fs).length)).isNone
/-- what firsts_close tells -/
def closeB (lot : List (Int × Int)) (ts : List Int) : PyData → Bool
  | .tuple ds => firstsOf ts ds && closesB lot ts (ds.map fun d => (isInt? d).getD 0)
  | _ => false
theorem closeB_no {lot : List (Int × Int)} {ts : List Int} {d : PyData} (h : firstsB ts d = false) : closeB lot ts d = false := by
  cases d <;> first | rfl | skip
  rename_i ds
  have h : firstsOf ts ds = false := h
  show (firstsOf ts ds && _) = false
  rw [h, Bool.false_and]
theorem closeB_ints {lot : List (Int × Int)} {ts fs : List Int} (h : firstsOf ts (fs.map PyData.int) = true) : closeB lot ts (.tuple (fs.map PyData.int)) = closesB lot ts fs := by
  show (firstsOf ts (fs.map PyData.int) && _) = _
  rw [h, Bool.true_and, List.map_map]
  congr 1
  have : (fs.map ((fun d => (isInt? d).getD 0) ∘ PyData.int)) = fs.map id := List.map_congr_left fun n _ => rfl
  rw [this, List.map_id]
abbrev s_firsts_close : Stmt := top 19
theorem sc_firsts_close : FnScope ["lot", "turns", "value"] ["lot", "turns", "value"] (defScope s_firsts_close) := ⟨rfl, rfl, rfl, by decide +kernel, rfl, by decide +kernel, by decide +kernel⟩
def spFirstsClose : Sp := fun vs H Q _ => ∃ (D : Dk) (a b : Addr) (v : V) (lot : List (Int × Int)) (ts : List Int) (d : PyData), vs = [.ref a, .ref b, v] ∧ Lot H a lot ∧ H b = some (.tup (ts.map V.int)) ∧ lot.length + ts.length ≤ 8 ∧ (∀ t ∈ ts, 1 ≤ t ∧ t ≤ 1000000000000) ∧ Da D H v d ∧ ∀ H', Same H H' → Q (.bl (closeB lot ts d)) H'
theorem zip_ok {lot : List (Int × Int)} {ts fs : List Int} (hw : ∀ q ∈ lot, WOk q) (ht : ∀ t ∈ ts, 1 ≤ t ∧ t ≤ 1000000000000) (hf : ∀ p ∈ ts.zip fs, 0 ≤ p.2 ∧ p.2 < p.1) : ∀ q ∈ lot ++ ts.zip fs, WOk q := fun q hq => by
  rcases List.mem_append.mp hq with hq | hq
  · exact hw q hq
  · have h1 := ht q.1 (List.of_mem_zip hq).1
    have h2 := hf q hq
    exact ⟨h1.1, h1.2, h2.1, h2.2⟩
theorem ok_firsts_close (F : Top K mg "firsts_close" s_firsts_close ["lot", "turns", "value"]) (T : NoB mg) (Grefuse_many_items : Def P w K mg base "refuse_many_items" ["lot", "turns"] 2 spNoItems) (Gare_firsts : Def P w K mg base "are_firsts" ["turns", "value"] 2 spAreFirsts) (Gwatches_of : Def P w K mg base "watches_of" ["turns", "firsts"] 1 spWatchesOf) (Gis_held : Def P w K mg base "is_held" ["lot", "least"] 4 spIsHeld) : Def P w K mg base "firsts_close" ["lot", "turns", "value"] 5 spFirstsClose := by
  obtain ⟨f, fd, F⟩ := F
  refine F.def sc_firsts_close (fun vs H Q E h => ?_) (fun cdv A outer s H vs Q E hg hr h => ?_)
  · obtain ⟨D, a, b, v, lot, ts, d, rfl, _⟩ := h
    rfl
  obtain ⟨D, a, b, v, lot, ts, d, rfl, L, eb, hl, ht, hd, k⟩ := h
  obtain ⟨vs, ea, pr, hvl⟩ := id L.vs
  have nd := sc_firsts_close.nd
  refine ⟨_, (pss_cons (ps_expr (DW.pe_def Grefuse_many_items hg (hr.mono (by omega)) rfl (pa_cons (pv 0) (pa_cons (pv 1) pa_nil))))
      (pss_one (ps_ret (pe_and (DW.pe_def Gare_firsts hg (hr.mono (by omega)) rfl (pa_cons (pv 1) (pa_cons (pv 2) pa_nil))) (pe_one (DW.pe_def Gis_held hg (hr.mono (by omega)) rfl (pa_cons (pe_op op_catA (pv 0) (DW.pe_def Gwatches_of hg (hr.mono (by omega)) rfl (pa_cons (pv 1) (pa_cons (pv 2) pa_nil)))) (pa_cons pe_int pa_nil)))))))), ?_⟩
  walk_at "g"
  refine ⟨a, b, vs, _, rfl, ea, eb, by rw [List.length_map]; omega, ?_⟩
  walk_at "g"
  refine ⟨D, b, v, ts, d, rfl, eb, by omega, hd, fun H1 s1 => ?_⟩
  cases e : firstsB ts d with
  | false =>
    rw [closeB_no e] at k
    walk_at "g"
    exact k H1 s1
  | true =>
    obtain ⟨c, xs, ds, rfl, rfl, ec, r0⟩ : ∃ c xs ds, v = .ref c ∧ d = .tuple ds ∧ H c = some (.tup xs) ∧ DaAll D H xs ds := by
      rcases tup_or hd with ⟨c, xs, ds, h1, h2, h3, h4⟩ | ⟨e1, _, _⟩
      · exact ⟨c, xs, ds, h1, h2, h3, h4⟩
      · cases d <;> first | (cases e; done) | (cases e1; done)
    obtain ⟨fs, rfl, hfl, hf⟩ := firstsOf_ints (show firstsOf ts ds = true from e)
    obtain rfl := da_ints r0
    have hwo := zip_ok L.ok ht hf
    rw [closeB_ints (show firstsOf ts (fs.map PyData.int) = true from e)] at k
    walk_at "g"
    refine ⟨b, c, ts, fs, rfl, s1 _ _ eb, s1 _ _ ec, hfl, fun p H2 s2 ⟨us, ep, pp⟩ => ?_⟩
    have s := s1.trans s2
    have hul := pp.len
    rw [List.length_zip, hfl] at hul
    refine g_catB (s _ _ ea) ep (by omega) fun q H3 s3 eq => ?_
    walk_at "g"
    have L3 : Lot H3 q (lot ++ ts.zip fs) := Lot.mk' eq (((pr.go (same_tk s)).app pp).go (same_tk s3)) (by rw [List.length_append, List.length_zip, hfl]; omega) hwo
    refine ⟨q, _, 1, rfl, L3, fun H4 s4 => ?_⟩
    exact k H4 ((s.trans s3).trans s4)
end
end DW
namespace DW
open PySem PySem.Spec PyProof.Rows L2
/-- the readings, until a question is met -/
local macro_rules | `(tactic| walk_at "g") => `(tactic| repeat (first
  | with_reducible refine g_seq ?_
  | with_reducible refine g_asg ?_
  | with_reducible refine g_name ?_
  | with_reducible refine g_op ?_
  | with_reducible refine g_cons ?_
  | with_reducible refine g_c ?_
  | ((with_reducible refine' g_var ?hv ?_); (case hv => exact rfl))
  | with_reducible refine g_nil ?_
  | with_reducible refine g_I0 ?_
  | with_reducible refine g_cb ?_
  | with_reducible refine g_call ?_
  | with_reducible refine g_callS ?_
  | with_reducible refine g_mkE ?_
  | with_reducible refine g_fld ?_
  | with_reducible refine g_ret ?_
  | with_reducible refine g_retN ?_
  | with_reducible refine g_drop ?_
  | with_reducible refine g_if ?_
  | with_reducible refine g_next ?_
  | with_reducible refine g_un ?_
  | with_reducible refine g_U ?_
  | with_reducible refine g_eqI ?_
  | with_reducible refine g_neI ?_
  | with_reducible refine g_eqS ?_
  | with_reducible refine g_neS ?_
  | with_reducible refine g_tup ?_
  | with_reducible refine g_lst ?_
  | with_reducible refine g_test ?_
  | with_reducible refine g_tif ?_
  | with_reducible refine g_forB ?_
  | with_reducible refine g_forEL ?_
  | with_reducible refine g_forRev ?_
  | with_reducible refine g_for3 ?_
  | with_reducible refine g_B ?_
  | with_reducible refine g_and ?_
  | with_reducible refine g_or ?_
  | with_reducible refine g_not ?_
  | with_reducible refine g_ifE ?_
  | with_reducible refine g_andV ?_
  | with_reducible refine g_orV ?_
  | with_reducible refine g_notV ?_
  | with_reducible refine g_chain ?_
  | with_reducible refine g_chainT ?_
  | with_reducible refine g_no ?_
  | with_reducible refine g_part ?_
  | with_reducible refine g_sl ?_
  | with_reducible refine g_bm ?_
  | with_reducible refine g_bm0 ?_
  | with_reducible refine g_par ?_
  | with_reducible refine g_sub ?_
  | with_reducible refine g_gCons ?_
  | with_reducible refine g_gNil ?_
  | ((with_reducible refine' g_ixL ?hv ?he ?_); (case hv => first | assumption | exact upd_same); (case he => first | exact rfl | exact atI_nat (j := 0) rfl | exact atI_nat (j := 1) rfl | exact atI_nat (j := 2) rfl))
  | ((with_reducible refine' g_ixT ?hv ?he ?_); (case hv => first | assumption | exact upd_same); (case he => first | exact rfl | exact atI_nat (j := 0) rfl | exact atI_nat (j := 1) rfl | exact atI_nat (j := 2) rfl))
  | ((with_reducible refine' g_gTup ?hv ?he ?_); (case hv => first | assumption | exact upd_same); (case he => exact rfl))
  | ((with_reducible refine' g_tyL ?hv ?_); (case hv => first | assumption | exact upd_same))
  | with_reducible refine g_for1 ?_
  | with_reducible refine g_for2 ?_
  | with_reducible refine g_forL ?_
  | with_reducible refine g_forT ?_
  | with_reducible refine g_lc1 ?_
  | with_reducible refine g_lc2 ?_
  | with_reducible refine g_lcL ?_
  | with_reducible refine g_lcT ?_
  | with_reducible refine g_lcE ?_
  | with_reducible refine g_lcZ ?_
  | with_reducible refine g_rev ?_
  | with_reducible refine g_listRg ?_
  | with_reducible refine g_tupRg ?_
  | with_reducible refine g_rg1 ?_
  | with_reducible refine g_ckw ?_
  | with_reducible refine g_rg2 ?_
  | with_reducible refine g_yes ?_
  | with_reducible refine iteT ?_
  | with_reducible refine iteF ?_
  | with_reducible refine g_ifNT ?_
  | with_reducible refine g_ifNF ?_
  | ((with_reducible refine' g_ifC ?hc ?_); (case hc => exact rfl))
  | ((with_reducible refine' g_ifD ?hc ?_); (case hc => exact rfl))
  | (with_reducible refine ⟨(show List.length _ ≤ sizeLine from Nat.le_of_ble_eq_true (by with_unfolding_all rfl)), ?_⟩)
  | (with_reducible refine ⟨_, rfl, ?_⟩)
  | (with_reducible refine Or.inl ⟨_, rfl, ?_⟩)
  | ((with_reducible refine' ⟨_, _, rfl, Or.inl (SqL.of ?hv), ?_⟩); (case hv => first | assumption | exact upd_same))
  | ((with_reducible refine' ⟨_, _, rfl, Or.inr (SqT.of ?hv), ?_⟩); (case hv => first | assumption | exact upd_same))
  | ((with_reducible refine' g_I ?hc ?_); (case hc => first | (show (0 : Int) < _; omega) | exact Or.inl ⟨by decide, by decide⟩ | exact Or.inr ⟨by decide, by decide⟩ | exact ⟨by decide, by decide +kernel⟩))
  | (with_reducible refine ⟨_, _, rfl, ?_⟩)))
/-- steps of the heap, from its end: tuples stay (k), all stays (s), the deck stands (d), it is drawn from (r), a thing stands beside it (o) -/
local macro_rules | `(tactic| walk_at "k") => `(tactic| first
  | with_reducible assumption
  | with_reducible exact tk_refl
  | ((with_reducible refine tk_step ?_ (by assumption)); walk_at "k")
  | ((with_reducible refine tk_mut ?_ (by assumption)); walk_at "k")
  | ((with_reducible refine tk_same ?_ (by assumption)); walk_at "k")
  | ((with_reducible refine tk_gr ?_ (by assumption) (by walk_at "d")); walk_at "k"))
local macro_rules | `(tactic| walk_at "s") => `(tactic| first
  | with_reducible assumption
  | with_reducible exact Same.refl _
  | ((with_reducible refine same_step ?_ (by assumption)); walk_at "s")
  | ((with_reducible refine Same.trans ?_ (by assumption)); walk_at "s"))
local macro_rules | `(tactic| walk_at "d") => `(tactic| first
  | with_reducible assumption
  | with_reducible exact Gr.at_ (by assumption)
  | ((with_reducible refine dk_step ?_ (by assumption)); walk_at "d")
  | ((with_reducible refine DeckAt.same ?_ (by assumption)); walk_at "d"))
local macro_rules | `(tactic| walk_at "r") => `(tactic| first
  | with_reducible assumption
  | ((with_reducible refine Gr.refl ?_); walk_at "d")
  | ((with_reducible refine Gr.new ?_ (by assumption)); walk_at "r")
  | ((with_reducible refine Gr.mut ?_ (by walk_at "d") (by assumption)); walk_at "r")
  | ((with_reducible refine Gr.same ?_ (by assumption)); walk_at "r")
  | ((with_reducible refine Gr.trans ?_ (by assumption)); walk_at "r"))
local macro_rules | `(tactic| walk_at "o") => `(tactic| first
  | with_reducible assumption
  | (refine Off.new ?_ (by assumption); walk_at "d")
  | ((with_reducible refine Off.step ?_ (by assumption)); walk_at "o")
  | ((with_reducible refine off_same ?_ (by assumption)); walk_at "o")
  | ((with_reducible refine Off.go ?_ (by assumption)); walk_at "o"))

section
variable {P : Program} {w : World} {K : PySem.W.Frag} {mg : Str → Option Value} {base : Heap}
abbrev s__law_are_firsts : Stmt := top 36
theorem sc__law_are_firsts : FnScope ["turns", "value", "turn", "first"] ["turns", "value"] (defScope s__law_are_firsts) := ⟨rfl, rfl, rfl, by decide +kernel, rfl, by decide +kernel, by decide +kernel⟩
theorem ok_l_firsts (F : Top K mg "_law_are_firsts" s__law_are_firsts ["turns", "value"]) (T : NoB mg) (G_law_whole : Def P w K mg base "_law_whole" ["value", "least", "most"] 1 spWholeD) : Def P w K mg base "_law_are_firsts" ["turns", "value"] 2 spAreFirsts := by
  obtain ⟨f, fd, F⟩ := F
  refine F.def sc__law_are_firsts (fun vs H Q E h => ?_) (fun cdv A outer s H vs Q E hg hr h => ?_)
  · obtain ⟨D, a, v, ts, d, rfl, _⟩ := h
    rfl
  obtain ⟨D, a, v, ts, d, rfl, ea, htl, hd, k⟩ := h
  have nd := sc__law_are_firsts.nd
  refine ⟨_, (pss_cons (ps_if (PW.pt (pw_or (pt_not (pt_val (pe_callB call_isi (by rfl) T.isinstance (by decide +kernel) (pa_cons (pv 1) (pa_cons (pe_bltn (v := .ty "tuple") (by rfl) T.tuple (by decide +kernel) rfl) pa_nil))))) (pw_or1 (pt_cmpR op_ne (pe_callB call_len_seq (by rfl) T.len (by decide +kernel) (pa_cons (pv 1) pa_nil)) (pe_callB call_len_seq (by rfl) T.len (by decide +kernel) (pa_cons (pv 0) pa_nil)) (nomark _))))) (pss_one (ps_ret pe_bl)) pss_nil)
      (pss_one (ps_ret (pe_cmpR (op_eqD hr.units) (pe_lc (g := (gTup K 2 (gCons (gName 2) (gCons (gName 3) gNil)))) (own := [("turn", 2), ("first", 3)]) rfl nd (DW.pi_zipB (by rfl) T.zip (pa_cons (pv 0) (pa_cons (pv 1) pa_nil))) (blkOk_by (own := [("turn", 2), ("first", 3)]) (N := ["turns", "value", "turn", "first"]) (sc := defScope s__law_are_firsts) (by decide +kernel)) (fun _ _ _ _ _ => (pg_tup rfl (pgs_cons (pg_name (i := 2) nd rfl (Or.inl rfl)) (pgs_cons (pg_name (i := 3) nd rfl (Or.inl rfl)) pgs_nil)))) (fun _ _ _ _ _ => pts_one (pt_not (pt_val (DW.pe_def G_law_whole hg (hr.mono (by omega)) rfl (pa_cons (pv 3) (pa_cons pe_int (pa_cons (pe_op op_sub (pv 2) pe_int) pa_nil))))))) (fun _ _ _ _ _ => pe_int)) (pe_lst pa_nil) (nomark _))))), ?_⟩
  rcases tup_or hd with ⟨b, xs, ds, rfl, rfl, eb, r0⟩ | ⟨e1, e2, _⟩
  · have hl := r0.len
    walk_at "g"
    refine g_isTup' hd (b := true) rfl ?_
    walk_at "g"
    rw [List.length_map]
    by_cases hlen : ds.length = ts.length
    · rw [decide_eq_true (show (xs.length : Int) = (ts.length : Int) by omega)]
      walk_at "g"
      refine ⟨true, true, a, b, _, xs, rfl, SqT.of ea, SqT.of eb, ?_⟩
      refine c_zipS (k1 := true) (k2 := true) (by rw [List.length_map]; omega) (fun i H' acc => acc = (((eachB ts ds i).filter fun b => !b).map fun _ => (1 : Int)).map V.int) (fun _ _ _ _ _ r => r) (SqT.of ea) (SqT.of eb) (by rw [List.length_map]; omega) rfl ?_ ?_
      · rintro Dz i x y Tz H' acc Kt Kf hx hy s eT eD r hl2 kt kf
        rw [List.getElem?_map] at hx
        obtain ⟨t, ht, rfl⟩ := Option.map_eq_some_iff.mp hx
        obtain ⟨d, hd', dy⟩ := r0.get hy
        have dy := Da.go (OffKeep.same s) _ _ dy
        have et : ts.getD i 0 = t := by rw [List.getD_eq_getElem?_getD, ht]; rfl
        have ed : ds.getD i .none = d := by rw [List.getD_eq_getElem?_getD, hd']; rfl
        have step := eachB_step (ts := ts) (ds := ds) (n := i)
        rw [et, ed] at step
        walk_at "g"
        refine ⟨rfl, ?_⟩
        walk_at "g"
        refine ⟨D, y, d, 0, t - 1, rfl, dy, ?_⟩
        walk_at "g"
        refine ite2 (fun h => ?_) (fun h => ?_)
        · walk_at "g"
          refine kt _ _ (Same.refl _) ?_
          have h : intIn d 0 (t - 1) = false := by simpa using h
          rw [r, step, h, List.filter_append, List.map_append, List.map_append]
          rfl
        · refine kf _ (Same.refl _) ?_
          have h : intIn d 0 (t - 1) = true := by simpa using h
          rw [r, step, h, List.filter_append, List.map_append, List.map_append]
          exact (List.append_nil _).symm
      rintro L H2 acc nL s2 e2 hl2 rfl
      rw [List.length_map] at e2
      walk_at "g"
      intro p hp
      walk_at "g"
      refine g_eqNil (same_new hp _ _ e2) upd_same ?_
      have ef : (((eachB ts ds ts.length).filter fun b => !b).map fun _ => (1 : Int)).isEmpty = firstsOf ts ds := by
        rw [← each_firsts hlen, List.isEmpty_map]
        generalize eachB ts ds ts.length = bs
        induction bs with
        | nil => rfl
        | cons b bs ih =>
          cases b with
          | true => rw [List.filter_cons_of_neg (by simp), ih]; rfl
          | false => rw [List.filter_cons_of_pos (by simp)]; rfl
      rw [ef]
      exact k _ (s2.trans (same_new hp))
    · have z : firstsB ts (.tuple ds) = false := by
        cases e : firstsB ts (.tuple ds) with
        | false => rfl
        | true => exact absurd (firstsOf_len e) hlen
      rw [z] at k
      rw [decide_eq_false (show ¬ (xs.length : Int) = (ts.length : Int) by omega)]
      walk_at "g"
      exact k H (Same.refl _)
  · have z : firstsB ts d = false := by
      cases hd <;> first | rfl | cases e1
    rw [z] at k
    walk_at "g"
    refine g_isTup' hd e1 ?_
    walk_at "g"
    exact k H (Same.refl _)
abbrev s__law_with : Stmt := top 34
theorem sc__law_with : FnScope ["lot", "turns", "firsts", "turn", "first"] ["lot", "turns", "firsts"] (defScope s__law_with) := ⟨rfl, rfl, rfl, by decide +kernel, rfl, by decide +kernel, by decide +kernel⟩
def spWithL : Sp := fun vs H Q _ => ∃ (a b c : Addr) (lot : List (Int × Int)) (ts fs : List Int), vs = [.ref a, .ref b, .ref c] ∧ Lot H a lot ∧ H b = some (.tup (ts.map V.int)) ∧ H c = some (.tup (fs.map V.int)) ∧ fs.length = ts.length ∧ lot.length + ts.length ≤ 10 ∧ (∀ q ∈ lot ++ ts.zip fs, WOk q) ∧
  ∀ p H', Same H H' → Lot H' p (lot ++ ts.zip fs) → Q (.ref p) H'
theorem ok_with_l (F : Top K mg "_law_with" s__law_with ["lot", "turns", "firsts"]) (T : NoB mg) : Def P w K mg base "_law_with" ["lot", "turns", "firsts"] 1 spWithL := by
  obtain ⟨f, fd, F⟩ := F
  refine F.def sc__law_with (fun vs H Q E h => ?_) (fun cdv A outer s H vs Q E hg hr h => ?_)
  · obtain ⟨a, b, c, lot, ts, fs, rfl, _⟩ := h
    rfl
  obtain ⟨a, b, c, lot, ts, fs, rfl, L, eb, ec, hfl, hl, hw, k⟩ := h
  obtain ⟨vs, ea, pr, hvl⟩ := id L.vs
  have nd := sc__law_with.nd
  refine ⟨_, (pss_one (ps_ret (pe_op op_catA (pv 0) (pe_callTy call_tuple_of (by rfl) T.tuple (by decide +kernel) (pa_cons (pe_lc (g := (gTup K 2 (gCons (gName 3) (gCons (gName 4) gNil)))) (own := [("turn", 3), ("first", 4)]) rfl nd (DW.pi_zipB (by rfl) T.zip (pa_cons (pv 1) (pa_cons (pv 2) pa_nil))) (blkOk_by (own := [("turn", 3), ("first", 4)]) (N := ["lot", "turns", "firsts", "turn", "first"]) (sc := defScope s__law_with) (by decide +kernel)) (fun _ _ _ _ _ => (pg_tup rfl (pgs_cons (pg_name (i := 3) nd rfl (Or.inl rfl)) (pgs_cons (pg_name (i := 4) nd rfl (Or.inl rfl)) pgs_nil)))) (fun _ _ _ _ _ => pts_nil) (fun _ _ _ _ _ => (pe_tup (pa_cons (pv 3) (pa_cons (pv 4) pa_nil))))) pa_nil))))), ?_⟩
  walk_at "g"
  refine ⟨true, true, b, c, _, _, rfl, SqT.of eb, SqT.of ec, ?_⟩
  refine c_zipS (k1 := true) (k2 := true) (by rw [List.length_map, List.length_map, hfl]) (fun i H' acc => PairsAt H' acc ((ts.zip fs).take i)) (fun _ _ _ _ s r => r.go (same_tk s)) (SqT.of eb) (SqT.of ec) (by rw [List.length_map]; omega) .nil ?_ ?_
  · rintro Dz i x y Tz H' acc Kt Kf hx hy s eT eD r hl2 kt kf
    rw [List.getElem?_map] at hx hy
    obtain ⟨t, ht, rfl⟩ := Option.map_eq_some_iff.mp hx
    obtain ⟨f', hf, rfl⟩ := Option.map_eq_some_iff.mp hy
    walk_at "g"
    refine ⟨rfl, ?_⟩
    walk_at "g"
    intro q nq
    refine kt _ _ (same_new nq) ?_
    have hz : (ts.zip fs)[i]? = some (t, f') := by rw [List.getElem?_zip_eq_some]; exact ⟨ht, hf⟩
    rw [take_step hz]
    have sq : Same (hid Dz H') (hid Dz (L2.upd H' q (.tup [.int t, .int f']))) := hid_mono (same_new nq)
    refine (r.go (same_tk sq)).app (PairsAt.one (p := (t, f')) ⟨q, rfl, ?_⟩)
    rw [hid_ne fun z => by rw [z, eD] at nq; cases nq]
    exact upd_same
  rintro L2' H2 acc nL s2 e2 hl2 r
  rw [List.length_map, show (ts.zip fs).take ts.length = ts.zip fs from List.take_of_length_le (by rw [List.length_zip]; omega)] at r
  have hal := r.len
  rw [List.length_zip, hfl] at hal
  walk_at "g"
  refine ⟨L2', acc, rfl, .inl ⟨SqL.of e2, fun p np => ?_⟩⟩
  have s3 := s2.trans (same_new (o := .tup acc) np)
  refine g_catB (s3 _ _ ea) upd_same (by omega) fun q H4 s4 eq => ?_
  exact k q H4 (s3.trans s4) (Lot.mk' eq (((pr.go (same_tk s3)).app (r.new np)).go (same_tk s4)) (by rw [List.length_append, List.length_zip, hfl]; omega) hw)
abbrev s__law_is_closed : Stmt := top 35
theorem sc__law_is_closed : FnScope ["lot", "many", "watch", "day"] ["lot"] (defScope s__law_is_closed) := ⟨rfl, rfl, rfl, by decide +kernel, rfl, by decide +kernel, by decide +kernel⟩
def spIsClosed : Sp := fun vs H Q _ => ∃ (a : Addr) (lot : List (Int × Int)), vs = [.ref a] ∧ Lot H a lot ∧ ∀ H', Same H H' → Q (.bl (firstLow lot 1 (2 ^ lot.length)).isNone) H'
theorem ok_is_closed (F : Top K mg "_law_is_closed" s__law_is_closed ["lot"]) (T : NoB mg) (G_law_tally : Def P w K mg base "_law_tally" ["lot", "day"] 2 spTally) : Def P w K mg base "_law_is_closed" ["lot"] 3 spIsClosed := by
  obtain ⟨f, fd, F⟩ := F
  refine F.def sc__law_is_closed (fun vs H Q E h => ?_) (fun cdv A outer s H vs Q E hg hr h => ?_)
  · obtain ⟨a, lot, rfl, _⟩ := h
    rfl
  obtain ⟨a, lot, rfl, L, k⟩ := h
  have hw0 : ∀ q ∈ lot, 0 < q.1 := fun q hq => by have := (L.ok q hq).1; omega
  have hlen := L.len
  obtain ⟨vs, ea, pr, hvl⟩ := id L.vs
  have nd := sc__law_is_closed.nd
  refine ⟨_, (pss_cons (ps_set (i := 1) nd rfl (Or.inl rfl) pe_int)
      (pss_cons (ps_for PassesOwn.never rfl (pi_tup (pv 0)) (pg_name (i := 2) nd rfl (Or.inl rfl)) (pss_one (ps_set (i := 1) nd rfl (Or.inl rfl) (pe_op op_mul (pv 1) pe_int))))
      (pss_cons (ps_for PassesOwn.never rfl (pi_range1 rfl T.range (pa_cons (pv 1) pa_nil)) (pg_name (i := 3) nd rfl (Or.inl rfl)) (pss_one (ps_if (pt_cmpR op_eq (DW.pe_def G_law_tally hg (hr.mono (by omega)) rfl (pa_cons (pv 0) (pa_cons (pv 3) pa_nil))) pe_int (nomark _)) (pss_one (ps_ret pe_bl)) pss_nil)))
      (pss_one (ps_ret pe_bl))))), ?_⟩
  walk_at "g"
  refine ⟨⟨_, SqT.of ea⟩, ?_⟩
  refine f_tup (xs := vs) (fun i σ H' => H' = H ∧ ∃ v2 v3 : Option V, σ = [some (.ref a), some (.int ((2 ^ i : Nat) : Int)), v2, v3]) ⟨rfl, none, none, rfl⟩ (fun i σ H' p => by rw [p.1]; exact ea) ?_ ?_
  · rintro i x σ H' hx ⟨rfl, v2, v3, rfl⟩
    have hi : i < vs.length := (List.getElem?_eq_some_iff.mp hx).1
    have hp : 2 ^ i ≤ 1024 := Nat.le_trans (Nat.pow_le_pow_right (by decide) (show i ≤ 10 by omega)) (by decide : 2 ^ 10 ≤ 1024)
    walk_at "g"
    refine ⟨rfl, some x, v3, ?_⟩
    rw [show ((2 ^ i : Nat) : Int) * 2 = ((2 ^ (i + 1) : Nat) : Int) by rw [Nat.pow_succ, Int.natCast_mul]; rfl]
    rfl
  rintro σ H' ⟨rfl, v2, v3, rfl⟩
  rw [hvl]
  have hp : 2 ^ lot.length ≤ 1024 := Nat.le_trans (Nat.pow_le_pow_right (by decide) hlen) (by decide : 2 ^ 10 ≤ 1024)
  obtain ⟨N, hN⟩ : ∃ N, 2 ^ lot.length = N := ⟨_, rfl⟩
  rw [hN] at hp ⊢
  walk_at "g"
  refine ⟨by omega, by omega, ?_⟩
  rw [Int.toNat_natCast]
  refine f_range (n := N) (fun i σ H2 => ∃ v3 : Option V, σ = [some (.ref a), some (.int (N : Int)), v2, v3] ∧ Same H' H2 ∧ ∀ j : Nat, j < i → 1 ≤ tallyZ lot (j : Int)) ⟨_, rfl, Same.refl _, fun j hj => absurd hj (by omega)⟩ ?_ ?_
  · rintro i σ H2 hi ⟨v3, rfl, s, hj⟩
    rw [Int.zero_add]
    walk_at "g"
    refine ⟨a, lot, (i : Int), rfl, L.go (same_tk s), fun H3 s3 => ?_⟩
    walk_at "g"
    refine ite2 (fun h => ?_) (fun h => ?_)
    · have h : tallyZ lot (i : Int) = 0 := by simpa using h
      walk_at "g"
      have : (firstLow lot 1 (2 ^ lot.length)).isNone = false := by
        cases e : firstLow lot 1 (2 ^ lot.length) with
        | some y => rfl
        | none =>
          have := low_all hw0 e (i : Int)
          omega
      rw [this] at k
      exact k H3 (s.trans s3)
    · have h : ¬ tallyZ lot (i : Int) = 0 := by simpa using h
      have n0 := tally_nonneg (lot := lot) (x := (i : Int))
      walk_at "g"
      refine ⟨s.trans s3, fun j hj' => ?_⟩
      by_cases z : j < i
      · exact hj j z
      · obtain rfl : j = i := by omega
        omega
  · rintro σ H2 ⟨v3, rfl, s, hj⟩
    walk_at "g"
    have : (firstLow lot 1 (2 ^ lot.length)).isNone = true := by
      cases e : firstLow lot 1 (2 ^ lot.length) with
      | none => rfl
      | some y =>
        obtain ⟨y0, y1, y2, _⟩ := low_some e
        have := hj y.toNat (by omega)
        rw [show ((y.toNat : Nat) : Int) = y by omega] at this
        omega
    rw [this] at k
    exact k H2 s
abbrev s__law_parted_lot : Stmt := top 37
theorem sc__law_parted_lot : FnScope ["deck", "most", "lot", "many"] ["deck", "most"] (defScope s__law_parted_lot) := ⟨rfl, rfl, rfl, by decide +kernel, rfl, by decide +kernel, by decide +kernel⟩
def spParted : Sp := fun vs H Q _ => ∃ (D : Dk) (n : Int), vs = [.ref D.dk, .int n] ∧ DeckAt D H ∧ 1 ≤ n ∧ n ≤ 8 ∧
  ∀ p a b lot out H', H' p = some (.tup [.ref a, .ref b]) → Lot H' a lot → Lot H' b out → lot.length + out.length ≤ 8 → Gr D H H' → Q (.ref p) H'
theorem ok_parted (F : Top K mg "_law_parted_lot" s__law_parted_lot ["deck", "most"]) (T : NoB mg) (G_law_draw : Def P w K mg base "_law_draw" ["deck", "many"] 1 spDraw) (G_law_mixed : Def P w K mg base "_law_mixed" ["deck", "items"] 2 spMixed) (G_law_held_lot : Def P w K mg base "_law_held_lot" ["deck", "most"] 4 (spLot fun _ => True)) : Def P w K mg base "_law_parted_lot" ["deck", "most"] 5 spParted := by
  obtain ⟨f, fd, F⟩ := F
  refine F.def sc__law_parted_lot (fun vs H Q E h => ?_) (fun cdv A outer s H vs Q E hg hr h => ?_)
  · obtain ⟨D, n, rfl, _⟩ := h
    rfl
  obtain ⟨D, n, rfl, dk, hn1, hn8, k⟩ := h
  have nd := sc__law_parted_lot.nd
  refine ⟨_, (pss_cons (ps_set (i := 2) nd rfl (Or.inl rfl) (DW.pe_def G_law_mixed hg (hr.mono (by omega)) rfl (pa_cons (pv 0) (pa_cons (pe_callTy call_list_of (by rfl) T.list (by decide +kernel) (pa_cons (DW.pe_def G_law_held_lot hg (hr.mono (by omega)) rfl (pa_cons (pv 0) (pa_cons (pv 1) pa_nil))) pa_nil)) pa_nil))))
      (pss_cons (ps_set (i := 3) nd rfl (Or.inl rfl) (DW.pe_def G_law_draw hg (hr.mono (by omega)) rfl (pa_cons (pv 0) (pa_cons (pe_op op_add (pe_callB (call_min2 rfl) (by rfl) T.min (by decide +kernel) (pa_cons (pe_callB call_len_seq (by rfl) T.len (by decide +kernel) (pa_cons (pv 2) pa_nil)) (pa_cons pe_int pa_nil))) pe_int) pa_nil))))
      (pss_one (ps_ret (pe_tup (pa_cons (pe_callTy call_tuple_of (by rfl) T.tuple (by decide +kernel) (pa_cons (pe_slice sl_list (pv 2) (po_some (pv 3)) po_none) pa_nil)) (pa_cons (pe_callTy call_tuple_of (by rfl) T.tuple (by decide +kernel) (pa_cons (pe_slice sl_list (pv 2) po_none (po_some (pv 3))) pa_nil)) pa_nil))))))), ?_⟩
  walk_at "g"
  refine ⟨D, n, rfl, dk, hn1, by omega, fun c lot H1 lb hlen hok _ g1 => ?_⟩
  obtain ⟨vs, ea, pr⟩ := lb
  have hvl := pr.len
  walk_at "g"
  intro q nq
  have off := Off.new (o := .lst vs) g1.at_ nq
  have pr := pr.new (o := .lst vs) nq
  have g := g1.new (o := .lst vs) nq
  walk_at "g"
  refine ⟨D, q, vs, rfl, g.at_, .inl off, by omega, fun l ys H2 hperm nl offl g2 => ?_⟩
  obtain ⟨ps, pq, hpm⟩ := (pr.go (g2.tk g.at_)).perm hperm
  have hps : ps.length ≤ 8 := by rw [← hpm.length_eq]; omega
  have hyl := pq.len
  have hw : ∀ x ∈ ps, WOk x := fun x hx => hok x (hpm.mem_iff.mpr hx)
  have g := g.trans g2
  have el := offl.1
  walk_at "g"
  clear el
  have hB : 1 ≤ (if 5 < (ys.length : Int) then 5 else (ys.length : Int)) + 1 ∧ (if 5 < (ys.length : Int) then 5 else (ys.length : Int)) + 1 ≤ (ys.length : Int) + 1 := by
    by_cases z : 5 < (ys.length : Int)
    · rw [if_pos z]; omega
    · rw [if_neg z]; omega
  generalize (if 5 < (ys.length : Int) then 5 else (ys.length : Int)) + 1 = B at hB ⊢
  refine ⟨D, B, rfl, g.at_, hB.1, lt200 (by omega) (by omega), fun m H3 m0 m1 g3 => ?_⟩
  obtain ⟨mn, rfl⟩ : ∃ mn : Nat, m = (mn : Int) := ⟨m.toNat, by omega⟩
  have pq := pq.go (g3.tk g.at_)
  have offl := offl.go g3
  have g := g.trans g3
  walk_at "g"
  refine ⟨l, _, rfl, SqL.of offl.1, fun q1 n1 => ?_⟩
  rw [cut_drop]
  have off2 := offl.step (u := .lst (ys.drop mn)) n1
  have pq := pq.new (o := .lst (ys.drop mn)) n1
  have g := g.new (o := .lst (ys.drop mn)) n1
  walk_at "g"
  refine ⟨q1, _, rfl, .inl ⟨SqL.of upd_same, fun a na => ?_⟩⟩
  have off2 := off2.step (u := .tup (ys.drop mn)) na
  have pq := pq.new (o := .tup (ys.drop mn)) na
  have g := g.new (o := .tup (ys.drop mn)) na
  have LA : Lot (L2.upd (L2.upd H3 q1 (.lst (ys.drop mn))) a (.tup (ys.drop mn))) a (ps.drop mn) := Lot.mk' upd_same (pq.drop mn) (by rw [List.length_drop]; omega) fun x hx => hw x (List.mem_of_mem_drop hx)
  generalize L2.upd (L2.upd H3 q1 (.lst (ys.drop mn))) a (.tup (ys.drop mn)) = H4 at off2 pq g LA ⊢
  walk_at "g"
  refine ⟨l, _, rfl, SqL.of off2.1, fun q2 n2 => ?_⟩
  rw [cut_take]
  have pq := pq.new (o := .lst (ys.take mn)) n2
  have g := g.new (o := .lst (ys.take mn)) n2
  have LA := LA.go (TupKeep.upd (o := .lst (ys.take mn)) n2)
  walk_at "g"
  refine ⟨q2, _, rfl, .inl ⟨SqL.of upd_same, fun b nb => ?_⟩⟩
  have pq := pq.new (o := .tup (ys.take mn)) nb
  have g := g.new (o := .tup (ys.take mn)) nb
  have LA := LA.go (TupKeep.upd (o := .tup (ys.take mn)) nb)
  have LB : Lot (L2.upd (L2.upd H4 q2 (.lst (ys.take mn))) b (.tup (ys.take mn))) b (ps.take mn) := Lot.mk' upd_same (pq.take mn) (by rw [List.length_take]; omega) fun x hx => hw x (List.mem_of_mem_take hx)
  generalize L2.upd (L2.upd H4 q2 (.lst (ys.take mn))) b (.tup (ys.take mn)) = H5 at g LA LB ⊢
  walk_at "g"
  intro p np
  have tk := TupKeep.upd (o := .tup [.ref a, .ref b]) np
  exact k p a b _ _ _ upd_same (LA.go tk) (LB.go tk) (by rw [List.length_drop, List.length_take]; omega) (g.new np)
end
end DW
namespace DW
open PySem PySem.Spec PyProof.Rows L2
/-- the readings, until a question is met -/
local macro_rules | `(tactic| walk_at "g") => `(tactic| repeat (first
  | with_reducible refine g_seq ?_
  | with_reducible refine g_asg ?_
  | with_reducible refine g_name ?_
  | with_reducible refine g_op ?_
  | with_reducible refine g_cons ?_
  | with_reducible refine g_c ?_
  | ((with_reducible refine' g_var ?hv ?_); (case hv => exact rfl))
  | with_reducible refine g_nil ?_
  | with_reducible refine g_I0 ?_
  | with_reducible refine g_cb ?_
  | with_reducible refine g_call ?_
  | with_reducible refine g_callS ?_
  | with_reducible refine g_mkE ?_
  | with_reducible refine g_fld ?_
  | with_reducible refine g_ret ?_
  | with_reducible refine g_retN ?_
  | with_reducible refine g_drop ?_
  | with_reducible refine g_if ?_
  | with_reducible refine g_next ?_
  | with_reducible refine g_un ?_
  | with_reducible refine g_U ?_
  | with_reducible refine g_eqI ?_
  | with_reducible refine g_neI ?_
  | with_reducible refine g_eqS ?_
  | with_reducible refine g_neS ?_
  | with_reducible refine g_tup ?_
  | with_reducible refine g_lst ?_
  | with_reducible refine g_test ?_
  | with_reducible refine g_tif ?_
  | with_reducible refine g_forB ?_
  | with_reducible refine g_forEL ?_
  | with_reducible refine g_forRev ?_
  | with_reducible refine g_for3 ?_
  | with_reducible refine g_B ?_
  | with_reducible refine g_and ?_
  | with_reducible refine g_or ?_
  | with_reducible refine g_not ?_
  | with_reducible refine g_ifE ?_
  | with_reducible refine g_andV ?_
  | with_reducible refine g_orV ?_
  | with_reducible refine g_notV ?_
  | with_reducible refine g_chain ?_
  | with_reducible refine g_chainT ?_
  | with_reducible refine g_no ?_
  | with_reducible refine g_part ?_
  | with_reducible refine g_sl ?_
  | with_reducible refine g_bm ?_
  | with_reducible refine g_bm0 ?_
  | with_reducible refine g_par ?_
  | with_reducible refine g_sub ?_
  | with_reducible refine g_gCons ?_
  | with_reducible refine g_gNil ?_
  | ((with_reducible refine' g_ixL ?hv ?he ?_); (case hv => first | assumption | exact upd_same); (case he => first | exact rfl | exact atI_nat (j := 0) rfl | exact atI_nat (j := 1) rfl | exact atI_nat (j := 2) rfl))
  | ((with_reducible refine' g_ixT ?hv ?he ?_); (case hv => first | assumption | exact upd_same); (case he => first | exact rfl | exact atI_nat (j := 0) rfl | exact atI_nat (j := 1) rfl | exact atI_nat (j := 2) rfl))
  | ((with_reducible refine' g_gTup ?hv ?he ?_); (case hv => first | assumption | exact upd_same); (case he => exact rfl))
  | ((with_reducible refine' g_tyL ?hv ?_); (case hv => first | assumption | exact upd_same))
  | with_reducible refine g_for1 ?_
  | with_reducible refine g_for2 ?_
  | with_reducible refine g_forL ?_
  | with_reducible refine g_forT ?_
  | with_reducible refine g_lc1 ?_
  | with_reducible refine g_lc2 ?_
  | with_reducible refine g_lcL ?_
  | with_reducible refine g_lcT ?_
  | with_reducible refine g_lcE ?_
  | with_reducible refine g_lcZ ?_
  | with_reducible refine g_rev ?_
  | with_reducible refine g_listRg ?_
  | with_reducible refine g_tupRg ?_
  | with_reducible refine g_rg1 ?_
  | with_reducible refine g_ckw ?_
  | with_reducible refine g_rg2 ?_
  | with_reducible refine g_yes ?_
  | with_reducible refine iteT ?_
  | with_reducible refine iteF ?_
  | with_reducible refine g_ifNT ?_
  | with_reducible refine g_ifNF ?_
  | ((with_reducible refine' g_ifC ?hc ?_); (case hc => exact rfl))
  | ((with_reducible refine' g_ifD ?hc ?_); (case hc => exact rfl))
  | (with_reducible refine ⟨(show List.length _ ≤ sizeLine from Nat.le_of_ble_eq_true (by with_unfolding_all rfl)), ?_⟩)
  | (with_reducible refine ⟨_, rfl, ?_⟩)
  | (with_reducible refine Or.inl ⟨_, rfl, ?_⟩)
  | ((with_reducible refine' ⟨_, _, rfl, Or.inl (SqL.of ?hv), ?_⟩); (case hv => first | assumption | exact upd_same))
  | ((with_reducible refine' ⟨_, _, rfl, Or.inr (SqT.of ?hv), ?_⟩); (case hv => first | assumption | exact upd_same))
  | ((with_reducible refine' g_I ?hc ?_); (case hc => first | (show (0 : Int) < _; omega) | exact Or.inl ⟨by decide, by decide⟩ | exact Or.inr ⟨by decide, by decide⟩ | exact ⟨by decide, by decide +kernel⟩))
  | (with_reducible refine ⟨_, _, rfl, ?_⟩)))
/-- steps of the heap, from its end: tuples stay (k), all stays (s), the deck stands (d), it is drawn from (r), a thing stands beside it (o) -/
local macro_rules | `(tactic| walk_at "k") => `(tactic| first
  | with_reducible assumption
  | with_reducible exact tk_refl
  | ((with_reducible refine tk_step ?_ (by assumption)); walk_at "k")
  | ((with_reducible refine tk_mut ?_ (by assumption)); walk_at "k")
  | ((with_reducible refine tk_same ?_ (by assumption)); walk_at "k")
  | ((with_reducible refine tk_gr ?_ (by assumption) (by walk_at "d")); walk_at "k"))
local macro_rules | `(tactic| walk_at "s") => `(tactic| first
  | with_reducible assumption
  | with_reducible exact Same.refl _
  | ((with_reducible refine same_step ?_ (by assumption)); walk_at "s")
  | ((with_reducible refine Same.trans ?_ (by assumption)); walk_at "s"))
local macro_rules | `(tactic| walk_at "d") => `(tactic| first
  | with_reducible assumption
  | with_reducible exact Gr.at_ (by assumption)
  | ((with_reducible refine dk_step ?_ (by assumption)); walk_at "d")
  | ((with_reducible refine DeckAt.same ?_ (by assumption)); walk_at "d"))
local macro_rules | `(tactic| walk_at "r") => `(tactic| first
  | with_reducible assumption
  | ((with_reducible refine Gr.refl ?_); walk_at "d")
  | ((with_reducible refine Gr.new ?_ (by assumption)); walk_at "r")
  | ((with_reducible refine Gr.mut ?_ (by walk_at "d") (by assumption)); walk_at "r")
  | ((with_reducible refine Gr.same ?_ (by assumption)); walk_at "r")
  | ((with_reducible refine Gr.trans ?_ (by assumption)); walk_at "r"))
local macro_rules | `(tactic| walk_at "o") => `(tactic| first
  | with_reducible assumption
  | (refine Off.new ?_ (by assumption); walk_at "d")
  | ((with_reducible refine Off.step ?_ (by assumption)); walk_at "o")
  | ((with_reducible refine off_same ?_ (by assumption)); walk_at "o")
  | ((with_reducible refine Off.go ?_ (by assumption)); walk_at "o"))

section
variable {P : Program} {w : World} {K : PySem.W.Frag} {mg : Str → Option Value} {base : Heap}
def rTupOf (K : PySem.W.Frag) : List V → Hp → VK → Prop := fun xs H Q => ∃ p ys, xs = [.ref p] ∧ ((SqL K H p ys ∧ ∀ l, H l = none → Q (.ref l) (upd H l (.tup ys))) ∨ (SqT K H p ys ∧ Q (.ref p) H))
theorem call_tupleK {X : Cx} : CallR X (.type "tuple") (rTupOf X.K) := call_tuple_of
section
variable {X : Cx} {pins : List (Addr × Obj)} {σ : L2.St} {H : Hp} {s : Shared}
/-- repr of a list of three, whose first two hold no list and no dict -/
def rRepr3 (D : Dk) : List V → Hp → VK → Prop := fun vs H Q => ∃ (a : Addr) (x y v : V) (d1 d2 d : PyData), vs = [.ref a] ∧ H a = some (.lst [x, y, v]) ∧ a ≠ sysModules ∧ Da D H x d1 ∧ Da D H y d2 ∧ Da D H v d ∧ (hasL d1 = false ∧ d1.hasDict = false) ∧ (hasL d2 = false ∧ d2.hasDict = false) ∧
  (d.hasDict = true → hasL d = false) ∧ PyData.showable (.list [d1, d2, d]) = true ∧ PyData.depth (.list [d1, d2, d]) ≤ 60 ∧ (PyData.shown (.list [d1, d2, d])).length ≤ sizeLine ∧ Q (.str (PyData.shown (.list [d1, d2, d]))) H
theorem call_repr3 (hg : X.A.guards = some []) (hu : X.A.units + 64 < cLine) : CallR X (.builtin "repr") (fun vs H Q => ∃ D, rRepr3 D vs H Q) := by
  rintro pins s σ H vs us Q I r ⟨D, a, x, y, v, d1, d2, d, rfl, ha, na, hx, hy, hd, ⟨l1, k1⟩, ⟨l2, k2⟩, hm, hs, hdp, hz, q⟩
  obtain ⟨u, rfl, rv⟩ := vals1 r
  cases (show u = Value.ref a from rv)
  obtain ⟨_, its, ka, va, ea⟩ := (show ObjOk X.prog X.w H s.heap a (.lst [x, y, v]) from I.hok _ _ ha)
  cases va with
  | cons r1 va =>
    cases va with
    | cons r2 va =>
      cases va with
      | cons r3 va =>
        cases va
        obtain ⟨as1, q1, m1⟩ := Da.reads I d1 x _ hx r1
        obtain ⟨as2, q2, m2⟩ := Da.reads I d2 y _ hy r2
        obtain ⟨as3, q3, m3⟩ := Da.reads I d v _ hd r3
        have hdd : PyData.hasDict (.list [d1, d2, d]) = true → d.hasDict = true := fun z => by
          simpa only [PyData.hasDict, PyData.hasDictAll, k1, k2, Bool.false_or, Bool.or_false] using z
        refine repr_of_reads' (Reads.list ea rfl rfl (ReadsAll.cons q1 (ReadsAll.cons q2 (ReadsAll.cons q3 ReadsAll.nil)))) hs (fun z => ?_) hg (by omega) (fun _ _ e => e) (fun h' t tk hk => ⟨.str _, H, I.kept (t' := tk) hk, ⟨t, rfl⟩, q⟩) hz
        have n1 := m1 l1
        have n2 := m2 l2
        have n3 := m3 (hm (hdd z))
        simp only [List.mem_cons, List.mem_append, List.not_mem_nil, or_false, not_or]
        exact ⟨fun z => na z.symm, n1, n2, n3⟩
end
theorem plain_lot : ∀ lot : List (Int × Int), hasLAll (lot.map fun p => PyData.tuple [.int p.1, .int p.2]) = false ∧ PyData.hasDictAll (lot.map fun p => PyData.tuple [.int p.1, .int p.2]) = false
  | [] => ⟨by simp [hasLAll], by simp [PyData.hasDictAll]⟩
  | p :: lot => by
    obtain ⟨a, b⟩ := plain_lot lot
    exact ⟨by simp [hasLAll, hasL, a], by simp [PyData.hasDictAll, PyData.hasDict, b]⟩
theorem plain_ints : ∀ ns : List Int, hasLAll (ns.map PyData.int) = false ∧ PyData.hasDictAll (ns.map PyData.int) = false
  | [] => ⟨by simp [hasLAll], by simp [PyData.hasDictAll]⟩
  | n :: ns => by
    obtain ⟨a, b⟩ := plain_ints ns
    exact ⟨by simp [hasLAll, hasL, a], by simp [PyData.hasDictAll, PyData.hasDict, b]⟩
theorem daInts {D : Dk} {H : Hp} : ∀ ns : List Int, DaAll D H (ns.map V.int) (ns.map PyData.int)
  | [] => .nil
  | n :: ns => .cons (.int n) (daInts ns)
def threeD (lot : List (Int × Int)) (ts : List Int) (d : PyData) : PyData := .list [lotD lot, .tuple (ts.map PyData.int), d]
theorem g_repr3 {D : Dk} {H : Hp} {a c p : Addr} {v : V} {lot : List (Int × Int)} {ts : List Int} {d : PyData} {Q : VK} (e : H a = some (.lst [.ref c, .ref p, v])) (far : a ≠ sysModules) (L : Lot H c lot) (ep : H p = some (.tup (ts.map V.int))) (tl : ts.length ≤ 10) (tb : ∀ t ∈ ts, t.natAbs < 10 ^ 39) (dv : Da D H v d) (gd : Good 10000 d)
    (q : Q (.str (threeD lot ts d).shown) H) : rRepr3 D [.ref a] H Q := by
  obtain ⟨vs, ea, pr, hvl⟩ := L.vs
  have s1 : Sm 40 8 20000 (lotD lot) := (sm_pairs (m := 40) (j := 13) (n := 3000) (fun p hp => by
    obtain ⟨h1, h2, h3, h4⟩ := L.ok p hp
    have e : (10 : Nat) ^ 13 = 10000000000000 := by decide
    rw [e]
    omega) (by decide) (by decide) (by decide) (by have := L.len; omega)).up (by decide) (by decide)
  have s2 : Sm 40 1 10 (.tuple (ts.map PyData.int)) := sm_tup (k := 0) (n := 0) (fun d hd => by
    obtain ⟨i, hi, rfl⟩ := List.mem_map.mp hd
    exact sm_int (j := 39) (tb i hi) (by decide) (by decide) (by decide)) (by decide) (by rw [List.length_map]; omega)
  obtain ⟨x, y, f, fe⟩ := gd
  have hm : d.hasDict = true → hasL d = false := fun z => by
    cases w : hasL d with
    | false => rfl
    | true =>
      rw [f.c z, f.h w] at fe
      cases fe
  have z1 : hasL (lotD lot) = false ∧ (lotD lot).hasDict = false := by
    show hasL (.tuple _) = false ∧ PyData.hasDict (.tuple _) = false
    simp only [hasL, PyData.hasDict]
    exact plain_lot lot
  have z2 : hasL (.tuple (ts.map PyData.int)) = false ∧ PyData.hasDict (.tuple (ts.map PyData.int)) = false := by
    simp only [hasL, PyData.hasDict]
    exact plain_ints ts
  refine ⟨a, _, _, _, lotD lot, .tuple (ts.map PyData.int), d, rfl, e, far, .tup ea (PairsAt.da pr), .tup ep (daInts ts), dv, z1, z2, hm, ?_, ?_, ?_, q⟩
  · have a := s1.s
    have b := s2.s
    have c := f.s
    simp only [PyData.showable, PyData.showableAll] at *
    simp [a, b, c]
  · have a := s1.p
    have b := s2.p
    have c := f.p
    simp only [PyData.depth, PyData.depthAll] at *
    omega
  · have h1 := PyData.shown_le_bulk 40 (by decide) (.list [lotD lot, .tuple (ts.map PyData.int), d]) ?_
    · have a := s1.b
      have b := s2.b
      have c := f.b
      have hb : (PyData.list [lotD lot, .tuple (ts.map PyData.int), d]).bulk ≤ 40000 := by
        simp only [PyData.bulk, PyData.bulkAll] at *
        omega
      have h3 : (40 + 2) * (PyData.list [lotD lot, .tuple (ts.map PyData.int), d]).bulk ≤ 42 * 40000 := Nat.mul_le_mul (by omega) hb
      rw [sizeLine_eq]
      omega
    · have a := s1.l
      have b := s2.l
      have c := f.l
      simp only [PyData.leavesShort, PyData.leavesShortAll] at *
      simp [a, b, c]
end
end DW
namespace DW
open PySem PySem.Spec PyProof.Rows L2
/-- the readings, until a question is met -/
local macro_rules | `(tactic| walk_at "g") => `(tactic| repeat (first
  | with_reducible refine g_seq ?_
  | with_reducible refine g_asg ?_
  | with_reducible refine g_name ?_
  | with_reducible refine g_op ?_
  | with_reducible refine g_cons ?_
  | with_reducible refine g_c ?_
  | ((with_reducible refine' g_var ?hv ?_); (case hv => exact rfl))
  | with_reducible refine g_nil ?_
  | with_reducible refine g_I0 ?_
  | with_reducible refine g_cb ?_
  | with_reducible refine g_call ?_
  | with_reducible refine g_callS ?_
  | with_reducible refine g_mkE ?_
  | with_reducible refine g_fld ?_
  | with_reducible refine g_ret ?_
  | with_reducible refine g_retN ?_
  | with_reducible refine g_drop ?_
  | with_reducible refine g_if ?_
  | with_reducible refine g_next ?_
  | with_reducible refine g_un ?_
  | with_reducible refine g_U ?_
  | with_reducible refine g_eqI ?_
  | with_reducible refine g_neI ?_
  | with_reducible refine g_eqS ?_
  | with_reducible refine g_neS ?_
  | with_reducible refine g_tup ?_
  | with_reducible refine g_lst ?_
  | with_reducible refine g_test ?_
  | with_reducible refine g_tif ?_
  | with_reducible refine g_forB ?_
  | with_reducible refine g_forEL ?_
  | with_reducible refine g_forRev ?_
  | with_reducible refine g_for3 ?_
  | with_reducible refine g_B ?_
  | with_reducible refine g_and ?_
  | with_reducible refine g_or ?_
  | with_reducible refine g_not ?_
  | with_reducible refine g_ifE ?_
  | with_reducible refine g_andV ?_
  | with_reducible refine g_orV ?_
  | with_reducible refine g_notV ?_
  | with_reducible refine g_chain ?_
  | with_reducible refine g_chainT ?_
  | with_reducible refine g_no ?_
  | with_reducible refine g_part ?_
  | with_reducible refine g_sl ?_
  | with_reducible refine g_bm ?_
  | with_reducible refine g_bm0 ?_
  | with_reducible refine g_par ?_
  | with_reducible refine g_sub ?_
  | with_reducible refine g_gCons ?_
  | with_reducible refine g_gNil ?_
  | ((with_reducible refine' g_ixL ?hv ?he ?_); (case hv => first | assumption | exact upd_same); (case he => first | exact rfl | exact atI_nat (j := 0) rfl | exact atI_nat (j := 1) rfl | exact atI_nat (j := 2) rfl))
  | ((with_reducible refine' g_ixT ?hv ?he ?_); (case hv => first | assumption | exact upd_same); (case he => first | exact rfl | exact atI_nat (j := 0) rfl | exact atI_nat (j := 1) rfl | exact atI_nat (j := 2) rfl))
  | ((with_reducible refine' g_gTup ?hv ?he ?_); (case hv => first | assumption | exact upd_same); (case he => exact rfl))
  | ((with_reducible refine' g_tyL ?hv ?_); (case hv => first | assumption | exact upd_same))
  | with_reducible refine g_for1 ?_
  | with_reducible refine g_for2 ?_
  | with_reducible refine g_forL ?_
  | with_reducible refine g_forT ?_
  | with_reducible refine g_lc1 ?_
  | with_reducible refine g_lc2 ?_
  | with_reducible refine g_lcL ?_
  | with_reducible refine g_lcT ?_
  | with_reducible refine g_lcE ?_
  | with_reducible refine g_lcZ ?_
  | with_reducible refine g_rev ?_
  | with_reducible refine g_listRg ?_
  | with_reducible refine g_tupRg ?_
  | with_reducible refine g_rg1 ?_
  | with_reducible refine g_ckw ?_
  | with_reducible refine g_rg2 ?_
  | with_reducible refine g_yes ?_
  | with_reducible refine iteT ?_
  | with_reducible refine iteF ?_
  | with_reducible refine g_ifNT ?_
  | with_reducible refine g_ifNF ?_
  | ((with_reducible refine' g_ifC ?hc ?_); (case hc => exact rfl))
  | ((with_reducible refine' g_ifD ?hc ?_); (case hc => exact rfl))
  | (with_reducible refine ⟨(show List.length _ ≤ sizeLine from Nat.le_of_ble_eq_true (by with_unfolding_all rfl)), ?_⟩)
  | (with_reducible refine ⟨_, rfl, ?_⟩)
  | (with_reducible refine Or.inl ⟨_, rfl, ?_⟩)
  | ((with_reducible refine' ⟨_, _, rfl, Or.inl (SqL.of ?hv), ?_⟩); (case hv => first | assumption | exact upd_same))
  | ((with_reducible refine' ⟨_, _, rfl, Or.inr (SqT.of ?hv), ?_⟩); (case hv => first | assumption | exact upd_same))
  | ((with_reducible refine' g_I ?hc ?_); (case hc => first | (show (0 : Int) < _; omega) | exact Or.inl ⟨by decide, by decide⟩ | exact Or.inr ⟨by decide, by decide⟩ | exact ⟨by decide, by decide +kernel⟩))
  | (with_reducible refine ⟨_, _, rfl, ?_⟩)))
/-- steps of the heap, from its end: tuples stay (k), all stays (s), the deck stands (d), it is drawn from (r), a thing stands beside it (o) -/
local macro_rules | `(tactic| walk_at "k") => `(tactic| first
  | with_reducible assumption
  | with_reducible exact tk_refl
  | ((with_reducible refine tk_step ?_ (by assumption)); walk_at "k")
  | ((with_reducible refine tk_mut ?_ (by assumption)); walk_at "k")
  | ((with_reducible refine tk_same ?_ (by assumption)); walk_at "k")
  | ((with_reducible refine tk_gr ?_ (by assumption) (by walk_at "d")); walk_at "k"))
local macro_rules | `(tactic| walk_at "s") => `(tactic| first
  | with_reducible assumption
  | with_reducible exact Same.refl _
  | ((with_reducible refine same_step ?_ (by assumption)); walk_at "s")
  | ((with_reducible refine Same.trans ?_ (by assumption)); walk_at "s"))
local macro_rules | `(tactic| walk_at "d") => `(tactic| first
  | with_reducible assumption
  | with_reducible exact Gr.at_ (by assumption)
  | ((with_reducible refine dk_step ?_ (by assumption)); walk_at "d")
  | ((with_reducible refine DeckAt.same ?_ (by assumption)); walk_at "d"))
local macro_rules | `(tactic| walk_at "r") => `(tactic| first
  | with_reducible assumption
  | ((with_reducible refine Gr.refl ?_); walk_at "d")
  | ((with_reducible refine Gr.new ?_ (by assumption)); walk_at "r")
  | ((with_reducible refine Gr.mut ?_ (by walk_at "d") (by assumption)); walk_at "r")
  | ((with_reducible refine Gr.same ?_ (by assumption)); walk_at "r")
  | ((with_reducible refine Gr.trans ?_ (by assumption)); walk_at "r"))
local macro_rules | `(tactic| walk_at "o") => `(tactic| first
  | with_reducible assumption
  | (refine Off.new ?_ (by assumption); walk_at "d")
  | ((with_reducible refine Off.step ?_ (by assumption)); walk_at "o")
  | ((with_reducible refine off_same ?_ (by assumption)); walk_at "o")
  | ((with_reducible refine Off.go ?_ (by assumption)); walk_at "o"))

section
variable {P : Program} {w : World} {K : PySem.W.Frag} {mg : Str → Option Value} {base : Heap}
abbrev s_law : Stmt := top 38
theorem sc_law : FnScope ["script", "deck", "turn", "lot", "out", "turns", "firsts", "some", "value", "held", "is_so", "due", "told", "k", "watch", "first", "one"] ["script"] (defScope s_law) := ⟨rfl, rfl, rfl, by decide +kernel, rfl, by decide +kernel, by decide +kernel⟩
def spLaw (K : PySem.W.Frag) : Sp := fun vs H Q _ => ∃ (a : Addr) (ns : List Int), vs = [.ref a] ∧ SqL K H a (ns.map V.int) ∧ ns.length ≤ 63 ∧ ∀ H', Q (.bl true) H'
theorem ints_da {D : Dk} {H : Hp} : ∀ ns : List Int, DaAll D H (ns.map V.int) (ns.map PyData.int)
  | [] => .nil
  | n :: ns => .cons (.int n) (ints_da ns)
def bv (n : Int) : V := if n < 2 then .bl (n != 0) else .int n
def bvd (n : Int) : PyData := if n < 2 then .bool (n != 0) else .int n
theorem bv_da {D : Dk} {H : Hp} : ∀ ns : List Int, DaAll D H (ns.map bv) (ns.map bvd)
  | [] => .nil
  | n :: ns => .cons (by unfold bv bvd; split; exact .bl _; exact .int _) (bv_da ns)
theorem bv_fit {ns : List Int} (h : ∀ n ∈ ns, n.natAbs < 10 ^ 39) : ∀ d ∈ ns.map bvd, Fit false false 1 10 d := fun d hd => by
  obtain ⟨n, hn, rfl⟩ := List.mem_map.mp hd
  unfold bvd
  split
  · exact (fit_bool).up (by decide) (by decide)
  · exact (fit_int (h n hn)).up (by decide) (by decide)
theorem ints_fit {ns : List Int} (h : ∀ n ∈ ns, n.natAbs < 10 ^ 39) : ∀ d ∈ ns.map PyData.int, Fit false false 1 10 d := fun d hd => by
  obtain ⟨n, hn, rfl⟩ := List.mem_map.mp hd
  exact (fit_int (h n hn)).up (by decide) (by decide)
theorem ints_ok {D : Dk} {H : Hp} {p : Addr} {ns : List Int} (hp : H p = some (.tup (ns.map V.int))) (h : ∀ n ∈ ns, n.natAbs < 10 ^ 39) (hl : ns.length ≤ 40) : OkV 12 10000 D H (.ref p) :=
  okPart hp (ints_da ns) (ints_fit h) (by rw [List.length_map]; exact hl)
theorem also_new {D : Dk} {H : Hp} {l : Addr} {o : HO} (hl : H l = none) : OffKeep2 D (D.also l) H (L2.upd H l o) := ⟨fun b u x => by
  have ne : b ≠ l := fun e => by
    have := x.1
    rw [e, hl] at this
    cases this
  exact ⟨by rw [upd_ne ne]; exact x.1, x.2.1, x.2.2.1, fun z => z.elim x.2.2.2 ne⟩, TupKeep.upd hl⟩
/-- what stands still in a turn -/
structure St56 (D : Dk) (H : Hp) (c pT pF : Addr) (lot : List (Int × Int)) (ts fs : List Int) : Prop where
  L : Lot H c lot
  eT : H pT = some (.tup (ts.map V.int))
  eF : H pF = some (.tup (fs.map V.int))
theorem St56.go {D : Dk} {H H' : Hp} {c pT pF : Addr} {lot : List (Int × Int)} {ts fs : List Int} (b : St56 D H c pT pF lot ts fs) (k : TupKeep H H') : St56 D H' c pT pF lot ts fs := ⟨b.L.go k, k _ _ b.eT, k _ _ b.eF⟩
theorem ok_law {f : Addr} {fd : FuncData} (F : FnAt K mg "law" s_law ["script"] f fd) (T : NoB mg) (G_law_deck : Def P w K mg base "_law_deck" ["script"] 1 (spDeck K)) (G_law_draw : Def P w K mg base "_law_draw" ["deck", "many"] 1 spDraw) (G_law_watch : Def P w K mg base "_law_watch" ["deck", "turns"] 3 spWatch) (G_law_great_lot : Def P w K mg base "_law_great_lot" ["deck", "most"] 3 (spLot fun _ => True)) (G_law_odd : Def P w K mg base "_law_odd" ["deck"] 3 spOdd) (G_law_bent : Def P w K mg base "_law_bent" ["deck", "value", "deep"] 5 (spBentN 1)) (G_law_parted_lot : Def P w K mg base "_law_parted_lot" ["deck", "most"] 5 spParted) (G_law_are_firsts : Def P w K mg base "_law_are_firsts" ["turns", "value"] 2 spAreFirsts) (G_law_with : Def P w K mg base "_law_with" ["lot", "turns", "firsts"] 1 spWithL) (G_law_is_closed : Def P w K mg base "_law_is_closed" ["lot"] 3 spIsClosed) (Gfirsts_close : Def P w K mg base "firsts_close" ["lot", "turns", "value"] 5 spFirstsClose) :
    FnG P w K mg base CX0 7 f fd ["script"] (spLaw K) := by
  refine F.keeps sc_law (fun vs H Q E h => ?_) (fun cdv A outer s H vs Q E hg hr h => ?_)
  · obtain ⟨a, ns, rfl, _⟩ := h
    rfl
  obtain ⟨sc, ns, rfl, hs, hl, k⟩ := h
  suffices hx : ∃ t, PSs (cxOf CX0 P w K mg base ["script", "deck", "turn", "lot", "out", "turns", "firsts", "some", "value", "held", "is_so", "due", "told", "k", "watch", "first", "one"] "law" (defScope s_law) f cdv A outer s H E).nox (defBody s_law) t ∧ t { nx := fun _ H' => Q .non H', rt := Q } (L2.start ["script", "deck", "turn", "lot", "out", "turns", "firsts", "some", "value", "held", "is_so", "due", "told", "k", "watch", "first", "one"] [.ref sc]) H by
    obtain ⟨t, r, q⟩ := hx
    exact ⟨t, r.nox, q⟩
  have nd := sc_law.nd
  refine ⟨_, (pss_cons (ps_set (i := 1) nd rfl (Or.inr rfl) (DW.pe_def G_law_deck hg (hr.mono (by omega)) rfl (pa_cons (pv 0) pa_nil)))
      (pss_cons (ps_for PassesOwn.never rfl (pi_range1 rfl T.range (pa_cons pe_int pa_nil)) (pg_name (i := 2) nd rfl (Or.inl rfl)) (pss_cons (ps_asg (DW.pe_def G_law_parted_lot hg (hr.mono (by omega)) rfl (pa_cons (pv 1) (pa_cons pe_int pa_nil))) (pg_tup rfl (pgs_cons (pg_name (i := 3) nd rfl (Or.inl rfl)) (pgs_cons (pg_name (i := 4) nd rfl (Or.inl rfl)) pgs_nil))))
      (Evl.pss_cut (ps_if (pt_cmpR op_eq (DW.pe_def G_law_draw hg (hr.mono (by omega)) rfl (pa_cons (pv 1) (pa_cons pe_int pa_nil))) pe_int (nomark _)) (pss_one (ps_par (i := 3) (j := 4) rfl nd rfl rfl (by decide) rfl rfl (pa_cons (DW.pe_def G_law_great_lot hg (hr.mono (by omega)) rfl (pa_cons (pv 1) (pa_cons pe_int pa_nil))) (pa_cons (pe_callTy call_tuple_of (by rfl) T.tuple (by decide +kernel) (pa_cons (pe_lc (own := [("k", 13)]) rfl nd (pi_range1 rfl T.range (pa_cons pe_int pa_nil)) (blkOk_by (own := [("k", 13)]) (N := ["script", "deck", "turn", "lot", "out", "turns", "firsts", "some", "value", "held", "is_so", "due", "told", "k", "watch", "first", "one"]) (sc := defScope s_law) (by decide +kernel)) (fun _ _ _ _ _ => (pg_name (i := 13) nd rfl (Or.inl rfl))) (fun _ _ _ _ _ => pts_nil) (fun _ _ _ _ _ => (DW.pe_def G_law_watch hg (hr.mono (by omega)) rfl (pa_cons (pv 1) (pa_cons (pe_lst (pa_cons pe_int (pa_cons pe_int (pa_cons pe_int (pa_cons pe_int pa_nil))))) pa_nil))))) pa_nil)) pa_nil)) (by rfl))) pss_nil)
      (pss_cons (ps_asg (pe_tup (pa_cons (pe_callTy call_tuple_of (by rfl) T.tuple (by decide +kernel) (pa_cons (pe_lc (own := [("watch", 14)]) rfl nd (pi_tup (pv 4)) (blkOk_by (own := [("watch", 14)]) (N := ["script", "deck", "turn", "lot", "out", "turns", "firsts", "some", "value", "held", "is_so", "due", "told", "k", "watch", "first", "one"]) (sc := defScope s_law) (by decide +kernel)) (fun _ _ _ _ _ => (pg_name (i := 14) nd rfl (Or.inl rfl))) (fun _ _ _ _ _ => pts_nil) (fun _ _ _ _ _ => (pe_ix (show IxR _ (rIxT K) from ix_tup) (pv 14) pe_int (fun _ _ => rfl)))) pa_nil)) (pa_cons (pe_callTy call_tuple_of (by rfl) T.tuple (by decide +kernel) (pa_cons (pe_lc (own := [("watch", 14)]) rfl nd (pi_tup (pv 4)) (blkOk_by (own := [("watch", 14)]) (N := ["script", "deck", "turn", "lot", "out", "turns", "firsts", "some", "value", "held", "is_so", "due", "told", "k", "watch", "first", "one"]) (sc := defScope s_law) (by decide +kernel)) (fun _ _ _ _ _ => (pg_name (i := 14) nd rfl (Or.inl rfl))) (fun _ _ _ _ _ => pts_nil) (fun _ _ _ _ _ => (pe_ix (show IxR _ (rIxT K) from ix_tup) (pv 14) pe_int (fun _ _ => rfl)))) pa_nil)) pa_nil))) (pg_tup rfl (pgs_cons (pg_name (i := 5) nd rfl (Or.inr rfl)) (pgs_cons (pg_name (i := 6) nd rfl (Or.inr rfl)) pgs_nil))))
      (pss_cons (ps_set (i := 7) nd rfl (Or.inl rfl) (pe_lst (pa_cons (pv 6) (pa_cons (DW.pe_back (pv 6)) (pa_cons (pe_callTy call_list_of (by rfl) T.list (by decide +kernel) (pa_cons (pv 6) pa_nil)) (pa_cons (pe_op op_catA (pv 6) (pe_tup (pa_cons pe_int pa_nil))) (pa_cons (pe_slice sl_tupA (pv 6) po_none (po_some (pe_un un_neg pe_int))) (pa_cons (pe_op DW.op_repG (pe_tup (pa_cons pe_int pa_nil)) (pe_callB call_len_seq (by rfl) T.len (by decide +kernel) (pa_cons (pv 5) pa_nil))) (pa_cons (pv 5) (pa_cons pe_non (pa_cons (pe_tup pa_nil) (pa_cons pe_str pa_nil))))))))))))
      (pss_cons (ps_expr (pe_bm PySem.F.plainAttrs_list PySem.F.slot_list_append PySem.F.type_list_append mt_append (pv 7) (pa_cons (pe_callTy call_tuple_of (by rfl) T.tuple (by decide +kernel) (pa_cons (pe_lc (g := (gTup K 2 (gCons (gName 15) (gCons (gName 16) gNil)))) (own := [("first", 15), ("one", 16)]) rfl nd (DW.pi_zipB (by rfl) T.zip (pa_cons (pv 6) (pa_cons (pv 5) pa_nil))) (blkOk_by (own := [("first", 15), ("one", 16)]) (N := ["script", "deck", "turn", "lot", "out", "turns", "firsts", "some", "value", "held", "is_so", "due", "told", "k", "watch", "first", "one"]) (sc := defScope s_law) (by decide +kernel)) (fun _ _ _ _ _ => (pg_tup rfl (pgs_cons (pg_name (i := 15) nd rfl (Or.inl rfl)) (pgs_cons (pg_name (i := 16) nd rfl (Or.inl rfl)) pgs_nil)))) (fun _ _ _ _ _ => pts_nil) (fun _ _ _ _ _ => (pe_op op_sub (pv 15) (pv 16)))) pa_nil)) pa_nil)))
      (pss_cons (ps_expr (pe_bm PySem.F.plainAttrs_list PySem.F.slot_list_append PySem.F.type_list_append mt_append (pv 7) (pa_cons (pe_callTy call_tuple_of (by rfl) T.tuple (by decide +kernel) (pa_cons (pe_lc (own := [("first", 15)]) rfl nd (pi_tup (pv 6)) (blkOk_by (own := [("first", 15)]) (N := ["script", "deck", "turn", "lot", "out", "turns", "firsts", "some", "value", "held", "is_so", "due", "told", "k", "watch", "first", "one"]) (sc := defScope s_law) (by decide +kernel)) (fun _ _ _ _ _ => (pg_name (i := 15) nd rfl (Or.inl rfl))) (fun _ _ _ _ _ => pts_nil) (fun _ _ _ _ _ => (pe_ifExp (pt_cmpR op_lt (pv 15) pe_int (nomark _)) (pe_callTy call_bool1 (by rfl) T.bool (by decide +kernel) (pa_cons (pv 15) pa_nil)) (pv 15)))) pa_nil)) pa_nil)))
      (pss_cons (ps_set (i := 7) nd rfl (Or.inl rfl) (pe_op op_cat (pv 7) (pe_lc (own := [("k", 13)]) rfl nd (pi_range1 rfl T.range (pa_cons pe_int pa_nil)) (blkOk_by (own := [("k", 13)]) (N := ["script", "deck", "turn", "lot", "out", "turns", "firsts", "some", "value", "held", "is_so", "due", "told", "k", "watch", "first", "one"]) (sc := defScope s_law) (by decide +kernel)) (fun _ _ _ _ _ => (pg_name (i := 13) nd rfl (Or.inl rfl))) (fun _ _ _ _ _ => pts_nil) (fun _ _ _ _ _ => (pe_callTy (show CallR _ (.type "tuple") (DW.rTupOf K) from DW.call_tupleK) (by rfl) T.tuple (by decide +kernel) (pa_cons (pe_lc (own := [("one", 16)]) rfl nd (show PI _ _ _ (iTup K _) from pi_tup (pv 5)) (blkOk_by (own := [("one", 16)]) (N := ["script", "deck", "turn", "lot", "out", "turns", "firsts", "some", "value", "held", "is_so", "due", "told", "k", "watch", "first", "one"]) (by with_unfolding_all rfl)) (fun _ _ _ _ _ => (pg_name (i := 16) nd rfl (Or.inl rfl))) (fun _ _ _ _ _ => pts_nil) (fun _ _ _ _ _ => (DW.pe_def G_law_draw hg (hr.mono (by omega)) rfl (pa_cons (pv 1) (pa_cons (pv 16) pa_nil))))) pa_nil))))))
      (pss_one (ps_for PassesOwn.never rfl (pi_list (pe_op op_cat (pe_op op_cat (pv 7) (pe_lc (own := [("k", 13)]) rfl nd (pi_range1 rfl T.range (pa_cons pe_int pa_nil)) (blkOk_by (own := [("k", 13)]) (N := ["script", "deck", "turn", "lot", "out", "turns", "firsts", "some", "value", "held", "is_so", "due", "told", "k", "watch", "first", "one"]) (sc := defScope s_law) (by decide +kernel)) (fun _ _ _ _ _ => (pg_name (i := 13) nd rfl (Or.inl rfl))) (fun _ _ _ _ _ => pts_nil) (fun _ _ _ _ _ => (DW.pe_def G_law_bent hg (hr.mono (by omega)) rfl (pa_cons (pv 1) (pa_cons (pv 6) (pa_cons pe_int pa_nil))))))) (pe_lst (pa_cons (DW.pe_def G_law_odd hg (hr.mono (by omega)) rfl (pa_cons (pv 1) pa_nil)) pa_nil)))) (pg_name (i := 8) nd rfl (Or.inl rfl)) (pss_cons (ps_par (i := 9) (j := 10) rfl nd rfl rfl (by decide) rfl rfl (pa_cons (pe_callB (DW.call_repr3 hg hr.units) (by rfl) T.repr (by decide +kernel) (pa_cons (DW.pe_lstN (pa_cons (pv 3) (pa_cons (pv 5) (pa_cons (pv 8) pa_nil)))) pa_nil)) (pa_cons (DW.pe_def G_law_are_firsts hg (hr.mono (by omega)) rfl (pa_cons (pv 5) (pa_cons (pv 8) pa_nil))) pa_nil)) (by rfl))
      (pss_cons (ps_set (i := 11) nd rfl (Or.inl rfl) (pe_and (pv 10) (pe_one (DW.pe_def G_law_is_closed hg (hr.mono (by omega)) rfl (pa_cons (DW.pe_def G_law_with hg (hr.mono (by omega)) rfl (pa_cons (pv 3) (pa_cons (pv 5) (pa_cons (pv 8) pa_nil)))) pa_nil)))))
      (pss_one (ps_if (PW.pt (pw_or (pt_cmpR op_ne (pe_callB (DW.call_repr hg hr.units) (by rfl) T.repr (by decide +kernel) (pa_cons (DW.pe_def Gfirsts_close hg (hr.mono (by omega)) rfl (pa_cons (pv 3) (pa_cons (pv 5) (pa_cons (pv 8) pa_nil)))) pa_nil)) (pe_callB (DW.call_repr hg hr.units) (by rfl) T.repr (by decide +kernel) (pa_cons (pv 11) pa_nil)) (nomark _)) (pw_or1 (pt_cmpR op_ne (pe_callB (DW.call_repr3 hg hr.units) (by rfl) T.repr (by decide +kernel) (pa_cons (DW.pe_lstN (pa_cons (pv 3) (pa_cons (pv 5) (pa_cons (pv 8) pa_nil)))) pa_nil)) (pv 9) (nomark _))))) (pss_one (ps_ret pe_bl)) pss_nil))))))))))))))
      (pss_cons (ps_set (i := 12) nd rfl (Or.inl rfl) (pe_lst (pa_cons (DW.pe_def Gfirsts_close hg (hr.mono (by omega)) rfl (pa_cons (pe_tup pa_nil) (pa_cons (pe_tup (pa_cons pe_int (pa_cons pe_int pa_nil))) (pa_cons (pe_tup (pa_cons pe_int (pa_cons pe_int pa_nil))) pa_nil)))) (pa_cons (DW.pe_def Gfirsts_close hg (hr.mono (by omega)) rfl (pa_cons (pe_tup pa_nil) (pa_cons (pe_tup (pa_cons pe_int (pa_cons pe_int pa_nil))) (pa_cons (pe_tup (pa_cons pe_int (pa_cons pe_int pa_nil))) pa_nil)))) (pa_cons (DW.pe_def Gfirsts_close hg (hr.mono (by omega)) rfl (pa_cons (pe_tup pa_nil) (pa_cons (pe_tup (pa_cons pe_int pa_nil)) (pa_cons (pe_tup (pa_cons pe_int pa_nil)) pa_nil)))) pa_nil)))))
      (pss_one (ps_ret (pe_cmpR (op_eqD hr.units) (pv 12) (pe_lst (pa_cons pe_bl (pa_cons pe_bl (pa_cons pe_bl pa_nil)))) (nomark _))))))), ?_⟩
  walk_at "g"
  refine ⟨sc, ns, rfl, hs, hl, fun D H1 dk _ _ _ _ => ?_⟩
  walk_at "g"
  refine ⟨by decide, by decide, ?_⟩
  refine f_range (n := 9) (fun i σ H' => ∃ v2 v3 v4 v5 v6 v7 v8 v9 va vb vc vd ve vf vg : Option V, σ = [some (.ref sc), some (.ref D.dk), v2, v3, v4, v5, v6, v7, v8, v9, va, vb, vc, vd, ve, vf, vg] ∧ DeckAt D H')
    ⟨none, none, none, none, none, none, none, none, none, none, none, none, none, none, none, rfl, dk⟩ ?_ ?_
  · rintro i σ H' hi ⟨v2, v3, v4, v5, v6, v7, v8, v9, va, vb, vc, vd, ve, vf, vg, rfl, dk⟩
    walk_at "g"
    refine ⟨D, 8, rfl, dk, by decide, by decide, fun p c o lot out H3 ep L LO hlo g3 => ?_⟩
    walk_at "g"
    refine g_cut (fun σ H4 => ∃ (c o : Addr) (lot out : List (Int × Int)), σ = [some (.ref sc), some (.ref D.dk), some (.int (0 + (i : Int))), some (.ref c), some (.ref o), v5, v6, v7, v8, v9, va, vb, vc, vd, ve, vf, vg] ∧ Lot H4 c lot ∧ Lot H4 o out ∧ lot.length + out.length ≤ 8 ∧ DeckAt D H4) ?_ ?_
    · walk_at "g"
      walk_at "g"
      refine ⟨D, 4, rfl, g3.at_, by decide, by decide, fun r H4 _ _ g4 => ?_⟩
      walk_at "g"
      have g := g3.trans g4
      refine ite2 (fun h => ?_) (fun h => ?_)
      · walk_at "g"
        refine ⟨D, 4, rfl, g.at_, by decide, by decide, fun c2 lot2 H5 lb2 hl2 hok2 _ g5 => ?_⟩
        have L2' : Lot H5 c2 lot2 := ⟨lb2, by omega, hok2⟩
        walk_at "g"
        refine ⟨by decide, by decide, ?_⟩
        refine c_rngG (Dk0 := D) (n := 3) (fun i H' acc => ∃ ps, PairsAt H' acc ps ∧ ps.length = i ∧ ∀ p ∈ ps, WOk p) (fun i H1 H2 acc tk ⟨ps, r, e1, e2⟩ => ⟨ps, r.go tk, e1, e2⟩) (by decide) g5.at_ ⟨[], .nil, rfl, nofun⟩ ?_ ?_
        · rintro i H6 acc Kt Kf hi6 g6 ⟨ps, r6, e1, e2⟩ hla kt kf
          walk_at "g"
          refine ⟨rfl, ?_⟩
          walk_at "g"
          intro q0 n0
          have off0 := Off.new (o := .lst ([(1 : Int), 2, 3, 60].map V.int)) g6.at_ n0
          have r6 := r6.new (o := .lst ([(1 : Int), 2, 3, 60].map V.int)) n0
          have g7 : Gr D H6 (L2.upd H6 q0 (.lst ([(1 : Int), 2, 3, 60].map V.int))) := (Gr.refl g6.at_).new n0
          walk_at "g"
          refine ⟨D, q0, [(1 : Int), 2, 3, 60], rfl, g7.at_, .inl off0, by simp, by show 4 ≤ 100000; decide, by decide, fun pw t f' H8 ht f0 f1 ep g8 => ?_⟩
          have t0 : 1 ≤ t ∧ t ≤ 60 := by
            simp only [List.mem_cons, List.not_mem_nil, or_false] at ht
            rcases ht with rfl | rfl | rfl | rfl <;> decide
          refine kt _ _ (g7.trans g8) ⟨ps ++ [(t, f')], (r6.go (g8.tk g7.at_)).app (PairsAt.one (p := (t, f')) ⟨pw, rfl, ep⟩), by rw [List.length_append, e1]; rfl, fun x hx => ?_⟩
          rcases List.mem_append.mp hx with hx | hx
          · exact e2 x hx
          · rw [List.mem_singleton.mp hx]
            exact ⟨t0.1, by show t ≤ _; omega, f0, f1⟩
        rintro Lz H6 acc nL g6 offz hla ⟨ps, r6, e1, e2⟩
        have L2' := L2'.go (g6.tk g5.at_)
        walk_at "g"
        refine ⟨Lz, acc, rfl, .inl ⟨SqL.of offz, fun o2 no => ?_⟩⟩
        have tk := TupKeep.upd (o := .tup acc) no
        walk_at "g"
        exact ⟨c2, o2, lot2, ps, rfl, L2'.go tk, Lot.mk' upd_same (r6.go tk) (by omega) e2, by omega, g6.at_.same (same_new no)⟩
      · walk_at "g"
        exact ⟨c, o, lot, out, rfl, L.go (g4.tk g3.at_), LO.go (g4.tk g3.at_), hlo, g4.at_⟩
    clear dk g3 L LO ep hlo
    rintro σ H4 ⟨c, o, lot, out, rfl, L, LO, hlo, dk⟩
    obtain ⟨vs, eo, pr, hvl⟩ := id LO.vs
    have hol := LO.len
    obtain ⟨ts, hts⟩ : ∃ ts : List Int, ts = out.map (·.1) := ⟨_, rfl⟩
    obtain ⟨fs, hfs⟩ : ∃ fs : List Int, fs = out.map (·.2) := ⟨_, rfl⟩
    have htl : ts.length = out.length := by rw [hts, List.length_map]
    have hfl : fs.length = out.length := by rw [hfs, List.length_map]
    have htb : ∀ t ∈ ts, 1 ≤ t ∧ t ≤ 1000000000000 := fun t ht => by
      rw [hts] at ht
      obtain ⟨q, hq, rfl⟩ := List.mem_map.mp ht
      exact ⟨(LO.ok q hq).1, (LO.ok q hq).2.1⟩
    have hfb : ∀ t ∈ fs, 0 ≤ t ∧ t ≤ 1000000000000 := fun t ht => by
      rw [hfs] at ht
      obtain ⟨q, hq, rfl⟩ := List.mem_map.mp ht
      have h1 := (LO.ok q hq).2.1
      have h2 := (LO.ok q hq).2.2.1
      have h3 := (LO.ok q hq).2.2.2
      exact ⟨h2, by omega⟩
    have p39 : (10 : Nat) ^ 39 = 1000000000000000000000000000000000000000 := by decide
    have htn : ∀ t ∈ ts, t.natAbs < 10 ^ 39 := fun t ht => by have := htb t ht; rw [p39]; omega
    have hfn : ∀ t ∈ fs, t.natAbs < 10 ^ 39 := fun t ht => by have := hfb t ht; rw [p39]; omega
    walk_at "g"
    refine ⟨⟨_, SqT.of eo⟩, ?_⟩
    refine c_tupP (xs := vs) (fun m H' acc => acc = ((out.take m).map (·.1)).map V.int) (fun _ _ _ _ _ r => r) eo (by omega) rfl ?_ ?_
    · rintro m x H' acc Kt Kf hx s rfl hla kt kf
      obtain ⟨q, hq, z, rfl, hz⟩ := pr.get hx
      have hz := s _ _ hz
      walk_at "g"
      refine ⟨rfl, ?_⟩
      walk_at "g"
      refine kt _ _ (Same.refl _) ?_
      rw [take_step hq, List.map_append, List.map_append]
      rfl
    rintro Ls H5 acc nL s5 e5 hla rfl
    rw [hvl, List.take_length, ← hts] at e5
    walk_at "g"
    refine ⟨Ls, _, rfl, .inl ⟨SqL.of e5, fun pT nT => ?_⟩⟩
    have s6 := s5.trans (same_new (o := .tup (ts.map V.int)) nT)
    have eT := (upd_same : L2.upd H5 pT (.tup (ts.map V.int)) pT = _)
    generalize L2.upd H5 pT (.tup (ts.map V.int)) = H6 at s6 eT ⊢
    clear e5 s5 nL hla
    have eo6 := s6 _ _ eo
    have pr6 := pr.go (same_tk s6)
    walk_at "g"
    refine ⟨⟨_, SqT.of eo6⟩, ?_⟩
    refine c_tupP (xs := vs) (fun m H' acc => acc = ((out.take m).map (·.2)).map V.int) (fun _ _ _ _ _ r => r) eo6 (by omega) rfl ?_ ?_
    · rintro m x H' acc Kt Kf hx s rfl hla kt kf
      obtain ⟨q, hq, z, rfl, hz⟩ := pr6.get hx
      have hz := s _ _ hz
      walk_at "g"
      refine ⟨rfl, ?_⟩
      walk_at "g"
      refine kt _ _ (Same.refl _) ?_
      rw [take_step hq, List.map_append, List.map_append]
      rfl
    rintro Ls H7 acc nL s7 e7 hla rfl
    rw [hvl, List.take_length, ← hfs] at e7
    walk_at "g"
    refine ⟨Ls, _, rfl, .inl ⟨SqL.of e7, fun pF nF => ?_⟩⟩
    have s8 := s7.trans (same_new (o := .tup (fs.map V.int)) nF)
    have eF := (upd_same : L2.upd H7 pF (.tup (fs.map V.int)) pF = _)
    generalize L2.upd H7 pF (.tup (fs.map V.int)) = H8 at s8 eF ⊢
    have b : St56 D H8 c pT pF lot ts fs := ⟨L.go (same_tk (s6.trans s8)), s8 _ _ eT, eF⟩
    have dk := dk.same (s6.trans s8)
    clear e7 s7 nL hla s6 s8 eo6 pr6 eT eF nF nT L LO pr eo
    have tb : OkAll 12 10000 D H8 [V.ref pF] := OkAll.cons (ints_ok b.eF hfn (by omega)) OkAll.nil
    have eF8 := b.eF
    walk_at "g"
    intro p6 n6
    refine g_gTup upd_same rfl ?_
    have s1 := (same_new (o := .tup [V.ref pT, V.ref pF]) n6 : Same H8 (L2.upd H8 p6 (.tup [V.ref pT, V.ref pF])))
    have tb := tb.go (OffKeep.same s1)
    have b := b.go (same_tk s1)
    have dk := dk.same s1
    generalize L2.upd H8 p6 (.tup [V.ref pT, V.ref pF]) = H9 at s1 tb b dk ⊢
    clear s1 eF8 n6
    have hf40 : fs.length ≤ 30 := by omega
    have ht40 : ts.length ≤ 30 := by omega
    walk_at "g"
    refine g_back ?_
    walk_at "g"
    refine ⟨pF, _, rfl, SqT.of b.eF, fun q1 n1 => ?_⟩
    have e1 := (upd_same : L2.upd H9 q1 (.tup (fs.map V.int).reverse) q1 = _)
    have s1 := (same_new (o := .tup (fs.map V.int).reverse) n1 : Same H9 (L2.upd H9 q1 (.tup (fs.map V.int).reverse)))
    have tb := tb.go (OffKeep.same s1)
    have b := b.go (same_tk s1)
    have dk := dk.same s1
    generalize L2.upd H9 q1 (.tup (fs.map V.int).reverse) = H10 at e1 s1 tb b dk ⊢
    rw [← List.map_reverse] at e1
    have tb := OkAll.cons (ints_ok e1 (fun x hx => hfn x (List.mem_reverse.mp hx)) (by rw [List.length_reverse]; omega)) tb
    clear s1 e1 n1
    have eF := b.eF
    walk_at "g"
    intro q3 hq3
    have of3 := Off.new (o := .lst (fs.map V.int)) dk hq3
    have s1 := (same_new (o := .lst (fs.map V.int)) hq3 : Same H10 (L2.upd H10 q3 (.lst (fs.map V.int))))
    have tb := tb.go (OffKeep.same s1)
    have b := b.go (same_tk s1)
    have dk := dk.same s1
    have tb := OkAll.cons (okLst (k' := 12) (n' := 10000) of3 (ints_da fs) (ints_fit hfn) (by decide) (Nat.le_trans (Nat.mul_le_mul_right _ (show (fs.map PyData.int).length ≤ 10 by rw [List.length_map]; omega)) (by decide))) tb
    generalize L2.upd H10 q3 (.lst (fs.map V.int)) = H11 at of3 s1 tb b dk ⊢
    clear s1 eF of3
    walk_at "g"
    intro u5 hu5
    walk_at "g"
    have e5 := (upd_same : L2.upd H11 u5 (.tup [V.int 0]) u5 = _)
    have s1 := (same_new (o := .tup [V.int 0]) hu5 : Same H11 (L2.upd H11 u5 (.tup [V.int 0])))
    have tb := tb.go (OffKeep.same s1)
    have b := b.go (same_tk s1)
    have dk := dk.same s1
    generalize L2.upd H11 u5 (.tup [V.int 0]) = H12 at e5 s1 tb b dk ⊢
    clear s1
    refine g_catB b.eF e5 (by rw [List.length_map]; show _ + 1 ≤ _; omega) fun q6 H13 s6 e6 => ?_
    have e6 : H13 q6 = some (.tup ((fs ++ [0]).map V.int)) := by rw [List.map_append]; exact e6
    have tb := tb.go (OffKeep.same s6)
    have b := b.go (same_tk s6)
    have dk := dk.same s6
    have tb := OkAll.cons (ints_ok e6 (fun x hx => by
      rcases List.mem_append.mp hx with hx | hx
      · exact hfn x hx
      · rw [List.mem_singleton.mp hx]
        decide) (by rw [List.length_append]; show _ + 1 ≤ _; omega)) tb
    clear s6 e5 e6
    walk_at "g"
    refine g_slB b.eF fun q4 H14 s4 e4 => ?_
    rw [cut_last, ← List.map_take] at e4
    have tb := tb.go (OffKeep.same s4)
    have b := b.go (same_tk s4)
    have dk := dk.same s4
    have tb := OkAll.cons (ints_ok e4 (fun x hx => hfn x (List.mem_of_mem_take hx)) (by rw [List.length_take]; omega)) tb
    clear s4 e4
    walk_at "g"
    intro u1 hu1
    walk_at "g"
    have eu := (upd_same : L2.upd H14 u1 (.tup [V.int 0]) u1 = _)
    have s1 : Same H14 (L2.upd H14 u1 (.tup [V.int 0])) := same_new hu1
    have tb := tb.go (OffKeep.same s1)
    have b := b.go (same_tk s1)
    have dk := dk.same s1
    generalize L2.upd H14 u1 (.tup [V.int 0]) = H15 at eu s1 tb b dk ⊢
    clear s1
    have eT := b.eT
    walk_at "g"
    refine ⟨u1, _, [V.int 0], rfl, rfl, eu, by rw [List.length_map]; omega, by rw [List.length_map]; omega, by decide, fun q2 H16 s2 e2 => ?_⟩
    have en : (List.replicate (((ts.map V.int).length : Nat) : Int).toNat [V.int 0]).flatten = (List.replicate ts.length (0 : Int)).map V.int := by
      rw [Int.toNat_natCast, List.length_map, List.map_replicate]
      generalize ts.length = n9
      induction n9 with
      | zero => rfl
      | succ n ih => rw [List.replicate_succ, List.flatten_cons, ih, List.replicate_succ]; rfl
    rw [en] at e2
    have tb := tb.go (OffKeep.same s2)
    have b := b.go (same_tk s2)
    have dk := dk.same s2
    have tb := OkAll.cons (ints_ok e2 (fun x hx => by rw [List.eq_of_mem_replicate hx]; decide) (by rw [List.length_replicate]; omega)) tb
    have tb := OkAll.cons (ints_ok b.eT htn (by omega)) tb
    clear s2 eu en e2 eT
    walk_at "g"
    intro q8 hq8
    walk_at "g"
    have e8 := (upd_same : L2.upd H16 q8 (.tup []) q8 = _)
    have s1 := (same_new (o := .tup []) hq8 : Same H16 (L2.upd H16 q8 (.tup [])))
    have tb := tb.go (OffKeep.same s1)
    have b := b.go (same_tk s1)
    have dk := dk.same s1
    generalize L2.upd H16 q8 (.tup []) = H17 at e8 s1 tb b dk ⊢
    have tb := OkAll.cons (ints_ok (ns := []) e8 nofun (by decide)) tb
    have tb := OkAll.cons (okPure (k' := 12) (n' := 10000) (.non) fit_none (by decide) (by decide)) tb
    have tb := OkAll.cons (okPure (k' := 12) (n' := 10000) (.str (Str.ofString "0")) (fit_str (n := 1) (by decide)) (by decide) (by decide)) tb
    clear s1 e8
    walk_at "g"
    intro l nl
    have ofl := Off.new (o := .lst [V.ref pF, V.ref q1, V.ref q3, V.ref q6, V.ref q4, V.ref q2, V.ref pT, V.non, V.ref q8, V.str (Str.ofString "0")]) dk nl
    have tb := tb.go (also_new (o := .lst [V.ref pF, V.ref q1, V.ref q3, V.ref q6, V.ref q4, V.ref q2, V.ref pT, V.non, V.ref q8, V.str (Str.ofString "0")]) nl)
    have g18 : Gr D H17 (L2.upd H17 l (.lst [V.ref pF, V.ref q1, V.ref q3, V.ref q6, V.ref q4, V.ref q2, V.ref pT, V.non, V.ref q8, V.str (Str.ofString "0")])) := (Gr.refl dk).new nl
    have b := b.go (g18.tk dk)
    generalize L2.upd H17 l (.lst [V.ref pF, V.ref q1, V.ref q3, V.ref q6, V.ref q4, V.ref q2, V.ref pT, V.non, V.ref q8, V.str (Str.ofString "0")]) = H18 at ofl tb b g18 ⊢
    have dkL : DeckAt (D.also l) H18 := with_no g18.at_ ofl.1
    have tv : OkAll 12 10000 (D.also l) H18 [V.ref pF, V.ref q1, V.ref q3, V.ref q6, V.ref q4, V.ref q2, V.ref pT, V.non, V.ref q8, V.str (Str.ofString "0")] := fun v h => tb v (by
      simp only [List.mem_cons, List.not_mem_nil, or_false] at h ⊢
      rcases h with h | h | h | h | h | h | h | h | h | h <;> simp [h])
    have hvs : [V.ref pF, V.ref q1, V.ref q3, V.ref q6, V.ref q4, V.ref q2, V.ref pT, V.non, V.ref q8, V.str (Str.ofString "0")].length = 10 := rfl
    generalize [V.ref pF, V.ref q1, V.ref q3, V.ref q6, V.ref q4, V.ref q2, V.ref pT, V.non, V.ref q8, V.str (Str.ofString "0")] = us at ofl tv hvs ⊢
    clear tb
    have el := ofl.1
    walk_at "g"
    refine ⟨true, true, pF, pT, _, _, rfl, SqT.of b.eF, SqT.of b.eT, ?_⟩
    refine c_zipS (k1 := true) (k2 := true) (by rw [List.length_map, List.length_map]; omega) (fun i H' acc => acc = (((fs.zip ts).take i).map fun q => q.1 - q.2).map V.int) (fun _ _ _ _ _ r => r) (SqT.of b.eF) (SqT.of b.eT) (by rw [List.length_map]; omega) rfl ?_ ?_
    · rintro Dz i x y Tz H' acc Kt Kf hx hy s eT eD rfl hl2 kt kf
      rw [List.getElem?_map] at hx hy
      obtain ⟨f', hf, rfl⟩ := Option.map_eq_some_iff.mp hx
      obtain ⟨t', ht, rfl⟩ := Option.map_eq_some_iff.mp hy
      walk_at "g"
      refine ⟨rfl, ?_⟩
      walk_at "g"
      refine kt _ _ (Same.refl _) ?_
      have hz : (fs.zip ts)[i]? = some (f', t') := by rw [List.getElem?_zip_eq_some]; exact ⟨hf, ht⟩
      rw [take_step hz, List.map_append, List.map_append]
      rfl
    rintro Lz H19 acc nL s2 e2 hl2 rfl
    rw [List.length_map, show (fs.zip ts).take fs.length = fs.zip ts from List.take_of_length_le (by rw [List.length_zip]; omega)] at e2
    walk_at "g"
    refine ⟨Lz, _, rfl, .inl ⟨SqL.of e2, fun p9 n9 => ?_⟩⟩
    have e9 := (upd_same : L2.upd H19 p9 (.tup (((fs.zip ts).map fun q => q.1 - q.2).map V.int)) p9 = _)
    have s1 := s2.trans (same_new (o := .tup (((fs.zip ts).map fun q => q.1 - q.2).map V.int)) n9)
    generalize L2.upd H19 p9 (.tup (((fs.zip ts).map fun q => q.1 - q.2).map V.int)) = H20 at e9 s1 ⊢
    have el20 := s1 _ _ ofl.1
    have ov : OkV 12 10000 (D.also l) H20 (.ref p9) := ints_ok e9 (fun x hx => by
      obtain ⟨q, hq, rfl⟩ := List.mem_map.mp hx
      have h1 := hfb _ (List.of_mem_zip hq).1
      have h2 := htb _ (List.of_mem_zip hq).2
      rw [p39]
      omega) (by rw [List.length_map, List.length_zip]; omega)
    have tv := (OkAll.app (tv.go (OffKeep.same s1)) (OkAll.cons ov OkAll.nil)).go (keep_mut (zs := us ++ [.ref p9]) el20)
    have b := (b.go (same_tk s1)).go (TupKeep.lst (o := .lst (us ++ [.ref p9])) el20)
    have g21 : Gr D H17 (L2.upd H20 l (.lst (us ++ [.ref p9]))) := (g18.trans ((Gr.refl dkL).same s1).less).mut dk nl
    have ofl : Off D (L2.upd H20 l (.lst (us ++ [.ref p9]))) l (.lst (us ++ [.ref p9])) := ⟨upd_same, ofl.2⟩
    walk_at "g"
    refine g_app el20 (by rw [hvs]; decide) ?_
    walk_at "g"
    have hvs : (us ++ [V.ref p9]).length = 11 := by rw [List.length_append, hvs]; rfl
    generalize L2.upd H20 l (.lst (us ++ [.ref p9])) = H21 at tv b g21 ofl ⊢
    generalize us ++ [V.ref p9] = us1 at tv ofl hvs ⊢
    have dkL : DeckAt (D.also l) H21 := with_no g21.at_ ofl.1
    have eF := b.eF
    clear el20 e9 s1 ov n9 e2 hl2 nL s2 el g18
    refine ⟨⟨_, SqT.of eF⟩, ?_⟩
    refine c_tupP (xs := fs.map V.int) (fun m H' acc => acc = (fs.take m).map bv) (fun _ _ _ _ _ r => r) eF (by rw [List.length_map]; omega) rfl ?_ ?_
    · rintro m x H' acc Kt Kf hx s rfl hla kt kf
      rw [List.getElem?_map] at hx
      obtain ⟨f', hf, rfl⟩ := Option.map_eq_some_iff.mp hx
      walk_at "g"
      refine ⟨rfl, ?_⟩
      walk_at "g"
      refine ite2 (fun h => ?_) (fun h => ?_)
      · have h2 : f' < 2 := by simpa using h
        walk_at "g"
        refine kt _ _ (Same.refl _) ?_
        rw [take_step hf, List.map_append]
        show _ = _ ++ [bv f']
        unfold bv
        rw [if_pos h2]
      · have h2 : ¬ f' < 2 := by simpa using h
        walk_at "g"
        refine kt _ _ (Same.refl _) ?_
        rw [take_step hf, List.map_append]
        show _ = _ ++ [bv f']
        unfold bv
        rw [if_neg h2]
    rintro Lz H22 acc nL s2 e2 hl2 rfl
    rw [List.length_map, List.take_length] at e2
    walk_at "g"
    refine ⟨Lz, _, rfl, .inl ⟨SqL.of e2, fun p9 n9 => ?_⟩⟩
    have e9 := (upd_same : L2.upd H22 p9 (.tup (fs.map bv)) p9 = _)
    have s1 := s2.trans (same_new (o := .tup (fs.map bv)) n9)
    generalize L2.upd H22 p9 (.tup (fs.map bv)) = H23 at e9 s1 ⊢
    have el20 := s1 _ _ ofl.1
    have ov : OkV 12 10000 (D.also l) H23 (.ref p9) := okPart e9 (bv_da fs) (bv_fit hfn) (by rw [List.length_map]; omega)
    have tv := ((OkAll.app (tv.go (OffKeep.same s1)) (OkAll.cons ov OkAll.nil)).go (keep_mut (zs := us1 ++ [.ref p9]) el20)).go keep_less
    have b := (b.go (same_tk s1)).go (TupKeep.lst (o := .lst (us1 ++ [.ref p9])) el20)
    have g24 : Gr D H17 (L2.upd H23 l (.lst (us1 ++ [.ref p9]))) := (g21.trans ((Gr.refl dkL).same s1).less).mut dk nl
    have of18 : Off D (L2.upd H23 l (.lst (us1 ++ [.ref p9]))) l (.lst (us1 ++ [.ref p9])) := ⟨upd_same, ofl.2⟩
    walk_at "g"
    refine g_app el20 (by rw [hvs]; decide) ?_
    walk_at "g"
    have hvs : (us1 ++ [V.ref p9]).length = 12 := by rw [List.length_append, hvs]; rfl
    generalize L2.upd H23 l (.lst (us1 ++ [.ref p9])) = H24 at tv b g24 of18 ⊢
    generalize us1 ++ [V.ref p9] = us2 at tv of18 hvs ⊢
    clear el20 e9 s1 ov n9 e2 hl2 nL s2 ofl g21 eF dkL
    have dk := g24.at_
    have g := Gr.refl dk
    walk_at "g"
    refine ⟨by decide, by decide, ?_⟩
    refine c_range (n := 3) (fun L i H' => ∃ ys, H' L = some (.lst ys) ∧ OkAll 12 10000 (D.also L) H' ys ∧ ys.length = i ∧ Gr D H24 H' ∧ H24 L = none)
      (fun L hL => ⟨[], upd_same, OkAll.nil, rfl, (Gr.refl g.at_).new hL, hL⟩) ?_ ?_
    · rintro Lk i H' hi ⟨ys, e1, oy, ey, g4, nL⟩
      obtain ⟨n0, n1, _⟩ := g.at_.ne nL
      have b := b.go (g4.tk g.at_)
      have eT := b.eT
      walk_at "g"
      refine ⟨rfl, ?_⟩
      walk_at "g"
      refine ⟨⟨_, SqT.of eT⟩, ?_⟩
      have dkk : DeckAt (D.also Lk) H' := with_no g4.at_ e1
      refine c_tupG (Dk0 := D.also Lk) (fun m H' acc => ∃ ns : List Int, acc = ns.map V.int ∧ ns.length ≤ m ∧ ∀ x ∈ ns, x.natAbs < 10 ^ 39) (fun _ _ _ _ _ r => r) eT (by rw [List.length_map]; omega) dkk ⟨[], rfl, Nat.le_refl _, nofun⟩ ?_ ?_
      · rintro m x H5 acc Kt Kf hx g5 ⟨ns, rfl, hnl, hnb⟩ hla kt kf
        rw [List.getElem?_map] at hx
        obtain ⟨t', ht, rfl⟩ := Option.map_eq_some_iff.mp hx
        walk_at "g"
        refine ⟨rfl, ?_⟩
        walk_at "g"
        have h1 := htb t' (List.mem_of_getElem? ht)
        have h3 : t'.natAbs < 2 ^ 200 := Nat.lt_of_le_of_lt (show t'.natAbs ≤ 1000000000000 by omega) (by decide)
        refine ⟨D.also Lk, t', rfl, g5.at_, by omega, h3, fun j H6 j0 j1 g6 => ?_⟩
        refine kt _ _ g6 ⟨ns ++ [j], by rw [List.map_append]; rfl, by rw [List.length_append]; show _ + 1 ≤ _; omega, fun x hx => ?_⟩
        rcases List.mem_append.mp hx with hx | hx
        · exact hnb x hx
        · rw [List.mem_singleton.mp hx]
          have : j.natAbs ≤ 1000000000002 := by omega
          exact Nat.lt_of_le_of_lt this (by decide)
      · rintro Lm H5 acc nLm g5 offm hla ⟨ns, rfl, hnl, hnb⟩
        rw [List.length_map] at hnl
        walk_at "g"
        refine ⟨Lm, _, rfl, .inl ⟨SqL.of offm.1, fun p hp => ?_⟩⟩
        have g6 : Gr (D.also Lk) H' (L2.upd H5 p (.tup (ns.map V.int))) := g5.new hp
        have e1' := g6.keep _ _ e1 n0 n1
        exact ⟨ys, e1', small (by omega), ys ++ [.ref p], upd_same, (OkAll.app (oy.go (g6.ok dkk)) (OkAll.cons (ints_ok upd_same hnb (by omega)) OkAll.nil)).go (keep_mut e1'), by rw [List.length_append, ey]; rfl, (g4.trans g6.less).mut g.at_ nL, nL⟩
    rintro L8 HA ⟨ys8, e8, oy8, ey8, g1, nL⟩
    obtain ⟨n0, n1, _⟩ := g.at_.ne nL
    replace oy8 := oy8.go keep_less
    have of8 : Off D HA L8 (.lst ys8) := ⟨e8, n0, n1, g.at_.isno nL⟩
    have tv := tv.go (g1.ok g.at_)
    have of18 := of18.go g1
    have b := b.go (g1.tk g.at_)
    have g := Gr.refl g1.at_
    clear e8 n0 n1 nL g1 g24
    walk_at "g"
    refine g_cat of18.1 of8.1 (by rw [ey8, hvs]; exact Nat.le_of_ble_eq_true (by with_unfolding_all rfl)) ?_
    intro pz n1
    have oz := Off.new (o := .lst (us2 ++ ys8)) g.at_ n1
    have s1 : Same HA (L2.upd HA pz (.lst (us2 ++ ys8))) := same_new n1
    have tv := OkAll.app (tv.go (OffKeep.same s1)) (oy8.go (OffKeep.same s1))
    have b := b.go (same_tk s1)
    have dkB : DeckAt D (L2.upd HA pz (.lst (us2 ++ ys8))) := g.at_.same s1
    have hvs : (us2 ++ ys8).length = 15 := by rw [List.length_append, hvs, ey8]
    generalize L2.upd HA pz (.lst (us2 ++ ys8)) = HB at oz tv b dkB ⊢
    generalize us2 ++ ys8 = us3 at oz tv hvs ⊢
    have g := Gr.refl dkB
    clear of18 of8 oy8 ey8 s1 n1
    walk_at "g"
    refine ⟨by decide, by decide, ?_⟩
    have hbd : Bd 1 (.tuple (fs.map PyData.int)) := ⟨_, rfl, by rw [List.length_map]; omega, fun e he => by
      obtain ⟨x, hx, rfl⟩ := List.mem_map.mp he
      have h1 := hfb x hx
      exact ⟨x, rfl, by rw [show (10 : Nat) ^ 14 = 100000000000000 by decide]; omega⟩⟩
    refine c_range (n := 7) (fun L i H' => ∃ ys, H' L = some (.lst ys) ∧ OkAll 12 10000 (D.also L) H' ys ∧ ys.length = i ∧ Gr D HB H' ∧ HB L = none)
      (fun L hL => ⟨[], upd_same, OkAll.nil, rfl, (Gr.refl g.at_).new hL, hL⟩) ?_ ?_
    · rintro Lk i H' hi ⟨ys, e1, oy, ey, g4, nL⟩
      obtain ⟨n0, n1, _⟩ := g.at_.ne nL
      have eF := (b.go (g4.tk g.at_)).eF
      walk_at "g"
      refine ⟨rfl, ?_⟩
      walk_at "g"
      refine ⟨D.also Lk, .ref pF, .tuple (fs.map PyData.int), _, rfl, by decide, with_no g4.at_ e1, .tup eF (ints_da fs), hbd, fun v H5 g5 ov => ?_⟩
      have e1' := g5.keep _ _ e1 n0 n1
      exact ⟨ys, e1', small (by omega), ys ++ [v], upd_same, (OkAll.app (oy.go (g5.ok (with_no g4.at_ e1))) (OkAll.cons (ov.up (by decide) (by decide)) OkAll.nil)).go (keep_mut e1'), by rw [List.length_append, ey]; rfl, (g4.trans g5.less).mut g.at_ nL, nL⟩
    rintro L9 HC ⟨ys9, e9, oy9, ey9, g1, nL⟩
    obtain ⟨n0, n1, _⟩ := g.at_.ne nL
    replace oy9 := oy9.go keep_less
    have of9 : Off D HC L9 (.lst ys9) := ⟨e9, n0, n1, g.at_.isno nL⟩
    have tv := tv.go (g1.ok g.at_)
    have oz := oz.go g1
    have b := b.go (g1.tk g.at_)
    have g := Gr.refl g1.at_
    clear e9 n0 n1 nL g1
    walk_at "g"
    refine g_cat oz.1 of9.1 (by rw [ey9, hvs]; exact Nat.le_of_ble_eq_true (by with_unfolding_all rfl)) ?_
    intro pw n1
    have ow := Off.new (o := .lst (us3 ++ ys9)) g.at_ n1
    have s1 : Same HC (L2.upd HC pw (.lst (us3 ++ ys9))) := same_new n1
    have tv := OkAll.app (tv.go (OffKeep.same s1)) (oy9.go (OffKeep.same s1))
    have b := b.go (same_tk s1)
    have dkD : DeckAt D (L2.upd HC pw (.lst (us3 ++ ys9))) := g.at_.same s1
    have hvs : (us3 ++ ys9).length = 22 := by rw [List.length_append, hvs, ey9]
    generalize L2.upd HC pw (.lst (us3 ++ ys9)) = HD at ow tv b dkD ⊢
    generalize us3 ++ ys9 = us4 at ow tv hvs ⊢
    clear oz of9 oy9 ey9 s1 n1 g
    have g := Gr.refl dkD
    walk_at "g"
    refine ⟨D, rfl, g.at_, fun v0 HE gE ov => ?_⟩
    have tv := tv.go (gE.ok g.at_)
    have ow := ow.go gE
    have b := b.go (gE.tk g.at_)
    have dkE := gE.at_
    clear gE g
    walk_at "g"
    intro p0 n0
    have o0 := Off.new (o := .lst [v0]) dkE n0
    have s1 : Same HE (L2.upd HE p0 (.lst [v0])) := same_new n0
    have tv := OkAll.app (tv.go (OffKeep.same s1)) (OkAll.cons ((ov.up (k' := 12) (n' := 10000) (by decide) (by decide)).go (OffKeep.same s1)) OkAll.nil)
    have b := b.go (same_tk s1)
    have ow := ow.go ((Gr.refl dkE).same s1)
    have dkE := dkE.same s1
    generalize L2.upd HE p0 (.lst [v0]) = HF at o0 tv b ow dkE ⊢
    clear s1 n0 ov
    walk_at "g"
    refine g_cat ow.1 o0.1 (by rw [hvs]; exact Nat.le_of_ble_eq_true (by with_unfolding_all rfl)) ?_
    intro pv n1
    have s1 : Same HF (L2.upd HF pv (.lst (us4 ++ [v0]))) := same_new n1
    have ex := (upd_same : L2.upd HF pv (.lst (us4 ++ [v0])) pv = _)
    have tv := tv.go (OffKeep.same s1)
    have b := b.go (same_tk s1)
    have dkE := dkE.same s1
    generalize L2.upd HF pv (.lst (us4 ++ [v0])) = HG at ex tv b dkE ⊢
    generalize us4 ++ [v0] = us5 at ex tv ⊢
    clear s1 n1 o0 ow hvs
    walk_at "g"
    refine ⟨⟨_, SqL.of ex⟩, ?_⟩
    refine f_list (xs := us5) (fun i2 σ H' => (∃ w2 w7 w8 w9 wa wb wc wd we wf wg : Option V, σ = [some (.ref sc), some (.ref D.dk), w2, some (.ref c), some (.ref o), some (.ref pT), some (.ref pF), w7, w8, w9, wa, wb, wc, wd, we, wf, wg]) ∧ Same HG H')
      ⟨⟨_, _, _, _, _, _, _, _, _, _, _, rfl⟩, Same.refl _⟩ (fun i2 σ H' h => h.2 _ _ ex) ?_ ?_
    · rintro i2 x σ H14 hx ⟨⟨w2, w7, w8, w9, wa, wb, wc, wd, we, wf, wg, rfl⟩, s14⟩
      obtain ⟨d, dv, gd⟩ := (tv x (List.mem_of_getElem? hx)).good (by decide) (by decide)
      have dv := Da.go (OffKeep.same s14) _ _ dv
      have b := b.go (same_tk s14)
      walk_at "g"
      refine g_lstN ?_
      walk_at "g"
      intro a1 n1 far1
      have s1 := same_new (o := .lst [.ref c, .ref pT, x]) n1
      have e1 := (upd_same : L2.upd H14 a1 (.lst [.ref c, .ref pT, x]) a1 = _)
      have b := b.go (same_tk s1)
      have dv := Da.go (OffKeep.same s1) _ _ dv
      have s14 := s14.trans s1
      clear s1
      walk_at "g"
      refine ⟨D, g_repr3 e1 far1 b.L b.eT (by omega) htn dv gd ?_⟩
      walk_at "g"
      refine ⟨D, pT, x, ts, d, rfl, b.eT, by omega, dv, fun H15 s15 => ?_⟩
      have b := b.go (same_tk s15)
      have dv := Da.go (OffKeep.same s15) _ _ dv
      have s14 := s14.trans s15
      clear s15 e1 n1 far1
      have b15 := b
      have dv15 := dv
      have s150 := s14
      walk_at "g"
      cases e : firstsB ts d with
      | false =>
        have hcl := closeB_no (lot := lot) e
        walk_at "g"
        refine ⟨D, c, pT, x, lot, ts, d, rfl, b.L, b.eT, by omega, htb, dv, fun H18 s18 => ?_⟩
        have b := b.go (same_tk s18)
        have dv := Da.go (OffKeep.same s18) _ _ dv
        have s14 := s14.trans s18
        clear s18
        rw [hcl]
        walk_at "g"
        refine g_reprBl ?_
        walk_at "g"
        refine g_reprBl ?_
        walk_at "g"
        refine g_lstN ?_
        walk_at "g"
        intro a19 n19 far19
        have s19 := same_new (o := .lst [.ref c, .ref pT, x]) n19
        have e19 := (upd_same : L2.upd H18 a19 (.lst [.ref c, .ref pT, x]) a19 = _)
        have b := b.go (same_tk s19)
        have dv := Da.go (OffKeep.same s19) _ _ dv
        have s14 := s14.trans s19
        clear s19
        walk_at "g"
        refine ⟨D, g_repr3 e19 far19 b.L b.eT (by omega) htn dv gd ?_⟩
        walk_at "g"
        rw [ne_same rfl]
        walk_at "g"
        exact ⟨⟨_, _, _, _, _, _, _, _, _, _, _, rfl⟩, s14⟩
      | true =>
        obtain ⟨cx, xs, ds, rfl, rfl, ec, r0⟩ : ∃ c xs ds, x = .ref c ∧ d = .tuple ds ∧ H15 c = some (.tup xs) ∧ DaAll D H15 xs ds := by
          rcases tup_or dv with ⟨c, xs, ds, h1, h2, h3, h4⟩ | ⟨e1, _, _⟩
          · exact ⟨c, xs, ds, h1, h2, h3, h4⟩
          · cases d <;> first | (cases e; done) | (cases e1; done)
        obtain ⟨fs2, rfl, hfl2, hfb2⟩ := firstsOf_ints e
        have hcl := closeB_ints (lot := lot) e
        unfold closesB at hcl
        obtain rfl := da_ints r0
        have b := b15
        have dv := dv15
        have s14 := s150
        walk_at "g"
        refine ⟨c, pT, cx, lot, ts, fs2, rfl, b.L, b.eT, ec, hfl2, by omega, zip_ok b.L.ok htb hfb2, fun p3 H17 s17 L3 => ?_⟩
        have b := b.go (same_tk s17)
        have dv := Da.go (OffKeep.same s17) _ _ dv
        have s14 := s14.trans s17
        clear s17
        walk_at "g"
        refine ⟨p3, _, rfl, L3, fun H17 s17 => ?_⟩
        have b := b.go (same_tk s17)
        have dv := Da.go (OffKeep.same s17) _ _ dv
        have s14 := s14.trans s17
        clear s17
        walk_at "g"
        refine ⟨D, c, pT, _, lot, ts, _, rfl, b.L, b.eT, by omega, htb, dv, fun H18 s18 => ?_⟩
        have b := b.go (same_tk s18)
        have dv := Da.go (OffKeep.same s18) _ _ dv
        have s14 := s14.trans s18
        clear s18
        rw [hcl]
        walk_at "g"
        refine g_reprBl ?_
        walk_at "g"
        refine g_reprBl ?_
        walk_at "g"
        rw [ne_same rfl]
        walk_at "g"
        refine g_lstN ?_
        walk_at "g"
        intro a19 n19 far19
        have s19 := same_new (o := .lst [.ref c, .ref pT, .ref cx]) n19
        have e19 := (upd_same : L2.upd H18 a19 (.lst [.ref c, .ref pT, .ref cx]) a19 = _)
        have b := b.go (same_tk s19)
        have dv := Da.go (OffKeep.same s19) _ _ dv
        have s14 := s14.trans s19
        clear s19
        walk_at "g"
        refine ⟨D, g_repr3 e19 far19 b.L b.eT (by omega) htn dv gd ?_⟩
        walk_at "g"
        rw [ne_same rfl]
        walk_at "g"
        exact ⟨⟨_, _, _, _, _, _, _, _, _, _, _, rfl⟩, s14⟩
    · rintro σ H' ⟨⟨w2, w7, w8, w9, wa, wb, wc, wd, we, wf, wg, rfl⟩, s⟩
      exact ⟨_, _, _, _, _, _, _, _, _, _, _, _, _, _, _, rfl, dkE.same s⟩
  · rintro σ H' ⟨v2, v3, v4, v5, v6, v7, v8, v9, va, vb, vc, vd, ve, vf, vg, rfl, dk⟩
    walk_at "g"
    intro pa na
    have ea := (upd_same : L2.upd H' pa (.tup []) pa = _)
    have dk := dk.same (same_new (o := .tup []) na)
    generalize L2.upd H' pa (.tup []) = H2 at ea dk ⊢
    walk_at "g"
    intro pb nb
    have eb := (upd_same : L2.upd H2 pb (.tup [.int 2, .int 2]) pb = _)
    have s := same_new (o := .tup [.int 2, .int 2]) nb
    have ea := s _ _ ea
    generalize L2.upd H2 pb (.tup [.int 2, .int 2]) = H3 at ea eb s ⊢
    clear s
    walk_at "g"
    intro pc nc
    have ec := (upd_same : L2.upd H3 pc (.tup [.int 1, .int 0]) pc = _)
    have s := same_new (o := .tup [.int 1, .int 0]) nc
    have ea := s _ _ ea
    have eb := s _ _ eb
    generalize L2.upd H3 pc (.tup [.int 1, .int 0]) = H4 at ea eb ec s ⊢
    clear s
    walk_at "g"
    refine ⟨D, pa, pb, .ref pc, [], [2, 2], .tuple [.int 1, .int 0], rfl, Lot.mk' ea .nil (by decide) nofun, eb, by decide, by decide, .tup ec (ints_da [1, 0]), fun H5 _ => ?_⟩
    rw [show closeB [] [2, 2] (.tuple [.int 1, .int 0]) = true by decide +kernel]
    clear ea eb ec na nb nc
    walk_at "g"
    intro pa na
    have ea := (upd_same : L2.upd H5 pa (.tup []) pa = _)
    generalize L2.upd H5 pa (.tup []) = H2 at ea ⊢
    walk_at "g"
    intro pb nb
    have eb := (upd_same : L2.upd H2 pb (.tup [.int 2, .int 2]) pb = _)
    have s := same_new (o := .tup [.int 2, .int 2]) nb
    have ea := s _ _ ea
    generalize L2.upd H2 pb (.tup [.int 2, .int 2]) = H3 at ea eb s ⊢
    clear s
    walk_at "g"
    intro pc nc
    have ec := (upd_same : L2.upd H3 pc (.tup [.int 1, .int 1]) pc = _)
    have s := same_new (o := .tup [.int 1, .int 1]) nc
    have ea := s _ _ ea
    have eb := s _ _ eb
    generalize L2.upd H3 pc (.tup [.int 1, .int 1]) = H4 at ea eb ec s ⊢
    clear s
    walk_at "g"
    refine ⟨D, pa, pb, .ref pc, [], [2, 2], .tuple [.int 1, .int 1], rfl, Lot.mk' ea .nil (by decide) nofun, eb, by decide, by decide, .tup ec (ints_da [1, 1]), fun H6 _ => ?_⟩
    rw [show closeB [] [2, 2] (.tuple [.int 1, .int 1]) = false by decide +kernel]
    clear ea eb ec na nb nc
    walk_at "g"
    intro pa na
    have ea := (upd_same : L2.upd H6 pa (.tup []) pa = _)
    generalize L2.upd H6 pa (.tup []) = H2 at ea ⊢
    walk_at "g"
    intro pb nb
    have eb := (upd_same : L2.upd H2 pb (.tup [.int 1]) pb = _)
    have s := same_new (o := .tup [.int 1]) nb
    have ea := s _ _ ea
    generalize L2.upd H2 pb (.tup [.int 1]) = H3 at ea eb s ⊢
    clear s
    walk_at "g"
    intro pc nc
    have ec := (upd_same : L2.upd H3 pc (.tup [.int 0]) pc = _)
    have s := same_new (o := .tup [.int 0]) nc
    have ea := s _ _ ea
    have eb := s _ _ eb
    generalize L2.upd H3 pc (.tup [.int 0]) = H4 at ea eb ec s ⊢
    clear s
    walk_at "g"
    refine ⟨D, pa, pb, .ref pc, [], [1], .tuple [.int 0], rfl, Lot.mk' ea .nil (by decide) nofun, eb, by decide, by decide, .tup ec (ints_da [0]), fun H7 _ => ?_⟩
    rw [show closeB [] [1] (.tuple [.int 0]) = true by decide +kernel]
    clear ea eb ec na nb nc
    walk_at "g"
    intro p8 n8
    have e8 := (upd_same : L2.upd H7 p8 (.lst [.bl true, .bl false, .bl true]) p8 = _)
    generalize L2.upd H7 p8 (.lst [.bl true, .bl false, .bl true]) = H8 at e8 ⊢
    walk_at "g"
    intro p9 n9
    have s9 := same_new (o := .lst [.bl true, .bl false, .bl true]) n9
    refine g_eqR (d := .list [.bool true, .bool false, .bool true]) (.lst (SqL.of (s9 _ _ e8)) (.cons (.bl _) (.cons (.bl _) (.cons (.bl _) .nil)))) (.lst (SqL.of upd_same) (.cons (.bl _) (.cons (.bl _) (.cons (.bl _) .nil)))) ?_ ?_
    · refine (sm_lst (m := 150) (k := 0) (n := 20) (k' := 1) (n' := 63) (fun d hd => ?_) (by decide) (by decide)).up (by decide) (by decide)
      obtain ⟨b2, rfl⟩ : ∃ b2 : Bool, d = .bool b2 := by
        simp only [List.mem_cons, List.not_mem_nil, or_false] at hd
        rcases hd with rfl | rfl | rfl <;> exact ⟨_, rfl⟩
      cases b2 <;> exact ⟨rfl, by decide, by decide, by decide, rfl⟩
    · exact k _
end
end DW
namespace DW
open PySem PySem.Spec PyProof.Rows L2
theorem all_go {P : Program} {w : World} {K : PySem.W.Frag} {mg : Str → Option Value} {fa : Addr} (hfa : mg "law" = some (.ref fa)) (T : NoB mg) (B : Bn56 mg)
    (F_law_deck : Top K mg "_law_deck" s__law_deck ["script"])
    (F_law_draw : Top K mg "_law_draw" s__law_draw ["deck", "many"])
    (F_law_one : Top K mg "_law_one" s__law_one ["deck", "items"])
    (F_law_mixed : Top K mg "_law_mixed" s__law_mixed ["deck", "items"])
    (F_law_watch : Top K mg "_law_watch" s__law_watch ["deck", "turns"])
    (F_law_grown : Top K mg "_law_grown" s__law_grown ["deck", "most"])
    (F_law_held_lot : Top K mg "_law_held_lot" s__law_held_lot ["deck", "most"])
    (F_law_great_lot : Top K mg "_law_great_lot" s__law_great_lot ["deck", "most"])
    (F_law_odd : Top K mg "_law_odd" s__law_odd ["deck"])
    (F_law_bent : Top K mg "_law_bent" s__law_bent ["deck", "value", "deep"])
    (F_law_whole : Top K mg "_law_whole" s__law_whole ["value", "least", "most"])
    (F_law_holds : Top K mg "_law_holds" s__law_holds ["watch", "day"])
    (F_law_tally : Top K mg "_law_tally" s__law_tally ["lot", "day"])
    (F_law_with : Top K mg "_law_with" s__law_with ["lot", "turns", "firsts"])
    (F_law_is_closed : Top K mg "_law_is_closed" s__law_is_closed ["lot"])
    (F_law_are_firsts : Top K mg "_law_are_firsts" s__law_are_firsts ["turns", "value"])
    (F_law_parted_lot : Top K mg "_law_parted_lot" s__law_parted_lot ["deck", "most"])
    (Fis_whole_number : Top K mg "is_whole_number" s_is_whole_number ["value"])
    (Frefuse_many : Top K mg "refuse_many" s_refuse_many ["many", "limit"])
    (Ftallies_from : Top K mg "tallies_from" s_tallies_from ["lot", "begin", "many"])
    (Fenough_days : Top K mg "enough_days" s_enough_days ["lot"])
    (Ffew_tallies : Top K mg "few_tallies" s_few_tallies ["lot"])
    (Fopen_day : Top K mg "open_day" s_open_day ["lot", "least"])
    (Fis_held : Top K mg "is_held" s_is_held ["lot", "least"])
    (Frefuse_many_items : Top K mg "refuse_many_items" s_refuse_many_items ["lot", "turns"])
    (Fare_firsts : Top K mg "are_firsts" s_are_firsts ["turns", "value"])
    (Fwatches_of : Top K mg "watches_of" s_watches_of ["turns", "firsts"])
    (Ffirsts_close : Top K mg "firsts_close" s_firsts_close ["lot", "turns", "value"])
    (Flaw : Top K mg "law" s_law ["script"])
    : ∃ fd : FuncData, (∀ (s : Shared) (u : Value), BindsTo s fd ⟨[u], []⟩ [("script", u)]) ∧ ∀ base : Heap, K.In base → base.Ns mainGlobals mg → FnG P w K mg base CX0 7 fa fd ["script"] (spLaw K) := by
  obtain ⟨f, fd, F⟩ := Flaw
  have e := hfa.symm.trans F.mg
  cases e
  refine ⟨fd, fun s u => .of_eq (F.ba [u] rfl), fun base _ _ => ?_⟩
  have G_law_deck := ok_deck (P := P) (w := w) (base := base) F_law_deck T
  have G_law_draw := ok_draw (P := P) (w := w) (base := base) F_law_draw T
  have G_law_one := ok_one F_law_one T G_law_draw
  have G_law_mixed := ok_mixed F_law_mixed T G_law_draw
  have G_law_watch := ok_watch F_law_watch T G_law_draw G_law_one
  have G_law_grown := ok_grown F_law_grown T G_law_draw G_law_one G_law_mixed
  have G_law_held_lot := ok_held_lot F_law_held_lot T G_law_draw G_law_one G_law_mixed G_law_watch G_law_grown
  have G_law_great_lot := ok_great_lot F_law_great_lot T G_law_draw G_law_one
  have G_law_odd := ok_odd F_law_odd T G_law_one
  have G_law_bent := ok_bentN1 F_law_bent T G_law_draw G_law_one G_law_odd
  have G_law_whole := ok_whole_d (P := P) (w := w) (base := base) F_law_whole T
  have G_law_holds := ok_holds (P := P) (w := w) (base := base) F_law_holds T
  have G_law_tally := ok_law_tally F_law_tally T G_law_holds
  have G_law_with := ok_with_l (P := P) (w := w) (base := base) F_law_with T
  have G_law_is_closed := ok_is_closed F_law_is_closed T G_law_tally
  have G_law_are_firsts := ok_l_firsts F_law_are_firsts T G_law_whole
  have G_law_parted_lot := ok_parted F_law_parted_lot T G_law_draw G_law_mixed G_law_held_lot
  have Gis_whole_number := ok_isint (P := P) (w := w) (base := base) Fis_whole_number T
  have Grefuse_many := ok_no_many (P := P) (w := w) (base := base) Frefuse_many T
  have Gtallies_from := ok_tallies (P := P) (w := w) (base := base) Ftallies_from T
  have Genough_days := ok_enough (P := P) (w := w) (base := base) Fenough_days T
  have Gfew_tallies := ok_few Ffew_tallies T Gtallies_from Genough_days
  have Gopen_day := ok_open_day Fopen_day T Gfew_tallies
  have Gis_held := ok_is_held Fis_held T Gopen_day
  have Grefuse_many_items := ok_no_items Frefuse_many_items T B Grefuse_many
  have Gare_firsts := ok_are_firsts Fare_firsts T Gis_whole_number
  have Gwatches_of := ok_watches_of (P := P) (w := w) (base := base) Fwatches_of T
  have Gfirsts_close := ok_firsts_close Ffirsts_close T Grefuse_many_items Gare_firsts Gwatches_of Gis_held
  exact ok_law F T G_law_deck G_law_draw G_law_watch G_law_great_lot G_law_odd G_law_bent G_law_parted_lot G_law_are_firsts G_law_with G_law_is_closed Gfirsts_close
end DW
open PySem PySem.W PyProof.Rows
set_option maxRecDepth 100000 in
set_option maxHeartbeats 0 in
theorem PySem.Challenge.cw_daywatches_k56_firsts_judged_holds : PySem.Challenge.rw_daywatches_k56_firsts_judged.Holds := by
  w_on; o_law; k_head; (case hw => w_witness2)
  k_fill
  refine DW.walk_go (l := PySem.Challenge.rw_daywatches_k56_firsts_judged) (n := 63) (k := 7) (x := "script") (sp := DW.spLaw) rfl (by decide) rfl ⟨rfl, by decide, by decide⟩ (fun w h Y => PySem.W.kIn_of Y) ?F (fun K H a ns hl hS => ⟨a, ns, rfl, hS, hl, fun _ => rfl⟩)
  case F =>
    intro w mg fa h KX G hmg
    have T : DW.NoB mg := by
      constructor
      all_goals (refine PySem.W.mg_none_of KX G ?_; k_is)
    have B : DW.Bn56 mg := by
      refine ⟨?bq1⟩
      case bq1 => (refine' DW.bnl_of (PySem.W.mg_of KX G ?bqe1) ?bqf1; (case bqe1 => k_is); (case bqf1 => exact ⟨_, rfl⟩))
    refine' DW.all_go hmg T B ?F_law_deck ?F_law_draw ?F_law_one ?F_law_mixed ?F_law_watch ?F_law_grown ?F_law_held_lot ?F_law_great_lot ?F_law_odd ?F_law_bent ?F_law_whole ?F_law_holds ?F_law_tally ?F_law_with ?F_law_is_closed ?F_law_are_firsts ?F_law_parted_lot ?Fis_whole_number ?Frefuse_many ?Ftallies_from ?Fenough_days ?Ffew_tallies ?Fopen_day ?Fis_held ?Frefuse_many_items ?Fare_firsts ?Fwatches_of ?Ffirsts_close ?Flaw
    (case F_law_deck => refine' DW.top_mk KX G (fun _ _ _ _ _ _ us hl => match us, hl with | [_], _ => rfl) ?a ?l ?c ?k; (case a => k_is); (case l => k_is); (case c => k_is); (case k => k_is))
    (case F_law_draw => refine' DW.top_mk KX G (fun _ _ _ _ _ _ us hl => match us, hl with | [_, _], _ => rfl) ?a ?l ?c ?k; (case a => k_is); (case l => k_is); (case c => k_is); (case k => k_is))
    (case F_law_one => refine' DW.top_mk KX G (fun _ _ _ _ _ _ us hl => match us, hl with | [_, _], _ => rfl) ?a ?l ?c ?k; (case a => k_is); (case l => k_is); (case c => k_is); (case k => k_is))
    (case F_law_mixed => refine' DW.top_mk KX G (fun _ _ _ _ _ _ us hl => match us, hl with | [_, _], _ => rfl) ?a ?l ?c ?k; (case a => k_is); (case l => k_is); (case c => k_is); (case k => k_is))
    (case F_law_watch => refine' DW.top_mk KX G (fun _ _ _ _ _ _ us hl => match us, hl with | [_, _], _ => rfl) ?a ?l ?c ?k; (case a => k_is); (case l => k_is); (case c => k_is); (case k => k_is))
    (case F_law_grown => refine' DW.top_mk KX G (fun _ _ _ _ _ _ us hl => match us, hl with | [_, _], _ => rfl) ?a ?l ?c ?k; (case a => k_is); (case l => k_is); (case c => k_is); (case k => k_is))
    (case F_law_held_lot => refine' DW.top_mk KX G (fun _ _ _ _ _ _ us hl => match us, hl with | [_, _], _ => rfl) ?a ?l ?c ?k; (case a => k_is); (case l => k_is); (case c => k_is); (case k => k_is))
    (case F_law_great_lot => refine' DW.top_mk KX G (fun _ _ _ _ _ _ us hl => match us, hl with | [_, _], _ => rfl) ?a ?l ?c ?k; (case a => k_is); (case l => k_is); (case c => k_is); (case k => k_is))
    (case F_law_odd => refine' DW.top_mk KX G (fun _ _ _ _ _ _ us hl => match us, hl with | [_], _ => rfl) ?a ?l ?c ?k; (case a => k_is); (case l => k_is); (case c => k_is); (case k => k_is))
    (case F_law_bent => refine' DW.top_mk KX G (fun _ _ _ _ _ _ us hl => match us, hl with | [_, _, _], _ => rfl) ?a ?l ?c ?k; (case a => k_is); (case l => k_is); (case c => k_is); (case k => k_is))
    (case F_law_whole => refine' DW.top_mk KX G (fun _ _ _ _ _ _ us hl => match us, hl with | [_, _, _], _ => rfl) ?a ?l ?c ?k; (case a => k_is); (case l => k_is); (case c => k_is); (case k => k_is))
    (case F_law_holds => refine' DW.top_mk KX G (fun _ _ _ _ _ _ us hl => match us, hl with | [_, _], _ => rfl) ?a ?l ?c ?k; (case a => k_is); (case l => k_is); (case c => k_is); (case k => k_is))
    (case F_law_tally => refine' DW.top_mk KX G (fun _ _ _ _ _ _ us hl => match us, hl with | [_, _], _ => rfl) ?a ?l ?c ?k; (case a => k_is); (case l => k_is); (case c => k_is); (case k => k_is))
    (case F_law_with => refine' DW.top_mk KX G (fun _ _ _ _ _ _ us hl => match us, hl with | [_, _, _], _ => rfl) ?a ?l ?c ?k; (case a => k_is); (case l => k_is); (case c => k_is); (case k => k_is))
    (case F_law_is_closed => refine' DW.top_mk KX G (fun _ _ _ _ _ _ us hl => match us, hl with | [_], _ => rfl) ?a ?l ?c ?k; (case a => k_is); (case l => k_is); (case c => k_is); (case k => k_is))
    (case F_law_are_firsts => refine' DW.top_mk KX G (fun _ _ _ _ _ _ us hl => match us, hl with | [_, _], _ => rfl) ?a ?l ?c ?k; (case a => k_is); (case l => k_is); (case c => k_is); (case k => k_is))
    (case F_law_parted_lot => refine' DW.top_mk KX G (fun _ _ _ _ _ _ us hl => match us, hl with | [_, _], _ => rfl) ?a ?l ?c ?k; (case a => k_is); (case l => k_is); (case c => k_is); (case k => k_is))
    (case Fis_whole_number => refine' DW.top_mk KX G (fun _ _ _ _ _ _ us hl => match us, hl with | [_], _ => rfl) ?a ?l ?c ?k; (case a => k_is); (case l => k_is); (case c => k_is); (case k => k_is))
    (case Frefuse_many => refine' DW.top_mk KX G (fun _ _ _ _ _ _ us hl => match us, hl with | [_, _], _ => rfl) ?a ?l ?c ?k; (case a => k_is); (case l => k_is); (case c => k_is); (case k => k_is))
    (case Ftallies_from => refine' DW.top_mk KX G (fun _ _ _ _ _ _ us hl => match us, hl with | [_, _, _], _ => rfl) ?a ?l ?c ?k; (case a => k_is); (case l => k_is); (case c => k_is); (case k => k_is))
    (case Fenough_days => refine' DW.top_mk KX G (fun _ _ _ _ _ _ us hl => match us, hl with | [_], _ => rfl) ?a ?l ?c ?k; (case a => k_is); (case l => k_is); (case c => k_is); (case k => k_is))
    (case Ffew_tallies => refine' DW.top_mk KX G (fun _ _ _ _ _ _ us hl => match us, hl with | [_], _ => rfl) ?a ?l ?c ?k; (case a => k_is); (case l => k_is); (case c => k_is); (case k => k_is))
    (case Fopen_day => refine' DW.top_mk KX G (fun _ _ _ _ _ _ us hl => match us, hl with | [_, _], _ => rfl) ?a ?l ?c ?k; (case a => k_is); (case l => k_is); (case c => k_is); (case k => k_is))
    (case Fis_held => refine' DW.top_mk KX G (fun _ _ _ _ _ _ us hl => match us, hl with | [_, _], _ => rfl) ?a ?l ?c ?k; (case a => k_is); (case l => k_is); (case c => k_is); (case k => k_is))
    (case Frefuse_many_items => refine' DW.top_mk KX G (fun _ _ _ _ _ _ us hl => match us, hl with | [_, _], _ => rfl) ?a ?l ?c ?k; (case a => k_is); (case l => k_is); (case c => k_is); (case k => k_is))
    (case Fare_firsts => refine' DW.top_mk KX G (fun _ _ _ _ _ _ us hl => match us, hl with | [_, _], _ => rfl) ?a ?l ?c ?k; (case a => k_is); (case l => k_is); (case c => k_is); (case k => k_is))
    (case Fwatches_of => refine' DW.top_mk KX G (fun _ _ _ _ _ _ us hl => match us, hl with | [_, _], _ => rfl) ?a ?l ?c ?k; (case a => k_is); (case l => k_is); (case c => k_is); (case k => k_is))
    (case Ffirsts_close => refine' DW.top_mk KX G (fun _ _ _ _ _ _ us hl => match us, hl with | [_, _, _], _ => rfl) ?a ?l ?c ?k; (case a => k_is); (case l => k_is); (case c => k_is); (case k => k_is))
    (case Flaw => refine' DW.top_mk KX G (fun _ _ _ _ _ _ us hl => match us, hl with | [_], _ => rfl) ?a ?l ?c ?k; (case a => k_is); (case l => k_is); (case c => k_is); (case k => k_is))
#print axioms PySem.Challenge.cw_daywatches_k56_firsts_judged_holds
