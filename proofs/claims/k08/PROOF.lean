import PyProof.Rows.All
import Wide.All
import OpenK.AllK
import Wide.FinOn
import HandS.ForMost
import HandS.Wide
import HandS.Gcd
import HandS.EndBits
import HandS.IsInst
import HandS.Flow
import HandS.Flt
import HandS.FStrTup
import PySem.Challenge.RW_onecut_k08_arcs
set_option Elab.async false
set_option linter.all false
set_option maxRecDepth 100000
set_option exponentiation.threshold 10000
set_option maxHeartbeats 4000000
/-! Defs that may show data by repr: a promise that is asked only where nothing is being shown. -/
namespace Ob
open PySem PySem.Spec PyProof.Rows L2
structure FnG (P : Program) (w : World) (K : PySem.W.Frag) (mg : Str → Option Value) (base : Heap) (CX : CXT) (k : Nat) (f : Addr) (fd : FuncData) (ps : List Str) (sp : Sp) : Prop where
  ar : ∀ vs H Q E, sp vs H Q E → vs.length = ps.length
  go : ∀ (A : Around) (outer : List Env) (s : Shared) (H : Hp) (args : Args) (us : List Value) (vs : List V) (Q : VK) (E : XK), A.guards = some [] → Room k A → Env0 P w K mg base A outer s H →
    BindsTo s fd args (ps.zip us) → Vals vs us → sp vs H Q E → codeAny (model P w) A (.call (.ref f) args) (CR CX outer P w H s Q E) s
section
variable {P : Program} {w : World} {K : PySem.W.Frag} {mg : Str → Option Value} {base : Heap} {CX : CXT}
theorem FnG.up {j k : Nat} {f : Addr} {fd : FuncData} {ps : List Str} {sp : Sp} (F : FnG P w K mg base CX j f fd ps sp) (h : j ≤ k) : FnG P w K mg base CX k f fd ps sp :=
  ⟨F.ar, fun A o s H args us vs Q E hg hr => F.go A o s H args us vs Q E hg (hr.mono h)⟩
/-- a def of the text by its body -/
theorem Fun_okG {x qual : Str} {st : Stmt} {f : Addr} {fd : FuncData} {N ps : List Str} {k : Nat} {sp : Sp} (F : Fun K x qual st f fd) (S : FnScope N ps (defScope st)) (ar : ∀ vs H Q E, sp vs H Q E → vs.length = ps.length)
    (body : ∀ (c : Value) (A : Around) (outer : List Env) (s : Shared) (H : Hp) (vs : List V) (Q : VK) (E : XK), A.guards = some [] → Room k (A.deeper (envOfC qual (defScope st) s.heap.objs.size f c)) → sp vs H Q E →
      ∃ t, PSs (cxOf CX P w K mg base N qual (defScope st) f c A outer s H E).nox (defBody st) t ∧ t { nx := fun _ J => Q .non J, rt := Q } (start N vs) H) : FnG P w K mg base CX (k + 1) f fd ps sp := by
  obtain ⟨oc, od, kV, doc, pm, an, c, ct, osl, rfl, look, code⟩ := F.ex
  refine ⟨ar, fun A outer s H args us vs Q E hg hr e0 bnd rv hs => ?_⟩
  have count := ar _ _ _ _ hs
  have kept : ∀ b o, base.get? b = some o → s.heap.get? b = some o := fun b o e => (e0.bs b o e).1
  have inK : K.In s.heap := e0.mod.kin.keeps kept
  refine codeAny_call_function hr.depth (inK _ _ look) rfl S.co S.gen rfl (PySem.W.codeRec_of inK code) (bnd _ _ _ _ ?_)
  refine wpAny_newFunctionEnv_cells S.kind (fun y hy => (S.par y.1 (List.of_mem_zip (show (y.1, y.2) ∈ ps.zip us from hy)).1).imp id fun q => ⟨q, PySem.W.cellsFrom_some _ _ _ (.inl q)⟩) fun env he s1 x => ?_
  subst he
  obtain ⟨t, ht, hq⟩ := body c A outer s H vs Q E hg (hr.deeper _) hs
  have I : Inv (cxOf CX P w K mg base N qual (defScope st) f c A outer s H E) [] (start N vs) H s1 := inv_start S hr.hd e0 count rv x
  refine ⟨(e0.mod.nolimit.keeps kept).keeps x.toInCall.keep, codeAny_func (wpAny_mono (ht.nox.run [] s1 (start N vs) H _ I hq) (fun fl s' z => ?_) fun e s' z => z)⟩
  cases fl with
  | next => exact (let ⟨σ', J, I', q⟩ := z; ⟨V.non, J, I'.os, I'.bare, I'.base, I'.hok, rfl, q⟩)
  | ret u => exact (let ⟨v, σ', J, I', r', q⟩ := z; ⟨v, J, I'.os, I'.bare, I'.base, I'.hok, r', q⟩)
  | brk => exact (let ⟨_, _, _, q⟩ := z; False.elim q)
  | cont => exact (let ⟨_, _, _, q⟩ := z; False.elim q)
end
section
variable {X : Cx} {CX : CXT} {k : Nat} {f : Addr} {fd : FuncData} {ps : List Str} {sp : Sp} {ds : List Value} {dvs : List V} {E : XK}
theorem run_g {pins : List (Addr × Obj)} {σ : L2.St} {H : Hp} {s : Shared} {Q : VK} {us : List Value} {vs : List V} (F : FnG X.prog X.w X.K X.mg X.base CX k f fd ps sp) (hg : X.A.guards = some []) (hr : Room k X.A) (hb : Binds X.K fd ps ds) (hd : Vals dvs ds) (hx : Passes CX X E)
    (I : Inv X pins σ H s) (rv : Vals vs us) (hs : sp (vs ++ dvs) H Q E) : wpAny (model X.prog X.w) X.A (call (.ref f) us) (EP X pins σ Q) X.xe s := by
  have all := rv.append hd
  refine wpAny_call (codeAny_mono (F.go X.A X.stack s H ⟨us, []⟩ (us ++ ds) (vs ++ dvs) Q E hg hr I.env0 (hb s us I.kIn (all.length ▸ F.ar _ _ _ _ hs)) all hs) fun r s' z => ?_)
  match r, z with
  | .error e, z => exact hx pins σ H s e s' I z
  | .ok (.ret u), z => exact I.after z
variable {x : Str} {e : Expr} {es : List Expr} {t : TA} {p pos : Pos}
/-- f(e, ..) -/
theorem pe_g (F : FnG X.prog X.w X.K X.mg X.base CX k f fd ps sp) (hg : X.A.guards = some []) (hr : Room k X.A) (gl : Gl X x) (hm : X.mg x = some (.ref f)) (hk : PySem.W.keepIn X.K (.ref f) = true) (hb : Binds X.K fd ps ds) (hd : Vals dvs ds) (hx : Passes CX X E)
    (ha : PA X (e :: es) t) (hdb : (x == ("__debug__" : Str)) = false := by decide) (he : starEach (e :: es) X.env = (false, eval e X.env) :: starEach es X.env := by rfl) (hpl : (backTo pos (starEach es X.env)).any (·.1) = false := by rfl) :
    PE X (.Call (.Name x p) (e :: es) [] pos) (tCall sp dvs E t) :=
  ⟨fun pins s σ H Q I h => wpAny_Call_Name_kw (ld_glob I gl hm (PySem.W.callWith_K (h₀ := X.base) I.ok.mod.kin hk (thn (ha.run pos pins s σ H _ I h) fun us s1 z => let ⟨vs, J, I1, rv, q⟩ := z; ⟨I1.kIn, run_g F hg hr hb hd hx I1 rv q⟩) he hpl) hdb)⟩
end
/-! ### the law's call -/
section
variable {P : Program} {w : World} {K : PySem.W.Frag} {mg mb : Str → Option Value} {CX : CXT} {k : Nat} {fa a : Addr} {fd : FuncData} {x : Str} {sp : Sp} {s₁ : Shared} {vs : List Value} {ns : List Int}
def LawEnd (s₁ : Shared) : Result → Shared → Prop := fun r s' => r = .ok (.ret (.bool true)) ∧ OldK s₁.heap s'.heap ∧ s'.os = s₁.os ∧ AllBare s'.gens
/-- H tracks at most the script, locked -/
theorem law_at (H : Hp) (inK : K.In s₁.heap) (hns : s₁.heap.Ns mainGlobals mg) (hb : s₁.heap.Ns builtinsNs mb) (hbb : ∀ x : Str, x ≠ "__name__" → mb x = bootBuiltins x) (hlim : s₁.heap.NoLimit) (hg : s₁.gens = #[])
    (ha : s₁.heap.get? a = some { cls := .type "list", data := .seq vs.toArray }) (hr : Room k callerA)
    (F : ∀ base : Heap, K.In base → base.Ns mainGlobals mg → FnG P w K mg base CX k fa fd [x] sp) (hbind : ∀ (s : Shared) (u : Value), BindsTo s fd ⟨[u], []⟩ [(x, u)])
    (hs : sp [.ref a] H (fun v _ => v = .bl true) fun _ _ _ => False) (hCX : ∀ e s', CX [] H s₁ (fun _ _ _ => False) e s' → False)
    (hO : Only H) (ok : HOk P w H s₁.heap) (only : ∀ b, H b ≠ none → b = a) (free : H a ≠ none → K.lookup a = none) : codeAny (model P w) callerA (.call (.ref fa) ⟨[.ref a], []⟩) (LawEnd s₁) s₁ := by
  have out : ∀ {b o}, s₁.heap.get? b = some o → ((H b ≠ none → b = a) → H b ≠ none → False) → (hidT s₁.heap H).get? b = some o := fun {b o} e no => hidT_get e (Classical.byContradiction fun n => no (only b) n)
  have names : ∀ {b m}, s₁.heap.Ns b m → (hidT s₁.heap H).Ns b m := fun {b m} z => let ⟨o, es, ep, e, d, r⟩ := z; ⟨o, es, ep, out e (fun g n => by
    obtain rfl := g n
    cases ha.symm.trans e
    cases d), d, r⟩
  have written : K.In (hidT s₁.heap H) := fun b o e => out (inK b o e) fun g n => by
    obtain rfl := g n
    cases (free n).symm.trans e
  have env : Env0 P w K mg (hidT s₁.heap H) callerA [] s₁ H :=
    ⟨rfl, ⟨written, names hns, ⟨mb, names hb, hbb⟩, let ⟨m, p, q⟩ := hlim; ⟨m, names p, q⟩⟩, fun _ _ e => of_hidT e, Nat.le_of_eq (hidT_size _ _), trivial, (fun _ z => absurd z (by simp [frs])), ok, AllBare.of_eq hg⟩
  refine codeAny_mono ((F _ written (names hns)).go callerA [] s₁ H ⟨[.ref a], []⟩ [.ref a] [.ref a] _ _ rfl hr env (hbind s₁ (.ref a)) (.cons rfl .nil) hs) fun r s' z => ?_
  match r, z with
  | .error e, z => exact (hCX e s' z).elim
  | .ok (.ret u), z =>
    obtain ⟨v, J, os, bare, un, ok', rel, rfl⟩ := z
    obtain rfl : u = Value.bool true := rel
    refine ⟨rfl, OldK.of_keep fun b o e => ?_, os, bare⟩
    rcases hO b with n | ⟨ob, xs, n⟩
    · exact un.keep b o e n (fun z => absurd z (by simp [frs])) (by simp)
    · have h1 := (ok b _ n).1
      cases e.symm.trans h1
      exact (ok' b _ (un.frzs b _ _ n)).1
theorem law_g (inK : K.In s₁.heap) (hns : s₁.heap.Ns mainGlobals mg) (hb : s₁.heap.Ns builtinsNs mb) (hbb : ∀ x : Str, x ≠ "__name__" → mb x = bootBuiltins x) (hlim : s₁.heap.NoLimit) (hg : s₁.gens = #[])
    (ha : s₁.heap.get? a = some { cls := .type "list", data := .seq vs.toArray }) (hi : IntsAre vs ns) (hl : ns.length ≤ sizeLine) (hr : Room k callerA)
    (F : ∀ base : Heap, K.In base → base.Ns mainGlobals mg → FnG P w K mg base CX k fa fd [x] sp) (hbind : ∀ (s : Shared) (u : Value), BindsTo s fd ⟨[u], []⟩ [(x, u)])
    (hs : ∀ H : Hp, Only H → SqL K H a (ns.map V.int) → sp [.ref a] H (fun v _ => v = .bl true) fun _ _ _ => False)
    (hCX : ∀ H e s', CX [] H s₁ (fun _ _ _ => False) e s' → False) : codeAny (model P w) callerA (.call (.ref fa) ⟨[.ref a], []⟩) (LawEnd s₁) s₁ := by
  have rv := vals_ints hi
  have many : vs.length = ns.length := by have := hi.length; omega
  have put : ∀ H : Hp, Only H → SqL K H a (ns.map V.int) → HOk P w H s₁.heap → (∀ b, H b ≠ none → b = a) → (H a ≠ none → K.lookup a = none) → codeAny (model P w) callerA (.call (.ref fa) ⟨[.ref a], []⟩) (LawEnd s₁) s₁ :=
    fun H o q ok g f => law_at H inK hns hb hbb hlim hg ha hr F hbind (hs H o q) (hCX H) o ok g f
  cases kl : K.lookup a with
  | some o =>
    cases ha.symm.trans (inK a o kl)
    exact put (fun _ => none) (fun _ => .inl rfl) (.inr ⟨_, vs.toArray, _, kl, rfl, rfl, rfl, by rw [List.size_toArray, many]; exact hl, by simpa using rv⟩) (fun _ _ z => by cases z) (fun _ z => absurd rfl z) fun z => absurd rfl z
  | none =>
    have at_a : ∀ {b : Addr}, b = a → (fun b => if b = a then some (HO.frz { cls := .type "list", data := .seq vs.toArray } (.lst (ns.map V.int))) else none) b = some (HO.frz { cls := .type "list", data := .seq vs.toArray } (.lst (ns.map V.int))) := fun e => if_pos e
    have off_a : ∀ {b : Addr}, b ≠ a → (fun b => if b = a then some (HO.frz { cls := .type "list", data := .seq vs.toArray } (.lst (ns.map V.int))) else none) b = none := fun e => if_neg e
    refine put _ (fun b => ?_) (.inl (.inr ⟨_, at_a rfl⟩)) (fun b u z => ?_) (fun b z => Classical.byContradiction fun n => z (off_a n)) fun _ => kl
    · by_cases e : b = a
      · exact .inr ⟨_, _, at_a e⟩
      · exact .inl (off_a e)
    · by_cases e : b = a
      · cases (at_a e).symm.trans z
        subst e
        exact ⟨ha, by rw [List.length_map]; exact hl, vs, _, rv, ha⟩
      · cases (off_a e).symm.trans z
end
theorem walk_g {l : PySem.W.OpenLaw} {n k : Nat} {q : Program} {loose : List Str} {XP : (Str → Option Value) → Heap → Prop} {YP : World → Heap → Prop} {d : DefRec} {K : Params → PySem.W.Frag} {CX : World → CXT} {sp : World → Sp} {x : Str}
    (hn : l.most = some n) (hn2 : n ≤ sizeLine) (hdf : d.params.defaults = []) (hr : Room k callerA) (hY : ∀ (w : World) (h : Heap), YP w h → (K w.params).In h)
    (F : ∀ (w : World) (mg : Str → Option Value) (fa : Addr) (h : Heap), (K w.params).In h → h.Ns mainGlobals mg → mg d.name = some (.ref fa) → ∃ fd : FuncData, (∀ (s : Shared) (u : Value), BindsTo s fd ⟨[u], []⟩ [(x, u)]) ∧
      ∀ base : Heap, (K w.params).In base → base.Ns mainGlobals mg → FnG l.prog w (K w.params) mg base (CX w) k fa fd [x] (sp w))
    (hs : ∀ (w : World) (H : Hp) (a : Addr) (ns : List Int), ns.length ≤ n → (∀ z ∈ ns, Builtin.Int.intBits z ≤ 1048576) → Only H → SqL (K w.params) H a (ns.map V.int) → sp w [.ref a] H (fun v _ => v = .bl true) fun _ _ _ => False)
    (hCX : ∀ (w : World) (H : Hp) (s : Shared) (e : Value) (s' : Shared), CX w [] H s (fun _ _ _ => False) e s' → False) : PySem.W.WalkO q loose XP YP l.row.toRowW d [] (fun f vs => PySem.call f vs) :=
  Att.attach_callB hn hdf fun w s₀ s₁ mg mb fa o pm cd doc a vs ns G Y ho hd hcd hmg hobj hints hlen hbits hg =>
    let ⟨_, hb, hF⟩ := F w mg fa _ (hY w _ Y) G.T.g hmg
    law_g (hY w _ Y) G.T.g G.T.b G.T.builtins G.T.nolimit hg hobj hints (Nat.le_trans hlen hn2) hr hF hb (fun H o z => hs w H a ns hlen hbits o z) fun H e s' => hCX w H s₁ e s'
end Ob
namespace Ob
open PySem PySem.Spec PyProof.Rows L2
/-! ### repr of data -/
mutual
def sz : PyData → Nat
  | .none => 4
  | .bool _ => 5
  | .int i => i.natAbs.log2 + 2
  | .str _ => 0
  | .list xs => szs xs + 2
  | .tuple xs => szs xs + 2
  | .dict _ => 0
def szs : List PyData → Nat
  | [] => 0
  | x :: xs => sz x + 2 + szs xs
end
mutual
/-- no texts, no dicts; ints below 1,900 bits -/
def sm : PyData → Bool
  | .none => true
  | .bool _ => true
  | .int i => decide (i.natAbs.log2 < 1900)
  | .str _ => false
  | .list xs => sms xs
  | .tuple xs => sms xs
  | .dict _ => false
def sms : List PyData → Bool
  | [] => true
  | x :: xs => sm x && sms xs
end
theorem list_le (ts : List Str) : (listText ts).length ≤ piled ts + 2 := by
  cases ts with
  | nil => decide +kernel
  | cons t r =>
    have h := textFrom_length_pos r 1 (("[" : Str) ++ (if (0 : Nat) > 0 then ", " else "" : String) ++ t) (Nat.succ_pos 0)
    have e : ((("[" : Str) ++ (if (0 : Nat) > 0 then ", " else "" : String) ++ t)).length = 1 + t.length := by rw [strLen_append, strLen_append] <;> rfl
    have e2 : (listText (t :: r)).length = (textFrom 1 (("[" : Str) ++ (if (0 : Nat) > 0 then ", " else "" : String) ++ t) r).length + 1 := strLen_append _ _
    rw [e2, h, e, piled_cons]
    omega
mutual
theorem shown_le : ∀ d : PyData, sm d = true → d.shown.length ≤ sz d ∧ d.showable = true ∧ d.hasDict = false
  | .none, _ => ⟨by decide +kernel, by simp [PyData.showable], by simp [PyData.hasDict]⟩
  | .bool b, _ => ⟨by cases b <;> decide +kernel, by simp [PyData.showable], by simp [PyData.hasDict]⟩
  | .int i, h => by
    have h1 : i.natAbs.log2 < 1900 := by simpa [sm] using h
    refine ⟨?_, by simp [PyData.showable]; omega, by simp [PyData.hasDict]⟩
    have e := int_text_length_le (a := i) (k := i.natAbs.log2 + 1) (by omega) (by omega)
    have e3 : (PyData.int i).shown = Str.ofString (toString i) := by simp only [PyData.shown]
    rw [e3, PySem.ofString_length, sz]
    omega
  | .str _, h => by simp [sm] at h
  | .dict _, h => by simp [sm] at h
  | .list xs, h => by
    have q := showns_le xs (by simpa [sm] using h)
    refine ⟨?_, by simp [PyData.showable, q.2.1], by simp [PyData.hasDict, q.2.2]⟩
    have e := list_le (PyData.shownAll xs)
    simp only [PyData.shown, sz]
    omega
  | .tuple xs, h => by
    have q := showns_le xs (by simpa [sm] using h)
    refine ⟨?_, by simp [PyData.showable, q.2.1], by simp [PyData.hasDict, q.2.2]⟩
    have e := fmt_text (PyData.shownAll xs)
    simp only [PyData.shown, sz]
    omega
theorem showns_le : ∀ xs : List PyData, sms xs = true → piled (PyData.shownAll xs) ≤ szs xs ∧ PyData.showableAll xs = true ∧ PyData.hasDictAll xs = false
  | [], _ => ⟨Nat.zero_le _, by simp [PyData.showableAll], by simp [PyData.hasDictAll]⟩
  | x :: xs, h => by
    have h2 : sm x = true ∧ sms xs = true := by simpa [sms] using h
    have p := shown_le x h2.1
    have q := showns_le xs h2.2
    refine ⟨?_, by simp [PyData.showableAll, p.2.1, q.2.1], by simp [PyData.hasDictAll, p.2.2, q.2.2]⟩
    have e : PyData.shownAll (x :: xs) = x.shown :: PyData.shownAll xs := by simp only [PyData.shownAll]
    rw [e, piled_cons, szs]
    omega
end
def rRepr (K : PySem.W.Frag) : List V → Hp → VK → Prop := fun xs H Q => ∃ (a : Addr) (d : PyData), xs = [.ref a] ∧ Dp K H (.ref a) d ∧ sm d = true ∧ sz d ≤ 1000000 ∧ d.depth ≤ 50 ∧ Q (.str d.shown) H
section
variable {X : Cx}
theorem cr_repr (hg : X.A.guards = some []) (hu : X.A.units + 64 < cLine) : CallR X (.builtin "repr") (rRepr X.K) := by
  intro pins s σ H xs us Q I r h
  obtain ⟨a, d, rfl, hd, hs, hz, hp, q⟩ := h
  obtain ⟨u, rfl, ru⟩ := vals1 r
  cases ru
  obtain ⟨as, rd⟩ := Dp.reads I d _ _ hd rfl
  obtain ⟨h1, h2, h3⟩ := shown_le d hs
  have hk : ∀ b o, s.heap.get? b = some o → s.heap.get? b = some o := fun _ _ e => e
  refine repr_of_reads' rd h2 (PyData.noDict_hsm h3) hg (by omega) hk (fun h' u tk k => ⟨.str _, H, I.kept k, ⟨_, rfl⟩, q⟩) (Nat.le_trans h1 (Nat.le_trans hz (by decide)))
/-- // by any number but 0 below 2 ^ 9000 -/
def CDv (_ j : Int) : Prop := j ≠ 0 ∧ j.natAbs < 2 ^ 9000
theorem op_dv : OpR X (binaryOp .FloorDiv) (rI CDv fun i j => .int (i.fdiv j)) := opI fun _ _ _ _ _ _ _ hc q => floordiv_int hc.1 q (.inl (PyProof.noPylong_of_log2 (PySem.Flt.log2_lt_of (by decide) hc.2)))
end
/-! ### bounds by powers of two -/
def Bd (n : Nat) (x : Int) : Prop := x.natAbs < 2 ^ n
theorem Bd.mono {m n : Nat} {x : Int} (h : Bd m x) (k : m ≤ n) : Bd n x := Nat.lt_of_lt_of_le h (Nat.pow_le_pow_right (by decide) k)
theorem Bd.mul {m n : Nat} {x y : Int} (h : Bd m x) (k : Bd n y) : Bd (m + n) (x * y) := wide_lt h k
theorem Bd.neg {n : Nat} {x : Int} (h : Bd n x) : Bd n (-x) := by unfold Bd; rw [Int.natAbs_neg]; exact h
theorem Bd.of_neg {n : Nat} {x : Int} (h : Bd n (-x)) : Bd n x := by unfold Bd at h; rw [Int.natAbs_neg] at h; exact h
theorem Bd.add {n : Nat} {x y : Int} (h : Bd n x) (k : Bd n y) : Bd (n + 1) (x + y) := by
  unfold Bd at *
  have e : 2 ^ (n + 1) = 2 ^ n + 2 ^ n := by rw [Nat.pow_succ]; omega
  have := Int.natAbs_add_le x y
  omega
theorem Bd.sub {n : Nat} {x y : Int} (h : Bd n x) (k : Bd n y) : Bd (n + 1) (x - y) := by
  have q := h.add k.neg
  rwa [← Int.sub_eq_add_neg] at q
theorem Bd.log {n : Nat} {x : Int} (h : Bd n x) (h0 : 0 < n := by decide) : x.natAbs.log2 < n := PySem.Flt.log2_lt_of h0 h
theorem Bd.le {n : Nat} {x y : Int} (h : Bd n y) (k : x.natAbs ≤ y.natAbs) : Bd n x := Nat.lt_of_le_of_lt k h
theorem Bd.lit {n : Nat} {x : Int} (h : decide (x.natAbs < 2 ^ n) = true) : Bd n x := by unfold Bd; exact of_decide_eq_true h
theorem Bd.cmul {m n : Nat} {x y : Int} (h : Bd m x) (k : Bd n y) (h0 : 0 < m := by decide) (h1 : 0 < n := by decide) (hs : m + n ≤ 1000000 := by decide) : CMulW x y := wide_mul h k h0 h1 hs
end Ob
namespace Ob
open PySem PySem.Spec PyProof.Rows L2
/-! ### readings, one step each -/
def rLen (K : PySem.W.Frag) : List V → Hp → VK → Prop := fun xs H Q => ∃ p ys, xs = [.ref p] ∧ (SqL K H p ys ∨ SqT K H p ys) ∧ Q (.int ys.length) H
section
variable {K : PySem.W.Frag} {σ : L2.St} {H : Hp} {D : Ends} {te ta tb : TE} {tt uu : TT} {tr : TA} {tl : TA} {Q : VK} {R : Bool → Hp → Prop} {T : List V → Hp → Prop} {v : V} {s1 s2 : TS}
theorem rd_var {i : Nat} (h : σ[i]? = some (some v)) (q : Q v H) : tVar i σ H Q := ⟨v, h, q⟩
theorem rd_c (q : Q v H) : tC v σ H Q := q
theorem rd_nil (q : T [] H) : tNil σ H T := q
theorem rd_cons (q : ta σ H fun x H1 => tl σ H1 fun xs H2 => T (x :: xs) H2) : tCons ta tl σ H T := q
theorem rd_op {r : R2} (q : ta σ H fun x H1 => tb σ H1 fun y H2 => r x y H2 Q) : tOp r ta tb σ H Q := q
theorem rd_un {r : V → Hp → VK → Prop} (q : ta σ H fun x H1 => r x H1 Q) : tUn r ta σ H Q := q
theorem rd_I0 {g : Int → Int → V} {i j : Int} (q : Q (g i j) H) : rI0 g (.int i) (.int j) H Q := ⟨i, j, rfl, rfl, q⟩
theorem rd_I {C : Int → Int → Prop} {g : Int → Int → V} {i j : Int} (c : C i j) (q : Q (g i j) H) : rI C g (.int i) (.int j) H Q := ⟨i, j, rfl, rfl, c, q⟩
theorem rd_U {g : Int → V} {i : Int} (q : Q (g i) H) : rU g (.int i) H Q := ⟨i, rfl, q⟩
theorem rd_eq {x y : V} (h : scal x y = true) (q : Q (.bl (decide (x = y))) H) : rEq x y H Q := ⟨h, q⟩
theorem rd_ne {x y : V} (h : scal x y = true) (q : Q (.bl (!decide (x = y))) H) : rNe x y H Q := ⟨h, q⟩
theorem rd_eqI {i j : Int} (q : Q (.bl (decide (i = j))) H) : rEq (.int i) (.int j) H Q := ⟨rfl, by
  have e : decide (V.int i = V.int j) = decide (i = j) := by
    by_cases h : i = j
    · rw [decide_eq_true h, decide_eq_true (by rw [h])]
    · rw [decide_eq_false h, decide_eq_false fun z => h (V.int.inj z)]
  rw [e]
  exact q⟩
theorem rd_neI {i j : Int} (q : Q (.bl (!decide (i = j))) H) : rNe (.int i) (.int j) H Q := ⟨rfl, by
  have e : decide (V.int i = V.int j) = decide (i = j) := by
    by_cases h : i = j
    · rw [decide_eq_true h, decide_eq_true (by rw [h])]
    · rw [decide_eq_false h, decide_eq_false fun z => h (V.int.inj z)]
  rw [e]
  exact q⟩
theorem rd_same {x : V} (h : scal x x = true) (q : Q (.bl true) H) : rEq x x H Q := ⟨h, by rw [decide_eq_true rfl]; exact q⟩
theorem rd_nsame {x : V} (h : scal x x = true) (q : Q (.bl false) H) : rNe x x H Q := ⟨h, by rw [decide_eq_true rfl]; exact q⟩
theorem rd_test (q : te σ H fun x H' => ∃ k, x = .bl k ∧ R k H') : tTest te σ H R := q
theorem rd_B (q : te σ H fun x H' => ∃ k, x = .bl k ∧ R k H') : tB te σ H R := q
theorem rd_bl {c : Bool} {R : Bool → Prop} (q : R c) : ∃ k, V.bl c = V.bl k ∧ R k := ⟨c, rfl, q⟩
theorem rd_not (q : tt σ H fun c H1 => R (!c) H1) : tNot tt σ H R := q
theorem rd_and (q : tt σ H fun c H1 => if c = true then uu σ H1 R else R false H1) : tAnd tt uu σ H R := q
theorem rd_or (q : tt σ H fun c H1 => if c = true then R true H1 else uu σ H1 R) : tOr tt uu σ H R := q
theorem rd_andV (q : ta σ H fun x H1 => ∃ c, x = .bl c ∧ if c = true then tb σ H1 Q else Q (.bl false) H1) : tAndV ta tb σ H Q := q
theorem rd_orV (q : ta σ H fun x H1 => ∃ c, x = .bl c ∧ if c = true then Q (.bl true) H1 else tb σ H1 Q) : tOrV ta tb σ H Q := q
theorem rd_notV (q : ta σ H fun x H1 => ∃ c, x = .bl c ∧ Q (.bl (!c)) H1) : tNotV ta σ H Q := q
theorem rd_ifE (q : tt σ H fun c H1 => if c = true then ta σ H1 Q else tb σ H1 Q) : tIf tt ta tb σ H Q := q
theorem rd_tup (q : tl σ H fun xs H1 => xs.length ≤ sizeLine ∧ ∀ p, H1 p = none → Q (.ref p) (upd H1 p (.tup xs))) : tTup tl σ H Q := q
theorem rd_lst (q : tl σ H fun xs H1 => xs.length ≤ sizeLine ∧ ∀ p, H1 p = none → Q (.ref p) (upd H1 p (.lst xs))) : tLst tl σ H Q := q
theorem rd_new {xs : List V} {A : Prop} (h : Nat.ble xs.length 1000 = true) (q : A) : xs.length ≤ sizeLine ∧ A := ⟨Nat.le_of_lt (small1000 (Nat.le_of_ble_eq_true h)), q⟩
def kT (Q : VK) (xs : List V) (H : Hp) : Prop := xs.length ≤ sizeLine ∧ ∀ p, H p = none → Q (.ref p) (upd H p (.tup xs))
def kL (Q : VK) (xs : List V) (H : Hp) : Prop := xs.length ≤ sizeLine ∧ ∀ p, H p = none → Q (.ref p) (upd H p (.lst xs))
theorem rd_tupK (q : tl σ H fun xs H1 => kT Q xs H1) : tTup tl σ H Q := q
theorem rd_lstK (q : tl σ H fun xs H1 => kL Q xs H1) : tLst tl σ H Q := q
theorem rd_kT {xs : List V} (h : Nat.ble xs.length 1000 = true) (q : ∀ p J, H p = none → Same H J → J p = some (.tup xs) → Q (.ref p) J) : kT Q xs H :=
  ⟨Nat.le_of_lt (small1000 (Nat.le_of_ble_eq_true h)), fun p np => q p _ np (fun a u e => by rw [upd_ne (ne_of_none e np)]; exact e) upd_same⟩
theorem rd_kL {xs : List V} (h : Nat.ble xs.length 1000 = true) (q : ∀ p J, H p = none → Same H J → J p = some (.lst xs) → Q (.ref p) J) : kL Q xs H :=
  ⟨Nat.le_of_lt (small1000 (Nat.le_of_ble_eq_true h)), fun p np => q p _ np (fun a u e => by rw [upd_ne (ne_of_none e np)]; exact e) upd_same⟩
theorem rd_call {sp : Sp} {dvs : List V} {E : XK} (q : tl σ H fun vs H1 => sp (vs ++ dvs) H1 Q E) : tCall sp dvs E tl σ H Q := q
theorem rd_CB {r : List V → Hp → VK → Prop} (q : tl σ H fun vs H1 => r vs H1 Q) : tCB r tl σ H Q := q
theorem rd_one {i : Int} {R : Int → Prop} (q : R i) : ∃ j, [V.int i] = [V.int j] ∧ R j := ⟨i, rfl, q⟩
theorem rd_two {i j : Int} {R : Int → Int → Prop} (q : R i j) : ∃ k l, [V.int i, V.int j] = [V.int k, V.int l] ∧ R k l := ⟨i, j, rfl, q⟩
theorem rd_int {i : Int} {R : Int → Prop} {S : Bool → Prop} (q : R i) : (∃ j, [V.int i] = [V.int j] ∧ R j) ∨ ∃ k, [V.int i] = [V.bl k] ∧ S k := .inl ⟨i, rfl, q⟩
theorem rd_intB {b : Bool} {R : Int → Prop} {S : Bool → Prop} (q : S b) : (∃ j, [V.bl b] = [V.int j] ∧ R j) ∨ ∃ k, [V.bl b] = [V.bl k] ∧ S k := .inr ⟨b, rfl, q⟩
theorem rd_ixL {p : Addr} {xs : List V} {i : Int} (h : SqL K H p xs) (ha : atI xs i = some v) (q : Q v H) : rIxL K (.ref p) (.int i) H Q := ⟨p, xs, i, v, rfl, rfl, h, ha, q⟩
theorem rd_ixT {p : Addr} {xs : List V} {i : Int} (h : SqT K H p xs) (ha : atI xs i = some v) (q : Q v H) : rIxT K (.ref p) (.int i) H Q := ⟨p, xs, i, v, rfl, rfl, h, ha, q⟩
theorem rd_sxL {p : Addr} {xs : List V} {i : Int} (h : SqL K H p xs) (ha : atI xs i = some v) (q : Q v H) : rIx K (.ref p) (.int i) H Q := .inl ⟨p, xs, i, v, rfl, rfl, h, ha, q⟩
theorem rd_sxT {p : Addr} {xs : List V} {i : Int} (h : SqT K H p xs) (ha : atI xs i = some v) (q : Q v H) : rIx K (.ref p) (.int i) H Q := .inr (.inl ⟨p, xs, i, v, rfl, rfl, h, ha, q⟩)
theorem fmod_rng {x n : Int} (h : 0 < n) : 0 ≤ x.fmod n ∧ x.fmod n < n := by
  rw [Int.fmod_eq_emod_of_nonneg x (by omega)]
  exact ⟨Int.emod_nonneg x (by omega), Int.emod_lt_of_pos x h⟩
/-- a rest of which only the bounds matter -/
theorem rd_md {i j : Int} (c : 0 < j) (q : ∀ r, 0 ≤ r → r < j → Q (.int r) H) : rI (fun _ j => j ≠ 0) (fun i j => V.int (i.fmod j)) (.int i) (.int j) H Q :=
  ⟨i, j, rfl, rfl, by omega, q _ (fmod_rng c).1 (fmod_rng c).2⟩
def Lp (J : It) (g : TG) (tb : TS) (D : Ends) (σ : L2.St) (H : Hp) : Prop := ∃ W : Nat → Nat → L2.St → Hp → Prop, (∃ m, W 0 m σ H) ∧ ∀ i m σ H, W i m σ H →
  (J.stop i H ∧ D.nx σ H) ∨ (J.go i H ∧ ∃ N : L2.St → Hp → Prop, (∀ σ' H', N σ' H' → ∃ m', m' < m ∧ W (i + 1) m' σ' H') ∧ ∀ x H', J.yld i H x H' → g x σ H' fun σ2 H2 => tb { D with nx := N, ct := N, bk := D.nx } σ2 H2)
theorem rd_for1 {ta : TA} {g : TG} {tb : TS} (q : ta σ H fun vs H1 => ∃ j : Int, vs = [.int j] ∧ -(2 ^ 62) ≤ j ∧ j < 2 ^ 62 ∧ Lp (Itr 0 j.toNat) g tb D σ H1) : tFor (iRng1 ta) g tb D σ H := q
theorem rd_for1b {j : Int} {R : Int → Prop} (h : -(2 ^ 62) ≤ j ∧ j < 2 ^ 62) (q : R j) : ∃ k : Int, [V.int j] = [V.int k] ∧ -(2 ^ 62) ≤ k ∧ k < 2 ^ 62 ∧ R k := ⟨j, rfl, h.1, h.2, q⟩
theorem lp_rng {lo : Int} {n : Nat} {g : TG} {tb : TS} (Pv : Nat → L2.St → Hp → Prop) (h0 : Pv 0 σ H) (hs : ∀ i σ H, i < n → Pv i σ H → g (.int (lo + i)) σ H fun σ2 H2 => tb { D with nx := Pv (i + 1), ct := Pv (i + 1), bk := D.nx } σ2 H2)
    (hd : ∀ σ H, Pv n σ H → D.nx σ H) : Lp (Itr lo n) g tb D σ H := for_range Pv h0 hs hd
theorem rd_len {a : Addr} {ys : List V} (h : SqL K H a ys) (q : Q (.int ys.length) H) : rLen K [.ref a] H Q := ⟨a, ys, rfl, .inl h, q⟩
theorem rd_lenTu {a : Addr} {ys : List V} (h : SqT K H a ys) (q : Q (.int ys.length) H) : rLen K [.ref a] H Q := ⟨a, ys, rfl, .inr h, q⟩
theorem rd_lenL {a : Addr} {ys : List V} {R : List V → Prop} (h : SqL K H a ys) (q : R ys) : ∃ p zs, [V.ref a] = [V.ref p] ∧ (SqL K H p zs ∨ SqT K H p zs) ∧ R zs := ⟨a, ys, rfl, .inl h, q⟩
theorem rd_lenT {a : Addr} {ys : List V} {R : List V → Prop} (h : SqT K H a ys) (q : R ys) : ∃ p zs, [V.ref a] = [V.ref p] ∧ (SqL K H p zs ∨ SqT K H p zs) ∧ R zs := ⟨a, ys, rfl, .inr h, q⟩
theorem rd_repr {a : Addr} {d : PyData} (h : Dp K H (.ref a) d) (h1 : sm d = true) (h2 : sz d ≤ 1000000) (h3 : d.depth ≤ 50) (q : Q (.str d.shown) H) : rRepr K [.ref a] H Q := ⟨a, d, rfl, h, h1, h2, h3, q⟩
theorem rd_gtup {a : Addr} {xs : List V} {n : Nat} {t : TGs} {F : L2.St → Hp → Prop} (h : SqT K H a xs) (hn : xs.length = n) (q : t xs σ H F) : gTup K n t (.ref a) σ H F := ⟨a, xs, rfl, h, hn, q⟩
theorem rd_gcons {t : TG} {u : TGs} {w : V} {r : List V} {F : L2.St → Hp → Prop} (q : t w σ H fun σ' H' => u r σ' H' F) : gCons t u (w :: r) σ H F := ⟨w, r, rfl, q⟩
theorem rd_gnil {F : L2.St → Hp → Prop} (q : F σ H) : gNil [] σ H F := ⟨rfl, q⟩
theorem rd_isi {x : V} {n t : String} {b : Bool} (ty : TyX K H x (.type t)) (h : kitB t n = some b) (q : Q (.bl b) H) : rIsi K [x, .ty n] H Q := ⟨x, .ty n, _, _, b, rfl, .ty n, ty, kit_ty h, q⟩
theorem rd_isiI {i : Int} {n : String} {b : Bool} (h : kitB "int" n = some b) (q : Q (.bl b) H) : rIsi K [.int i, .ty n] H Q := rd_isi (.base (.int i)) h q
theorem rd_isiB {i : Bool} {n : String} {b : Bool} (h : kitB "bool" n = some b) (q : Q (.bl b) H) : rIsi K [.bl i, .ty n] H Q := rd_isi (.base (.bl i)) h q
theorem rd_isiN {n : String} {b : Bool} (h : kitB "NoneType" n = some b) (q : Q (.bl b) H) : rIsi K [.non, .ty n] H Q := rd_isi (.base .non) h q
theorem rd_isiS {i : Str} {n : String} {b : Bool} (h : kitB "str" n = some b) (q : Q (.bl b) H) : rIsi K [.str i, .ty n] H Q := rd_isi (.base (.str i)) h q
theorem rd_isiT {a : Addr} {xs : List V} {n : String} {b : Bool} (e : H a = some (.tup xs)) (h : kitB "tuple" n = some b) (q : Q (.bl b) H) : rIsi K [.ref a, .ty n] H Q := rd_isi (.base (.tup e)) h q
theorem rd_isiL {a : Addr} {xs : List V} {n : String} {b : Bool} (e : H a = some (.lst xs)) (h : kitB "list" n = some b) (q : Q (.bl b) H) : rIsi K [.ref a, .ty n] H Q := rd_isi (.base (.lst e)) h q
theorem rd_chain {r r' : R2} {tc : TE} (q : ta σ H fun x H1 => tb σ H1 fun y H2 => r x y H2 fun z H3 => ∃ k, z = .bl k ∧ if k = true then tc σ H3 fun w H4 => r' y w H4 Q else Q (.bl false) H3) : tChain r r' ta tb tc σ H Q := q
theorem rd_eqDs {x y : V} {d : PyData} (h : Dp K H x d) (k : Dp K H y d) (s : SeqAt.shaped d = true) (q : Q (.bl true) H) : rEqD K x y H Q := ⟨d, d, h, k, s, s, by rw [SeqAt.eqv_refl d (SeqAt.canLay_of_shaped s)]; exact q⟩
theorem rd_neDs {x y : V} {d : PyData} (h : Dp K H x d) (k : Dp K H y d) (s : SeqAt.shaped d = true) (q : Q (.bl false) H) : rNeD K x y H Q := ⟨d, d, h, k, s, s, by rw [SeqAt.eqv_refl d (SeqAt.canLay_of_shaped s)]; exact q⟩
theorem rd_cat {l b : Addr} {xs zs : List V} (h : H l = some (.lst xs)) (k : H b = some (.lst zs)) (hz : xs.length + zs.length ≤ 1000) (q : ∀ p, H p = none → Q (.ref p) (upd H p (.lst (xs ++ zs)))) : rCat (.ref l) (.ref b) H Q :=
  ⟨l, b, xs, zs, rfl, rfl, h, k, Nat.le_of_lt (small1000 hz), q⟩
theorem rd_rep {l : Addr} {k : Int} {xs ys : List V} (h : H l = some (.lst xs)) (h0 : 0 ≤ k ∧ k ≤ 1000) (hz : xs.length * k.toNat ≤ 1000) (e : (List.replicate k.toNat xs).flatten = ys) (q : ∀ p, H p = none → Q (.ref p) (upd H p (.lst ys))) : rRep (.ref l) (.int k) H Q := by
  subst e
  exact ⟨l, k, xs, rfl, rfl, h, by omega, by omega, Nat.le_of_lt (small1000 hz), q⟩
theorem rd_append {T : String} {l : Addr} {xs : List V} (h : H l = some (.lst xs)) (q : tl σ H fun vs H1 => rAppend (.ref l) vs H1 Q) : (fun (x : V) (H1 : Hp) => tyV K "list" x H1 ∧ tl σ H1 fun vs H2 => rAppend x vs H2 Q) (.ref l) H := ⟨.inl ⟨rfl, _, SqL.of h⟩, q⟩
theorem rd_BM {T : String} {r : V → List V → Hp → VK → Prop} (q : te σ H fun x H1 => tyV K T x H1 ∧ tl σ H1 fun vs H2 => r x vs H2 Q) : tBM K T r te tl σ H Q := q
theorem rd_tyl {l : Addr} {xs : List V} {A : Prop} (h : H l = some (.lst xs)) (q : A) : tyV K "list" (.ref l) H ∧ A := ⟨.inl ⟨rfl, _, SqL.of h⟩, q⟩
theorem rd_app {l : Addr} {y : V} {xs : List V} (h : H l = some (.lst xs)) (hz : xs.length ≤ 1000) (q : Q .non (upd H l (.lst (xs ++ [y])))) : rAppend (.ref l) [y] H Q := ⟨l, xs, y, rfl, rfl, h, small1000 hz, q⟩
/-- what a comprehension's loop is to reach -/
def Lc (J : It) (g : TG) (tt : TT) (te : TE) (vs : List Nat) (σ : L2.St) (Qd : Hp → Prop) (H1 : Hp) (D : Addr) : Prop := ∃ W : Nat → Nat → Hp → Prop, (∃ m, W 0 m (upd H1 D (.lst []))) ∧ ∀ i m H, W i m H →
  (J.stop i H ∧ Qd H) ∨ (J.go i H ∧ ∃ Nx : Hp → Prop, (∀ H', Nx H' → ∃ m', m' < m ∧ W (i + 1) m' H') ∧ ∀ x H', J.yld i H x H' → g x (wipe σ vs) H' fun σ2 H2 => wipe σ2 vs = wipe σ vs ∧ tt σ2 H2 fun b H3 =>
    if b = true then te σ2 H3 fun y H4 => ∃ acc, H4 D = some (.lst acc) ∧ acc.length < sizeLine ∧ Nx (upd H4 D (.lst (acc ++ [y]))) else Nx H3)
theorem rd_lc {wi : TI} {g : TG} {vs : List Nat} (q : wi σ H fun J H1 => ∀ D, H1 D = none → Lc J g tt te vs σ (fun H' => Q (.ref D) H') H1 D) : tLc wi g tt te vs σ H Q := q
theorem rd_iTup {R : It → Hp → Prop} (q : te σ H fun x H1 => ∃ a, x = .ref a ∧ (∃ xs, SqT K H1 a xs) ∧ R (Itt K a) H1) : iTup K te σ H R := q
theorem rd_iTupA {a : Addr} {xs : List V} {R : Addr → Prop} (h : SqT K H a xs) (q : R a) : ∃ p, V.ref a = .ref p ∧ (∃ xs, SqT K H p xs) ∧ R p := ⟨a, rfl, ⟨xs, h⟩, q⟩
theorem rd_iLst {R : It → Hp → Prop} (q : te σ H fun x H1 => ∃ a, x = .ref a ∧ (∃ xs, SqL K H1 a xs) ∧ R (Itl K a) H1) : iList K te σ H R := q
theorem rd_iLstA {a : Addr} {xs : List V} {R : Addr → Prop} (h : SqL K H a xs) (q : R a) : ∃ p, V.ref a = .ref p ∧ (∃ xs, SqL K H p xs) ∧ R p := ⟨a, rfl, ⟨xs, h⟩, q⟩
theorem rd_iR1 {ta : TA} {R : It → Hp → Prop} (q : ta σ H fun vs H1 => ∃ j : Int, vs = [.int j] ∧ -(2 ^ 62) ≤ j ∧ j < 2 ^ 62 ∧ R (Itr 0 j.toNat) H1) : iRng1 ta σ H R := q
theorem upd_upd {D : Addr} {x y : HO} : upd (upd H D x) D y = upd H D y := by
  funext b
  unfold upd
  split <;> rfl
/-- [f(x) for x in t], t a tuple, f's heap as it was -/
theorem lc_mapT {a D : Addr} {xs : List V} (f : V → V) {i0 : Nat} {Qd : Hp → Prop} (hT : H a = some (.tup xs)) (hl : xs.length ≤ 1000) (hD : H D = none)
    (he : ∀ x, x ∈ xs → ∀ (l : List V) (R : VK), R (f x) (upd H D (.lst l)) → te ((σ.set i0 none).set i0 (some x)) (upd H D (.lst l)) R) (hd : Qd (upd H D (.lst (xs.map f)))) : Lc (Itt K a) (gName i0) tYes te [i0] σ Qd H D := by
  have ne : a ≠ D := ne_of_none hT hD
  refine lc_tup (xs := xs) (fun i J => i ≤ xs.length ∧ J = upd H D (.lst ((xs.take i).map f))) ⟨Nat.zero_le _, by rw [List.take_zero]; rfl⟩ (fun i J _ w => by
    rw [w.2]
    exact SqT.of (by rw [upd_ne ne]; exact hT)) (fun i x J hx w => ?_) fun J w => ?_
  · obtain ⟨hi, rfl⟩ := w
    have lt : i < xs.length := (List.getElem?_eq_some_iff.mp hx).1
    refine ⟨?_, ?_⟩
    · show ((σ.set i0 none).set i0 (some x)).set i0 none = σ.set i0 none
      rw [List.set_set, List.set_set]
    · show te _ _ _
      refine he x (List.mem_of_getElem? hx) _ _ ⟨_, upd_same, ?_, ?_, ?_⟩
      · rw [List.length_map, List.length_take]
        exact small1000 (by omega)
      · omega
      · rw [upd_upd]
        have e : (xs.take (i + 1)).map f = (xs.take i).map f ++ [f x] := by rw [List.take_add_one, hx, List.map_append]; rfl
        rw [e]
  · rw [List.take_length] at w
    rw [w.2]
    exact hd
/-- [f for _ in range(n)] -/
theorem lc_mapR {D : Addr} {n : Nat} (f : Nat → V) {i0 : Nat} {Qd : Hp → Prop} (hl : n ≤ 1000) (hD : H D = none)
    (he : ∀ i, i < n → ∀ (l : List V) (R : VK), R (f i) (upd H D (.lst l)) → te ((σ.set i0 none).set i0 (some (.int (0 + (i : Int))))) (upd H D (.lst l)) R) (hd : Qd (upd H D (.lst ((List.range n).map f)))) : Lc (Itr 0 n) (gName i0) tYes te [i0] σ Qd H D := by
  refine lc_range (fun i J => J = upd H D (.lst ((List.range i).map f))) rfl (fun i J hi w => ?_) fun J w => ?_
  · subst w
    refine ⟨?_, ?_⟩
    · show ((σ.set i0 none).set i0 _).set i0 none = σ.set i0 none
      rw [List.set_set, List.set_set]
    · show te _ _ _
      refine he i hi _ _ ⟨_, upd_same, ?_, ?_⟩
      · rw [List.length_map, List.length_range]
        exact small1000 (by omega)
      · rw [upd_upd, List.range_succ, List.map_append]
        rfl
  · subst w
    exact hd
theorem rd_all {a : Addr} {bs : List Bool} (h : SqL K H a (bs.map V.bl)) (q : Q (.bl (bs.all id)) H) : rAll K [.ref a] H Q := ⟨a, bs, rfl, h, q⟩
theorem rd_any {a : Addr} {bs : List Bool} (h : SqL K H a (bs.map V.bl)) (q : Q (.bl (bs.any id)) H) : rAny K [.ref a] H Q := ⟨a, bs, rfl, h, q⟩
theorem rd_gcd {i j : Int} (q : Q (.int ((Nat.gcd i.natAbs j.natAbs : Nat) : Int)) H) : rGcd [.int i, .int j] H Q := ⟨i, j, rfl, q⟩
theorem rd_seq (q : s1 { D with nx := s2 D } σ H) : tSeq s1 s2 D σ H := q
theorem rd_next (q : D.nx σ H) : tNext D σ H := q
theorem rd_ret (q : te σ H D.rt) : tRet te D σ H := q
theorem rd_drop (q : te σ H fun _ H1 => D.nx σ H1) : tDrop te D σ H := q
theorem rd_asg {g : TG} (q : te σ H fun x H1 => g x σ H1 D.nx) : tAsg te g D σ H := q
theorem rd_name {i : Nat} {F : L2.St → Hp → Prop} {τ : L2.St} (e : σ.set i (some v) = τ) (q : F τ H) : gName i v σ H F := by subst e; exact q
theorem rd_sub {to ti : TE} {t : TSet} {F : L2.St → Hp → Prop} (q : to σ H fun o H1 => ti σ H1 fun i H2 => t o i v H2 fun H3 => F σ H3) : gSub to ti t v σ H F := q
theorem rd_setL {p : Addr} {xs ys : List V} {k : Int} {j : Nat} {F : Hp → Prop} (h : H p = some (.lst xs)) (hj : ixN xs.length k = some j) (e : xs.set j v = ys) (q : F (upd H p (.lst ys))) : rSetL (.ref p) (.int k) v H F := by
  subst e
  exact ⟨p, xs, k, j, rfl, rfl, h, hj, q⟩
theorem rd_ifS (q : tt σ H fun b H1 => if b = true then s1 D σ H1 else s2 D σ H1) : tIfS tt s1 s2 D σ H := q
theorem rd_par {i j : Nat} {x y : V} {τ : L2.St} (e : (σ.set i (some x)).set j (some y) = τ) (q : D.nx τ H) : ∃ v w, [x, y] = [v, w] ∧ D.nx ((σ.set i (some v)).set j (some w)) H := by
  subst e
  exact ⟨x, y, rfl, q⟩
theorem rd_tpar {i j : Nat} (q : tl σ H fun vs H1 => ∃ v w, vs = [v, w] ∧ D.nx ((σ.set i (some v)).set j (some w)) H1) : tPar i j tl D σ H := q
theorem rd_if {P : Prop} [Decidable P] {A B : Prop} (h1 : P → A) (h2 : ¬ P → B) : if decide P = true then A else B := ite2 (fun c => h1 (of_decide_eq_true c)) fun c => h2 fun z => c (decide_eq_true z)
theorem rd_ifn {P : Prop} [Decidable P] {A B : Prop} (h1 : ¬ P → A) (h2 : P → B) : if (!decide P) = true then A else B :=
  ite2 (fun c => h1 (by simpa using c)) fun c => h2 (by simpa using c)
theorem rd_mulok {i j : Int} (h : (-(2 ^ 64) < i ∧ i < 2 ^ 64) ∨ (-(2 ^ 64) < j ∧ j < 2 ^ 64)) : IntMulOk i j := CMul.ok h
theorem rd_mulB {m n : Nat} {i j : Int} (h : Bd m i) (k : Bd n j) (h0 : 0 < m := by decide) (h1 : 0 < n := by decide) (hs : m + n ≤ 1000000 := by decide) : IntMulOk i j := (h.cmul k h0 h1 hs).ok
theorem rd_dvI {j : Int} (i : Int) (h : j ≠ 0) (k : j.natAbs < 2 ^ 400) : CDv i j := ⟨h, Nat.lt_of_lt_of_le k (Nat.pow_le_pow_right (by decide) (by decide))⟩
theorem rd_dvB {n : Nat} {j : Int} (i : Int) (h : j ≠ 0) (k : Bd n j) (hn : n ≤ 9000 := by decide) : CDv i j := ⟨h, k.mono hn⟩
end
section
variable {X : Cx}
theorem op_ml : OpR X (binaryOp .Mult) (rI IntMulOk fun i j => .int (i * j)) := opI fun _ _ _ _ _ _ _ hc q => mul_int q hc
end
structure Cal (P : Program) (w : World) (K : PySem.W.Frag) (mg : Str → Option Value) (base : Heap) (x : Str) (k : Nat) (f : Addr) (fd : FuncData) (ps : List Str) (sp : Sp) : Prop where
  g : FnG P w K mg base CX0 k f fd ps sp
  b : Binds K fd ps []
  kp : PySem.W.keepIn K (.ref f) = true
  m : mg x = some (.ref f)
theorem pe_c {X : Cx} {k : Nat} {f : Addr} {fd : FuncData} {ps : List Str} {sp : Sp} {x : Str} {e : Expr} {es : List Expr} {t : TA} {p pos : Pos} (C : Cal X.prog X.w X.K X.mg X.base x k f fd ps sp) (hg : X.A.guards = some []) (hr : Room k X.A) (gl : Gl X x)
    (ha : PA X (e :: es) t) (hdb : (x == ("__debug__" : Str)) = false := by decide) (he : starEach (e :: es) X.env = (false, eval e X.env) :: starEach es X.env := by rfl) (hpl : (backTo pos (starEach es X.env)).any (·.1) = false := by rfl) :
    PE X (.Call (.Name x p) (e :: es) [] pos) (tCall sp [] E0 t) := pe_g C.g hg hr gl C.m C.kp C.b .nil pass0 ha hdb he hpl
theorem room_u {k : Nat} {A : Around} (h : Room k A) : A.units + 64 < cLine := h.units
section
variable {X : Cx} {K : PySem.W.Frag}
theorem ixK (h : X.K = K) : IxR X (rIx K) := h ▸ ix_seq
theorem lenK (h : X.K = K) : CallR X (.builtin "len") (rLen K) := h ▸ call_len_seq
theorem isiK (h : X.K = K) : CallR X (.builtin "isinstance") (rIsi K) := h ▸ call_isi
theorem reprK (h : X.K = K) (hg : X.A.guards = some []) (hu : X.A.units + 64 < cLine) : CallR X (.builtin "repr") (rRepr K) := h ▸ cr_repr hg hu
theorem allK (h : X.K = K) (hc : X.calm = true) : CallR X (.builtin "all") (rAll K) := h ▸ cr_all hc
theorem anyK (h : X.K = K) (hc : X.calm = true) : CallR X (.builtin "any") (rAny K) := h ▸ cr_any hc
theorem sumK (h : X.K = K) (hc : X.calm = true) : CallR X (.builtin "sum") (rSum K) := h ▸ cr_sum hc
theorem eqK (h : X.K = K) (hu : X.A.units + 64 < cLine) : OpR X (compareOp .Eq) (rEqD K) := h ▸ op_eqD hu
theorem neK (h : X.K = K) (hu : X.A.units + 64 < cLine) : OpR X (compareOp .NotEq) (rNeD K) := h ▸ op_neD hu
theorem inK (h : X.K = K) : OpR X (compareOp .In) (rIn K false) := h ▸ op_in_seq
theorem niK (h : X.K = K) : OpR X (compareOp .NotIn) (rIn K true) := h ▸ op_notIn_seq
theorem slK (h : X.K = K) : SlR X (rSlL K) := h ▸ sl_list
theorem piL (h : X.K = K) {tg l : Expr} {tl : TE} (hl : PE X l tl) : PI X tg l (iList K tl) := h ▸ pi_list hl
theorem piT (h : X.K = K) {tg l : Expr} {tl : TE} (hl : PE X l tl) : PI X tg l (iTup K tl) := h ▸ pi_tup hl
end
/-! ### what stays -/
/-- all but what stands at b stays as it is -/
def Kp (b : Addr) (H J : Hp) : Prop := ∀ a o, a ≠ b → H a = some o → J a = some o
def Bag (b : Addr) (H : Hp) : Prop := ∃ x y : Int, H b = some (.lst [.int x, .int y])
def Scr (K : PySem.W.Frag) (H : Hp) (a : Addr) (xs : List V) : Prop := (∃ o, H a = some (.frz o (.lst xs))) ∨ SqL K (fun _ => none) a xs
section
variable {K : PySem.W.Frag} {H J M : Hp} {a b p : Addr} {xs ys : List V} {o : HO}
theorem Kp.refl : Kp b H H := fun _ _ _ e => e
theorem Kp.trans (h : Kp b H J) (k : Kp b J M) : Kp b H M := fun a o n e => k a o n (h a o n e)
theorem Kp.new (h : H p = none) : Kp b H (upd H p o) := fun a u _ e => by rw [upd_ne (ne_of_none e h)]; exact e
theorem Kp.at : Kp b H (upd H b o) := fun a u n e => by rw [upd_ne n]; exact e
theorem Kp.tup (h : Kp b H J) (g : Bag b H) (e : H a = some (.tup xs)) : J a = some (.tup xs) := h a _ (fun z => by
  obtain ⟨x, y, q⟩ := g
  subst z
  cases e.symm.trans q) e
theorem Kp.lst (h : Kp b H J) (n : a ≠ b) (e : H a = some (.lst xs)) : J a = some (.lst xs) := h a _ n e
theorem Bag.new (g : Bag b H) (h : H p = none) : Bag b (upd H p o) := by
  obtain ⟨x, y, q⟩ := g
  exact ⟨x, y, by rw [upd_ne (ne_of_none q h)]; exact q⟩
theorem Bag.ne (g : Bag b H) (h : H p = none) : p ≠ b := fun z => by
  obtain ⟨x, y, q⟩ := g
  subst z
  cases h.symm.trans q
theorem Bag.off (h : H p = none) (g : Bag b H) : p ≠ b := g.ne h
theorem Kp.free (k : Kp b H J) (g : Bag b J) (h : J p = none) : H p = none := by
  cases e : H p with
  | none => rfl
  | some o => cases h.symm.trans (k p o (g.ne h) e)
theorem set_tup (h : H p = some (.lst ys)) (e : H a = some (.tup xs)) : upd H p o a = some (.tup xs) := by
  rw [upd_ne (fun z => by subst z; cases h.symm.trans e)]
  exact e
theorem set_lst (n : a ≠ p) (e : H a = some (.lst xs)) : upd H p o a = some (.lst xs) := by rw [upd_ne n]; exact e
theorem Bag.put (n : p ≠ b) (g : Bag b H) : Bag b (upd H p o) := by
  obtain ⟨x, y, q⟩ := g
  exact ⟨x, y, by rw [upd_ne (fun z => n z.symm)]; exact q⟩
theorem new_tup (h : H p = none) (e : H a = some (.tup xs)) : upd H p o a = some (.tup xs) := by rw [upd_ne (ne_of_none e h)]; exact e
theorem new_any {u : HO} (h : H p = none) (e : H a = some u) : upd H p o a = some u := by rw [upd_ne (ne_of_none e h)]; exact e
theorem Scr.sq (h : Scr K H a xs) : SqL K H a xs := by
  rcases h with ⟨o, e⟩ | (e | e)
  · exact .inl (.inr ⟨o, e⟩)
  · rcases e with e | ⟨_, e⟩ <;> cases e
  · exact .inr e
theorem Scr.kp (h : Kp b H J) (g : Bag b H) (e : Scr K H a xs) : Scr K J a xs := by
  rcases e with ⟨o, e⟩ | e
  · refine .inl ⟨o, h a _ (fun z => ?_) e⟩
    obtain ⟨x, y, q⟩ := g
    subst z
    cases e.symm.trans q
  · exact .inr e
theorem Scr.new (h : H p = none) (e : Scr K H a xs) : Scr K (upd H p o) a xs := by
  rcases e with ⟨u, e⟩ | e
  · exact .inl ⟨u, new_any h e⟩
  · exact .inr e
theorem Scr.of (o : Only H) (h : SqL K H a xs) : Scr K H a xs := by
  rcases h with (e | e) | e
  · rcases o a with z | ⟨_, _, z⟩
    · cases e.symm.trans z
    · cases e.symm.trans z
  · exact .inl e
  · exact .inr (.inr e)
theorem same_any {u : HO} (h : Same H J) (e : H a = some u) : J a = some u := h a u e
theorem Bag.same (h : Same H J) (g : Bag b H) : Bag b J := by
  obtain ⟨x, y, q⟩ := g
  exact ⟨x, y, h _ _ q⟩
theorem Scr.same (h : Same H J) (e : Scr K H a xs) : Scr K J a xs := by
  rcases e with ⟨o, e⟩ | e
  · exact .inl ⟨o, h _ _ e⟩
  · exact .inr e
theorem rd_pick {K : PySem.W.Frag} {Q : VK} {r : Int} (h : H p = some (.lst xs)) (h0 : 0 ≤ r) (h1 : r < xs.length) (q : ∀ v, v ∈ xs → Q v H) : rIx K (.ref p) (.int r) H Q := by
  have l1 : r.toNat < xs.length := by omega
  have e : r = ((r.toNat : Nat) : Int) := by omega
  have z := atI_nat (xs := xs) (List.getElem?_eq_getElem l1)
  rw [← e] at z
  exact rd_sxL (SqL.of h) z (q _ (List.getElem_mem l1))
/-- a new object is not the bag -/
theorem Bag.nw (np : H p = none) (g : Bag b H) : p ≠ b := g.ne np
theorem same_new (h : H p = none) : Same H (upd H p o) := fun a u e => by rw [upd_ne (ne_of_none e h)]; exact e
/-- the list at l has been changed, all else is as it was -/
def Pu (l : Addr) (H J : Hp) : Prop := Kp l H J ∧ (∃ ys, H l = some (.lst ys)) ∧ ∃ zs, J l = some (.lst zs)
theorem Pu.tup {l : Addr} (k : Pu l H J) (e : H a = some (.tup xs)) : J a = some (.tup xs) := k.1 a _ (fun z => by
  obtain ⟨ys, q⟩ := k.2.1
  subst z
  cases e.symm.trans q) e
theorem Pu.lst {l : Addr} (k : Pu l H J) (n : a ≠ l) (e : H a = some (.lst xs)) : J a = some (.lst xs) := k.1 a _ n e
theorem Pu.bag {l : Addr} (k : Pu l H J) (n : l ≠ b) (g : Bag b H) : Bag b J := by
  obtain ⟨x, y, q⟩ := g
  exact ⟨x, y, k.1 b _ (fun z => n z.symm) q⟩
theorem Pu.scr {K : PySem.W.Frag} {l : Addr} (k : Pu l H J) (e : Scr K H a xs) : Scr K J a xs := by
  rcases e with ⟨o, e⟩ | e
  · refine .inl ⟨o, k.1 a _ (fun z => ?_) e⟩
    obtain ⟨ys, q⟩ := k.2.1
    subst z
    cases e.symm.trans q
  · exact .inr e
theorem rd_appK {Q : VK} {l : Addr} {y : V} (h : H l = some (.lst xs)) (hz : xs.length ≤ 1000) (q : ∀ J, Pu l H J → J l = some (.lst (xs ++ [y])) → Q .non J) : rAppend (.ref l) [y] H Q :=
  ⟨l, xs, y, rfl, rfl, h, small1000 hz, q _ ⟨Kp.at, ⟨_, h⟩, ⟨_, upd_same⟩⟩ upd_same⟩
theorem rd_catK {Q : VK} {l m : Addr} {zs : List V} (h : H l = some (.lst xs)) (k : H m = some (.lst zs)) (hz : xs.length + zs.length ≤ 1000) (q : ∀ p J, H p = none → Same H J → J p = some (.lst (xs ++ zs)) → Q (.ref p) J) : rCat (.ref l) (.ref m) H Q :=
  ⟨l, m, xs, zs, rfl, rfl, h, k, Nat.le_of_lt (small1000 hz), fun p np => q p _ np (same_new np) upd_same⟩
theorem rd_repK {Q : VK} {l : Addr} {k : Int} (h : H l = some (.lst xs)) (h0 : 0 ≤ k ∧ k ≤ 1000) (hz : xs.length * k.toNat ≤ 1000) (e : (List.replicate k.toNat xs).flatten = ys) (q : ∀ p J, H p = none → Same H J → J p = some (.lst ys) → Q (.ref p) J) : rRep (.ref l) (.int k) H Q := by
  subst e
  exact ⟨l, k, xs, rfl, rfl, h, by omega, by omega, Nat.le_of_lt (small1000 hz), fun p np => q p _ np (same_new np) upd_same⟩
theorem Kp.of (h : Same H J) : Kp b H J := fun a o _ e => h a o e
theorem pick {r : Int} (h0 : 0 ≤ r) (h : r < xs.length) : ∃ v, atI xs r = some v ∧ v ∈ xs := by
  have h1 : r.toNat < xs.length := by omega
  have e : r = ((r.toNat : Nat) : Int) := by omega
  have q := atI_nat (xs := xs) (List.getElem?_eq_getElem h1)
  rw [← e] at q
  exact ⟨xs[r.toNat], q, List.getElem_mem h1⟩
theorem pick_int {ns : List Int} {r : Int} (h0 : 0 ≤ r) (h : r < ns.length) : ∃ n, atI (ns.map V.int) r = some (.int n) ∧ n ∈ ns := by
  have h1 : r.toNat < ns.length := by omega
  have e : r = ((r.toNat : Nat) : Int) := by omega
  have q : atI (ns.map V.int) ((r.toNat : Nat) : Int) = some (.int ns[r.toNat]) := atI_nat (by rw [List.getElem?_map, List.getElem?_eq_getElem h1]; rfl)
  rw [← e] at q
  exact ⟨ns[r.toNat], q, List.getElem_mem h1⟩
def msr : L2.St → Nat
  | [_, some (.int y)] => y.natAbs
  | _ => 0
end
/-! ### greatest common divisors, lowest terms -/
theorem gcd_turn {x y : Int} : Int.gcd y (x.fmod y) = Int.gcd x y := by
  rw [Int.fmod_def, Int.gcd_sub_mul_left_right, Int.gcd_comm]
theorem fmod_abs {x y : Int} (h : y ≠ 0) : (x.fmod y).natAbs < y.natAbs := by
  rcases Int.lt_or_gt_of_ne h with h1 | h1
  · have := fmod_rng (x := -x) (n := -y) (by omega)
    rw [Int.neg_fmod_neg] at this
    omega
  · have := fmod_rng (x := x) h1
    omega
theorem natAbs_fdiv_le (u : Int) {v : Int} (h : 0 < v) : (u.fdiv v).natAbs ≤ u.natAbs := by
  rw [Int.fdiv_eq_ediv_of_nonneg u (by omega)]
  exact Int.natAbs_ediv_le_natAbs u v
theorem dvd_gcd1 {x y v : Int} (g : Int.gcd x y = 1) (h : y ∣ x * v) : y ∣ v := by
  have h1 : y.natAbs ∣ x.natAbs * v.natAbs := by rw [← Int.natAbs_mul]; exact Int.natAbs_dvd_natAbs.mpr h
  have g1 : Nat.Coprime y.natAbs x.natAbs := by rw [Nat.coprime_comm]; exact g
  exact Int.natAbs_dvd_natAbs.mp (g1.dvd_of_dvd_mul_left h1)
/-- a ratio in lowest terms is one alone -/
theorem low_one {x y u v : Int} (hy : 0 < y) (hv : 0 < v) (g : Int.gcd x y = 1) (k : Int.gcd u v = 1) (e : x * v = u * y) : x = u ∧ y = v := by
  have d1 : y ∣ v := dvd_gcd1 g ⟨u, by rw [e, Int.mul_comm]⟩
  have d2 : v ∣ y := dvd_gcd1 k ⟨x, by rw [← e, Int.mul_comm]⟩
  have e2 : y = v := Int.dvd_antisymm (by omega) (by omega) d1 d2
  subst e2
  exact ⟨Int.eq_of_mul_eq_mul_right (by omega) e, rfl⟩
def IsLow (t u x y : Int) : Prop := 0 < y ∧ Int.gcd x y = 1 ∧ x * u = t * y ∧ x.natAbs ≤ t.natAbs ∧ y.natAbs ≤ u.natAbs
theorem low_uniq {t u x y t' u' x' y' : Int} (h : IsLow t u x y) (k : IsLow t' u' x' y') (hu : u ≠ 0) (hv : u' ≠ 0) (e : t * u' = t' * u) : x = x' ∧ y = y' := by
  obtain ⟨y0, g, e1, _, _⟩ := h
  obtain ⟨v0, g', e2, _, _⟩ := k
  refine low_one y0 v0 g g' (Int.eq_of_mul_eq_mul_right (Int.mul_ne_zero hu hv) ?_)
  grind
theorem low_self {x y : Int} (y0 : 0 < y) (g : Int.gcd x y = 1) : IsLow x y x y := ⟨y0, g, rfl, Nat.le_refl _, Nat.le_refl _⟩
theorem low_at {t u s : Int} (h : u ≠ 0) (es : s = if u < 0 then -((Int.gcd t u : Nat) : Int) else ((Int.gcd t u : Nat) : Int)) : IsLow t u (t.fdiv s) (u.fdiv s) ∧ s ≠ 0 ∧ s.natAbs ≤ u.natAbs := by
  have g0 : 0 < Int.gcd t u := Int.gcd_pos_of_ne_zero_right t h
  have gu : (Int.gcd t u) ≤ u.natAbs := Int.gcd_le_natAbs_right t (by omega)
  have ns : s.natAbs = Int.gcd t u := by rw [es]; split <;> omega
  have s0 : s ≠ 0 := by omega
  have du : s ∣ u := by rw [← Int.natAbs_dvd, ns]; exact Int.gcd_dvd_right t u
  have dt : s ∣ t := by rw [← Int.natAbs_dvd, ns]; exact Int.gcd_dvd_left t u
  have eu := Int.fdiv_mul_cancel du
  have et := Int.fdiv_mul_cancel dt
  generalize u.fdiv s = y at *
  generalize t.fdiv s = x at *
  refine ⟨⟨?_, ?_, ?_, ?_, ?_⟩, s0, by omega⟩
  · rcases Int.lt_or_gt_of_ne h with n | n
    · have sn : s < 0 := by rw [es, if_pos n]; omega
      by_cases z : 0 < y
      · exact z
      · have z : y ≤ 0 := by omega
        have := Int.mul_nonneg_of_nonpos_of_nonpos z (show s ≤ 0 by omega)
        omega
    · have sp : 0 < s := by rw [es, if_neg (by omega)]; omega
      by_cases z : 0 < y
      · exact z
      · have z : y ≤ 0 := by omega
        have := Int.mul_nonpos_of_nonpos_of_nonneg z (show 0 ≤ s by omega)
        omega
  · have q : Int.gcd t u = s.natAbs * Int.gcd x y := by rw [← et, ← eu, Int.mul_comm x s, Int.mul_comm y s, Int.gcd_mul_left]
    rw [ns] at q
    exact Nat.eq_of_mul_eq_mul_left g0 (by omega)
  · rw [← eu, ← et, Int.mul_assoc, Int.mul_comm s y]
  · rw [← et, Int.natAbs_mul]
    exact Nat.le_mul_of_pos_right _ (by omega)
  · rw [← eu, Int.natAbs_mul]
    exact Nat.le_mul_of_pos_right _ (by omega)
end Ob
namespace Ob
open PySem PySem.Spec PyProof.Rows L2
/-! ### a tuple of the module's own top -/
structure TupC (K : PySem.W.Frag) (mg : Str → Option Value) (x : Str) (z : Addr) (xs : List V) : Prop where
  m : mg x = some (.ref z)
  sq : ∀ H, SqT K H z xs
def TupObj (o : Obj) (xs : List V) : Prop := o.cls = .type "tuple" ∧ ∃ its n, o.data = .seq its n ∧ its.size ≤ sizeLine ∧ Vals xs its.toList
theorem TupC.of {K : PySem.W.Frag} {mg : Str → Option Value} {x : Str} {z : Addr} {xs : List V} {o : Obj} (h : mg x = some (.ref z)) (l : K.lookup z = some o) (t : TupObj o xs) : TupC K mg x z xs :=
  ⟨h, fun _ => let ⟨c, its, n, d, s, v⟩ := t; .inr ⟨o, its, n, l, c, d, s, v⟩⟩
section
variable {K : PySem.W.Frag} {H J : Hp} {a b p l : Addr} {xs ys zs : List V} {o : HO}
theorem sqt_same (s : Same H J) (h : SqT K H a xs) : SqT K J a xs := by
  rcases h with (e | ⟨u, e⟩) | e
  · exact .inl (.inl (s _ _ e))
  · exact .inl (.inr ⟨u, s _ _ e⟩)
  · exact .inr e
theorem sqt_new (n : H p = none) (h : SqT K H a xs) : SqT K (upd H p o) a xs := sqt_same (same_new n) h
theorem sqt_kp (k : Kp b H J) (hb : ∀ e : H b = some (.tup xs), False) (hf : ∀ u, H b = some (.frz u (.tup xs)) → False) (h : SqT K H a xs) : SqT K J a xs := by
  rcases h with (e | ⟨u, e⟩) | e
  · exact .inl (.inl (k _ _ (fun z => by subst z; exact hb e) e))
  · exact .inl (.inr ⟨u, k _ _ (fun z => by subst z; exact hf u e) e⟩)
  · exact .inr e
theorem sqt_lst (k : Kp l H J) (e : H l = some (.lst ys)) (h : SqT K H a xs) : SqT K J a xs := sqt_kp k (fun z => by cases e.symm.trans z) (fun u z => by cases e.symm.trans z) h
theorem sqt_bag (k : Kp b H J) (g : Bag b H) (h : SqT K H a xs) : SqT K J a xs := by
  obtain ⟨x, y, e⟩ := g
  exact sqt_lst k e h
theorem sqt_pu (k : Pu l H J) (h : SqT K H a xs) : SqT K J a xs := by
  obtain ⟨ys, e⟩ := k.2.1
  exact sqt_lst k.1 e h
theorem sqt_fresh (k : Kp l H J) (e : H l = none) (h : SqT K H a xs) : SqT K J a xs := sqt_kp k (fun z => by cases e.symm.trans z) (fun u z => by cases e.symm.trans z) h
theorem tyT (h : SqT K H a xs) : TyX K H (.ref a) (.type "tuple") := by
  rcases h with (e | ⟨u, e⟩) | ⟨o, its, n, l, c, _⟩
  · exact .base (.tup e)
  · exact .fTuple e
  · exact .kTuple l c
theorem rd_isiQ {Q : VK} {n : String} {b : Bool} (e : SqT K H a xs) (h : kitB "tuple" n = some b) (q : Q (.bl b) H) : rIsi K [.ref a, .ty n] H Q := rd_isi (tyT e) h q
variable {σ : L2.St} {te : TE} {D : Addr}
/-- [f(x) for x in xs], xs a list, f's heap as it was -/
theorem lc_mapL (f : V → V) {i0 : Nat} {Qd : Hp → Prop} (hT : H a = some (.lst xs)) (hl : xs.length ≤ 1000) (hD : H D = none)
    (he : ∀ x, x ∈ xs → ∀ (l : List V) (R : VK), R (f x) (upd H D (.lst l)) → te ((σ.set i0 none).set i0 (some x)) (upd H D (.lst l)) R) (hd : Qd (upd H D (.lst (xs.map f)))) : Lc (Itl K a) (gName i0) tYes te [i0] σ Qd H D := by
  have ne : a ≠ D := ne_of_none hT hD
  refine lc_list (xs := xs) (fun i J => i ≤ xs.length ∧ J = upd H D (.lst ((xs.take i).map f))) ⟨Nat.zero_le _, by rw [List.take_zero]; rfl⟩ (fun i J _ w => by
    rw [w.2]
    exact SqL.of (by rw [upd_ne ne]; exact hT)) (fun i x J hx w => ?_) fun J w => ?_
  · obtain ⟨hi, rfl⟩ := w
    have lt : i < xs.length := (List.getElem?_eq_some_iff.mp hx).1
    refine ⟨?_, ?_⟩
    · show ((σ.set i0 none).set i0 (some x)).set i0 none = σ.set i0 none
      rw [List.set_set, List.set_set]
    · show te _ _ _
      refine he x (List.mem_of_getElem? hx) _ _ ⟨_, upd_same, ?_, ?_, ?_⟩
      · rw [List.length_map, List.length_take]
        exact small1000 (by omega)
      · omega
      · rw [upd_upd]
        have e : (xs.take (i + 1)).map f = (xs.take i).map f ++ [f x] := by rw [List.take_add_one, hx, List.map_append]; rfl
        rw [e]
  · rw [List.take_length] at w
    rw [w.2]
    exact hd
theorem zip_take_succ {α β γ : Type} (f : α → β → γ) : ∀ {xs : List α} {ys : List β} {i : Nat} {x : α} {y : β}, xs[i]? = some x → ys[i]? = some y → (List.zipWith f xs ys).take (i + 1) = (List.zipWith f xs ys).take i ++ [f x y] := by
  intro xs ys i x y hx hy
  have e : (List.zipWith f xs ys)[i]? = some (f x y) := by rw [List.getElem?_zipWith, hx, hy]
  rw [List.take_add_one, e]
  rfl
/-- [f(x, y) for x, y in zip(xs, ys)], two lists; f's heap as it was -/
theorem lc_mapZ (f : V → V → V) {i1 i2 n : Nat} {Qd : Hp → Prop} (hn : n = 2) (ha : H a = some (.lst xs)) (hb : H b = some (.lst ys)) (hl : xs.length ≤ 1000) (hD : H D = none)
    (hw : ∀ x y, wipe (((wipe σ [i1, i2]).set i1 (some x)).set i2 (some y)) [i1, i2] = wipe σ [i1, i2])
    (he : ∀ (i : Nat) x y, xs[i]? = some x → ys[i]? = some y → ∀ J, Kp D H J → ∀ R : VK, R (f x y) J → te (((wipe σ [i1, i2]).set i1 (some x)).set i2 (some y)) J R)
    (hd : ∀ J, Kp D H J → J D = some (.lst (List.zipWith f xs ys)) → Qd J) : Lc (Itz K a b) (gTup K n (gCons (gName i1) (gCons (gName i2) gNil))) tYes te [i1, i2] σ Qd H D := by
  subst hn
  have na : a ≠ D := ne_of_none ha hD
  have nb : b ≠ D := ne_of_none hb hD
  have zl : (List.zipWith f xs ys).length = min xs.length ys.length := List.length_zipWith
  let P : Nat → Hp → Prop := fun i J => i ≤ min xs.length ys.length ∧ Kp D H J ∧ J D = some (.lst ((List.zipWith f xs ys).take i))
  refine ⟨fun i m J => m = min xs.length ys.length - i ∧ P i J, ⟨_, rfl, Nat.zero_le _, Kp.new hD, by rw [List.take_zero]; exact upd_same⟩, ?_⟩
  rintro i m J ⟨rfl, hi, k, e⟩
  have qa : SqL K J a xs := SqL.of (k a _ na ha)
  have qb : SqL K J b ys := SqL.of (k b _ nb hb)
  by_cases lt : i < min xs.length ys.length
  · have hx : xs[i]? = some xs[i] := List.getElem?_eq_getElem (by omega)
    have hy : ys[i]? = some ys[i] := List.getElem?_eq_getElem (by omega)
    refine .inr ⟨⟨xs, ys, _, _, qa, qb, hx, hy⟩, P (i + 1), fun J' p' => ⟨min xs.length ys.length - (i + 1), by omega, rfl, p'⟩, fun v J' y => ?_⟩
    obtain ⟨T, x', y', rfl, nT, rfl, fx, fy⟩ := y
    have ex := fx xs qa
    have ey := fy ys qb
    have kT : Kp D H (upd J T (.tup [x', y'])) := k.trans (Kp.new nT)
    have eD : (upd J T (.tup [x', y'])) D = some (.lst ((List.zipWith f xs ys).take i)) := new_any nT e
    refine ⟨T, _, rfl, SqT.of upd_same, rfl, x', _, rfl, y', _, rfl, rfl, hw x' y', ?_⟩
    show te _ _ _
    refine he i x' y' ex ey _ kT _ ⟨_, eD, ?_, ?_⟩
    · rw [List.length_take]
      exact small1000 (by omega)
    · refine ⟨by omega, kT.trans Kp.at, ?_⟩
      rw [zip_take_succ f ex ey]
      exact upd_same
  · have ei : i = min xs.length ys.length := by omega
    subst ei
    refine .inl ⟨⟨xs, ys, qa, qb, by omega⟩, hd J k ?_⟩
    rw [e, ← zl, List.take_length]
/-- the same two, the results given as a list -/
theorem lc_mapLI {i0 : Nat} {Qd : Hp → Prop} (ys : List V) (hy : ys.length = xs.length) (hT : H a = some (.lst xs)) (hl : xs.length ≤ 1000) (hD : H D = none)
    (he : ∀ (i : Nat) x y, xs[i]? = some x → ys[i]? = some y → ∀ (l : List V) (R : VK), R y (upd H D (.lst l)) → te ((σ.set i0 none).set i0 (some x)) (upd H D (.lst l)) R) (hd : Qd (upd H D (.lst ys))) : Lc (Itl K a) (gName i0) tYes te [i0] σ Qd H D := by
  have ne : a ≠ D := ne_of_none hT hD
  refine lc_list (xs := xs) (fun i J => i ≤ xs.length ∧ J = upd H D (.lst (ys.take i))) ⟨Nat.zero_le _, by rw [List.take_zero]⟩ (fun i J _ w => by
    rw [w.2]
    exact SqL.of (by rw [upd_ne ne]; exact hT)) (fun i x J hx w => ?_) fun J w => ?_
  · obtain ⟨hi, rfl⟩ := w
    have lt : i < xs.length := (List.getElem?_eq_some_iff.mp hx).1
    have hyi : ys[i]? = some ys[i] := List.getElem?_eq_getElem (by omega)
    refine ⟨?_, ?_⟩
    · show ((σ.set i0 none).set i0 (some x)).set i0 none = σ.set i0 none
      rw [List.set_set, List.set_set]
    · show te _ _ _
      refine he i x _ hx hyi _ _ ⟨_, upd_same, ?_, ?_, ?_⟩
      · rw [List.length_take]
        exact small1000 (by omega)
      · omega
      · rw [upd_upd, List.take_add_one, hyi]
        rfl
  · rw [← hy, List.take_length] at w
    rw [w.2]
    exact hd
theorem lc_mapZI {i1 i2 n : Nat} {Qd : Hp → Prop} (zs : List V) (hz : zs.length = min xs.length ys.length) (hn : n = 2) (ha : H a = some (.lst xs)) (hb : H b = some (.lst ys)) (hl : xs.length ≤ 1000) (hD : H D = none)
    (hw : ∀ x y, wipe (((wipe σ [i1, i2]).set i1 (some x)).set i2 (some y)) [i1, i2] = wipe σ [i1, i2])
    (he : ∀ (i : Nat) x y z, xs[i]? = some x → ys[i]? = some y → zs[i]? = some z → ∀ J, Kp D H J → ∀ R : VK, R z J → te (((wipe σ [i1, i2]).set i1 (some x)).set i2 (some y)) J R)
    (hd : ∀ J, Kp D H J → J D = some (.lst zs) → Qd J) : Lc (Itz K a b) (gTup K n (gCons (gName i1) (gCons (gName i2) gNil))) tYes te [i1, i2] σ Qd H D := by
  subst hn
  have na : a ≠ D := ne_of_none ha hD
  have nb : b ≠ D := ne_of_none hb hD
  let P : Nat → Hp → Prop := fun i J => i ≤ min xs.length ys.length ∧ Kp D H J ∧ J D = some (.lst (zs.take i))
  refine ⟨fun i m J => m = min xs.length ys.length - i ∧ P i J, ⟨_, rfl, Nat.zero_le _, Kp.new hD, by rw [List.take_zero]; exact upd_same⟩, ?_⟩
  rintro i m J ⟨rfl, hi, k, e⟩
  have qa : SqL K J a xs := SqL.of (k a _ na ha)
  have qb : SqL K J b ys := SqL.of (k b _ nb hb)
  by_cases lt : i < min xs.length ys.length
  · have hx : xs[i]? = some xs[i] := List.getElem?_eq_getElem (by omega)
    have hy : ys[i]? = some ys[i] := List.getElem?_eq_getElem (by omega)
    have hzi : zs[i]? = some zs[i] := List.getElem?_eq_getElem (by omega)
    refine .inr ⟨⟨xs, ys, _, _, qa, qb, hx, hy⟩, P (i + 1), fun J' p' => ⟨min xs.length ys.length - (i + 1), by omega, rfl, p'⟩, fun v J' y => ?_⟩
    obtain ⟨T, x', y', rfl, nT, rfl, fx, fy⟩ := y
    have kT : Kp D H (upd J T (.tup [x', y'])) := k.trans (Kp.new nT)
    have eD : (upd J T (.tup [x', y'])) D = some (.lst (zs.take i)) := new_any nT e
    refine ⟨T, _, rfl, SqT.of upd_same, rfl, x', _, rfl, y', _, rfl, rfl, hw x' y', ?_⟩
    show te _ _ _
    refine he i x' y' _ (fx xs qa) (fy ys qb) hzi _ kT _ ⟨_, eD, ?_, ?_⟩
    · rw [List.length_take]
      exact small1000 (by omega)
    · refine ⟨by omega, kT.trans Kp.at, ?_⟩
      rw [List.take_add_one, hzi]
      exact upd_same
  · have ei : i = min xs.length ys.length := by omega
    subst ei
    refine .inl ⟨⟨xs, ys, qa, qb, by omega⟩, hd J k ?_⟩
    rw [e, ← hz, List.take_length]
theorem cut_tail : cutV xs (some 1) none = xs.tail := by
  cases xs with
  | nil => rfl
  | cons x r =>
    have e1 : HT.sIx (x :: r).length 0 (some 1) = 1 := by
      simp [HT.sIx]
    have e2 : HT.sIx (x :: r).length (x :: r).length none = (x :: r).length := by simp [HT.sIx]
    unfold cutV
    rw [e1, e2]
    simp
theorem rd_sl {Q : VK} {r : V → Option Int → Option Int → Hp → VK → Prop} {tl th : TO} (q : te σ H fun x H1 => tl σ H1 fun l H2 => th σ H2 fun u H3 => r x l u H3 Q) : tSl r te tl th σ H Q := q
theorem rd_part {R : Option Int → Hp → Prop} (q : te σ H fun x H1 => ∃ i, x = .int i ∧ R (some i) H1) : tPart te σ H R := q
theorem rd_partI {i : Int} {R : Int → Prop} (q : R i) : ∃ j, V.int i = .int j ∧ R j := ⟨i, rfl, q⟩
theorem rd_nopart {R : Option Int → Hp → Prop} (q : R none H) : tNoPart σ H R := q
theorem rd_slL {Q : VK} {lo hi : Option Int} (h : SqL K H a xs) (e : cutV xs lo hi = ys) (q : ∀ p J, H p = none → Same H J → J p = some (.lst ys) → Q (.ref p) J) : rSlL K (.ref a) lo hi H Q := by
  subst e
  exact ⟨a, xs, rfl, h, fun p np => q p _ np (same_new np) upd_same⟩
theorem rd_zip {ta : TA} {R : It → Hp → Prop} (q : ta σ H fun vs H1 => ∃ a b xs ys, vs = [.ref a, .ref b] ∧ SqL K H1 a xs ∧ SqL K H1 b ys ∧ R (Itz K a b) H1) : iZip K ta σ H R := q
theorem rd_zipA {R : Addr → Addr → Prop} (h : SqL K H a xs) (k : SqL K H b ys) (q : R a b) : ∃ a' b' xs ys, [V.ref a, V.ref b] = [.ref a', .ref b'] ∧ SqL K H a' xs ∧ SqL K H b' ys ∧ R a' b' := ⟨a, b, xs, ys, rfl, h, k, q⟩
theorem piZ {X : Cx} (h : X.K = K) {e e2 : Expr} {ta : TA} {p pos tpos : Pos} {elts : List Expr} {kk : Nat} (hg : Gl X "zip") (hm : X.mg "zip" = none) (ha : PA X [e, e2] ta)
    (hs : starEach [e, e2] X.env = (false, eval e X.env) :: starEach [e2] X.env := by rfl) (hpl : (backTo pos (starEach [e2] X.env)).any (·.1) = false := by rfl) :
    PI X (.Tuple elts kk tpos) (.Call (.Name "zip" p) [e, e2] [] pos) (iZip K ta) := h ▸ pi_zip hg hm ha hs hpl
theorem pgT {X : Cx} (h : X.K = K) {es : List Expr} {k n : Nat} {t : TGs} {pos : Pos} (hc : X.calm = true) (hs : PGs X es t) (hn : (assignEach es X.env).length = n := by rfl) (hst : (assignEach es X.env).findIdx? (·.1) = none := by rfl) : PG X (.Tuple es k pos) (gTup K n t) := h ▸ pg_tup hc hs hn hst
/-! ### a ratio at an address, spans, a list of spans -/
structure Ra (K : PySem.W.Frag) (H : Hp) (p : Addr) (x y : Int) : Prop where
  sq : SqT K H p [.int x, .int y]
  pos : 0 < y
  gcd : Int.gcd x y = 1
  bx : Bd 1000 x
  bu : Bd 1000 y
theorem Ra.mono {x y : Int} (h : Ra K H p x y) (m : ∀ xs, SqT K H p xs → SqT K J p xs) : Ra K J p x y := ⟨m _ h.sq, h.pos, h.gcd, h.bx, h.bu⟩
structure Sn where
  x : Int
  y : Int
  u : Int
  v : Int
def SnAt (K : PySem.W.Frag) (H : Hp) (r : V) (s : Sn) : Prop := ∃ c p q, r = .ref c ∧ SqT K H c [.ref p, .ref q] ∧ Ra K H p s.x s.y ∧ Ra K H q s.u s.v
theorem SnAt.mono {r : V} {s : Sn} (h : SnAt K H r s) (m : ∀ p xs, SqT K H p xs → SqT K J p xs) : SnAt K J r s :=
  let ⟨c, p, q, e, h1, h2, h3⟩ := h; ⟨c, p, q, e, m _ _ h1, h2.mono (m _), h3.mono (m _)⟩
inductive SnsAt (K : PySem.W.Frag) (H : Hp) : List V → List Sn → Prop
  | nil : SnsAt K H [] []
  | cons {r : V} {rs : List V} {s : Sn} {ss : List Sn} (h : SnAt K H r s) (t : SnsAt K H rs ss) : SnsAt K H (r :: rs) (s :: ss)
theorem SnsAt.mono (m : ∀ p xs, SqT K H p xs → SqT K J p xs) : ∀ {rs : List V} {ss : List Sn}, SnsAt K H rs ss → SnsAt K J rs ss
  | _, _, .nil => .nil
  | _, _, .cons h t => .cons (h.mono m) (t.mono m)
theorem SnsAt.len : ∀ {rs : List V} {ss : List Sn}, SnsAt K H rs ss → rs.length = ss.length
  | _, _, .nil => rfl
  | _, _, .cons _ t => congrArg (· + 1) t.len
theorem SnsAt.get : ∀ {rs : List V} {ss : List Sn} {i : Nat} {r : V}, SnsAt K H rs ss → rs[i]? = some r → ∃ s, ss[i]? = some s ∧ SnAt K H r s
  | _, _, _, _, .nil, e => by simp at e
  | _, _, 0, _, .cons h t, e => by
    cases Option.some.inj (show some _ = some _ from e)
    exact ⟨_, rfl, h⟩
  | _, _, i + 1, _, .cons h t, e => t.get (i := i) e
theorem SnsAt.tail : ∀ {rs : List V} {ss : List Sn}, SnsAt K H rs ss → SnsAt K H rs.tail ss.tail
  | _, _, .nil => .nil
  | _, _, .cons _ t => t
/-! the same as data -/
def snD (s : Sn) : PyData := .tuple [.tuple [.int s.x, .int s.y], .tuple [.int s.u, .int s.v]]
theorem Ra.dp {x y : Int} (h : Ra K H p x y) : Dp K H (.ref p) (.tuple [.int x, .int y]) := .tup h.sq (.cons (.int _) (.cons (.int _) .nil))
theorem SnsAt.dp : ∀ {rs : List V} {ss : List Sn}, SnsAt K H rs ss → DpAll K H rs (ss.map snD)
  | _, _, .nil => .nil
  | _, _, .cons h t => by
    obtain ⟨c, p, q, rfl, hc, h1, h2⟩ := h
    exact .cons (.tup hc (.cons h1.dp (.cons h2.dp .nil))) t.dp
theorem SnsAt.small : ∀ {rs : List V} {ss : List Sn}, SnsAt K H rs ss → sms (ss.map snD) = true ∧ szs (ss.map snD) ≤ 5000 * rs.length ∧ PyData.depthAll (ss.map snD) ≤ 2 ∧ PyData.canLayAll0 (ss.map snD) = true
  | _, _, .nil => ⟨by simp [sms], by simp [szs], by simp [PyData.depthAll], by simp [PyData.canLayAll0]⟩
  | _, _, .cons h t => by
    obtain ⟨c, p, q, rfl, hc, h1, h2⟩ := h
    obtain ⟨a1, a2, a3, a4⟩ := t.small
    have b1 := h1.bx.log
    have b2 := h1.bu.log
    have b3 := h2.bx.log
    have b4 := h2.bu.log
    refine ⟨?_, ?_, ?_, ?_⟩
    · simp only [List.map_cons, snD, sms, sm, a1, Bool.and_true, Bool.and_eq_true, decide_eq_true_eq]
      omega
    · simp only [List.map_cons, snD, szs, sz, List.length_cons]
      omega
    · simp only [List.map_cons, snD, PyData.depthAll, PyData.depth]
      omega
    · simp [List.map_cons, snD, PyData.canLayAll0, PyData.canLay0, a4]
theorem rd_reprS {Q : VK} {rs : List V} {ss : List Sn} (h : SqL K H l rs) (s : SnsAt K H rs ss) (hl : rs.length ≤ 100) (q : Q (.str (PyData.shown (.list (ss.map snD)))) H) : rRepr K [.ref l] H Q := by
  obtain ⟨a1, a2, a3, _⟩ := s.small
  refine ⟨l, _, rfl, Dp.lst h s.dp, by simpa [sm] using a1, ?_, ?_, q⟩
  · simp only [sz]
    omega
  · simp only [PyData.depth]
    omega
theorem eqv_two {x y u v : Int} : PyData.eqv (.tuple [.int x, .int y]) (.tuple [.int u, .int v]) = decide (x = u ∧ y = v) := by
  by_cases h : x = u <;> by_cases k : y = v <;> simp [PyData.eqv, PyData.eqvAll, h, k]
theorem rd_eqR {Q : VK} {x y u v : Int} (h : SqT K H a [.int x, .int y]) (k : SqT K H b [.int u, .int v]) (q : Q (.bl (decide (x = u ∧ y = v))) H) : rEqD K (.ref a) (.ref b) H Q :=
  ⟨_, _, Dp.tup h (.cons (.int _) (.cons (.int _) .nil)), Dp.tup k (.cons (.int _) (.cons (.int _) .nil)), by simp [SeqAt.shaped, PyData.canLay0, PyData.canLayAll0, PyData.depth, PyData.depthAll], by simp [SeqAt.shaped, PyData.canLay0, PyData.canLayAll0, PyData.depth, PyData.depthAll], by rw [eqv_two]; exact q⟩
theorem rd_eqS {Q : VK} {rs zs : List V} {ss : List Sn} (h : SqL K H a rs) (s : SnsAt K H rs ss) (k : SqL K H b zs) (t : SnsAt K H zs ss) (q : Q (.bl true) H) : rEqD K (.ref a) (.ref b) H Q := by
  obtain ⟨a1, a2, a3, a4⟩ := s.small
  exact rd_eqDs (Dp.lst h s.dp) (Dp.lst k t.dp) (by
    have z : PyData.depthAll (ss.map snD) + 1 ≤ 64 := by omega
    simp [SeqAt.shaped, PyData.canLay0, PyData.depth, a4, z]) q
/-- the spans of the arc -/
def arcD (x y u v : Int) : List Sn := if x = u ∧ y = v then [] else if x * v < u * y then [⟨x, y, u, v⟩] else (if u = 0 ∧ v = 1 then [] else [⟨0, 1, u, v⟩]) ++ [⟨x, y, 1, 1⟩]
def okS (s : Sn) : Bool := decide (¬ s.x * 1 < 0 * s.y) && (decide (s.x * s.v < s.u * s.y) && decide (¬ 1 * s.v < s.u * 1))
def okN (s t : Sn) : Bool := decide (s.u * t.y < t.x * s.v)
theorem dummy_ok : True := True.intro
def cutsB (ss : List Sn) : Bool := (ss.map okS).all id && (List.zipWith okN ss ss.tail).all id
theorem arc_ok {x y u v : Int} (hx : 0 ≤ x) (hxy : x < y) (hu : 0 ≤ u) (huv : u < v) (g : Int.gcd x y = 1) (g' : Int.gcd u v = 1) : cutsB (arcD x y u v) = true := by
  unfold arcD
  by_cases h : x = u ∧ y = v
  · rw [if_pos h]
    rfl
  · rw [if_neg h]
    by_cases k : x * v < u * y
    · rw [if_pos k]
      simp [cutsB, okS, k]
      omega
    · rw [if_neg k]
      have ne : x * v ≠ u * y := fun e => h (low_one (by omega) (by omega) g g' e)
      by_cases z : u = 0 ∧ v = 1
      · rw [if_pos z]
        simp [cutsB, okS]
        omega
      · rw [if_neg z]
        have u0 : 0 < u := by
          rcases Int.lt_or_eq_of_le hu with w | w
          · exact w
          · subst w
            rw [Int.zero_gcd] at g'
            omega
        simp [cutsB, okS, okN]
        omega
end
end Ob
namespace Ob
open PySem PySem.Spec PyProof.Rows L2
def top (i : Nat) : Stmt := PySem.Challenge.pw_onecut_k08_arcs.main.body.getD i (.Pass ⟨0, 0, 0, 0⟩)
local macro_rules | `(tactic| walk_at "hp") => `(tactic| (first
  | assumption
  | exact L2.upd_same
  | ((with_reducible refine SqT.of ?h); (case h => walk_at "hp"))
  | ((with_reducible refine SqL.of ?h); (case h => walk_at "hp"))
  | ((with_reducible refine Scr.sq ?h); (case h => walk_at "hp"))
  | ((with_reducible refine Bag.new ?h ?k); (case h => walk_at "hp"); (case k => assumption))
  | ((with_reducible refine Scr.new ?k ?h); (case k => assumption); (case h => walk_at "hp"))
  | ((with_reducible refine Scr.kp (b := ?bb) (H := ?hh) ?k ?g ?h); (case k => assumption); (case g => walk_at "hp"); (case h => walk_at "hp"))
  | ((with_reducible refine Bag.same (H := ?hh) ?k ?h); (case k => assumption); (case h => walk_at "hp"))
  | ((with_reducible refine Scr.same (H := ?hh) ?k ?h); (case k => assumption); (case h => walk_at "hp"))
  | ((with_reducible refine same_any (H := ?hh) ?k ?h); (case k => assumption); (case h => walk_at "hp"))
  | ((with_reducible refine new_any ?k ?h); (case k => assumption); (case h => walk_at "hp"))
  | ((with_reducible refine set_tup (ys := ?ys) ?k ?h); (case k => assumption); (case h => walk_at "hp"))
  | ((with_reducible refine Bag.put ?k ?h); (case k => assumption); (case h => walk_at "hp"))
  | ((with_reducible refine Kp.tup (b := ?bb) (H := ?hh) ?k ?g ?h); (case k => assumption); (case g => walk_at "hp"); (case h => walk_at "hp"))
  | ((with_reducible refine Kp.lst (b := ?bb) (H := ?hh) ?k ?g ?h); (case k => assumption); (case g => walk_at "hp"); (case h => walk_at "hp"))
  | ((with_reducible refine Bag.off (H := ?hh) ?h ?g); (case h => assumption); (case g => walk_at "hp"))
  | (with_reducible exact Kp.refl)
  | (with_reducible exact Kp.new (by assumption))))
local macro_rules | `(tactic| walk_at "dp") => `(tactic| (first
  | exact Dp.int _
  | exact Dp.bl _
  | exact Dp.non
  | exact Dp.str _
  | exact DpAll.nil
  | ((refine DpAll.cons (d := ?d) (ds := ?ds) ?h ?k); (case h => walk_at "dp"); (case k => walk_at "dp"))
  | ((refine Dp.lst (xs := ?xs) (ds := ?ds) ?h ?k); (case h => walk_at "hp"); (case k => walk_at "dp"))
  | ((refine Dp.tup (xs := ?xs) (ds := ?ds) ?h ?k); (case h => walk_at "hp"); (case k => walk_at "dp"))))
local macro_rules | `(tactic| walk_at "small") => `(tactic| first | decide +kernel | (simp only [sm, sms, sz, szs, Bool.and_true, Bool.and_eq_true, decide_eq_true_eq, and_true, true_and]; (first | done | omega | (repeat' constructor) <;> first | omega | decide +kernel)))
local macro_rules | `(tactic| walk_at "side") => `(tactic| (first
  | ((with_reducible show IntMulOk _ _); first | exact rd_mulB (by assumption) (by assumption) | (refine rd_mulok ?_; omega))
  | ((with_reducible show CDv _ _); exact rd_dvB _ (Int.ne_of_gt (by assumption)) (by assumption))
  | ((with_reducible show CDv _ _); refine rd_dvI _ ?_ ?_ <;> first | assumption | omega | decide)
  | ((with_reducible show CPow _ _); exact ⟨by decide, by decide, by first | decide | omega⟩)
  | omega
  | assumption
  | decide
  | (refine rd_mulB (m := 400) (n := 400) (Bd.lit ?_) (Bd.lit ?_) <;> decide +kernel)))
local macro_rules | `(tactic| walk_at "rd1") => `(tactic| (first
  | ((with_reducible refine rd_var (v := ?v) ?h ?_); (case h => exact rfl))
  | (with_reducible refine rd_c ?_)
  | (with_reducible refine rd_op ?_)
  | (with_reducible refine rd_cons ?_)
  | (with_reducible refine rd_nil ?_)
  | ((with_reducible refine rd_sxT (xs := ?xs) (v := ?v) ?h ?a ?_); (case h => walk_at "hp"); (case a => exact rfl))
  | ((with_reducible refine rd_sxL (xs := ?xs) (v := ?v) ?h ?a ?_); (case h => walk_at "hp"); (case a => exact rfl))
  | (with_reducible refine rd_I0 ?_)
  | ((with_reducible refine rd_I ?c ?_); (case c => walk_at "side"))
  | ((with_reducible refine rd_name (τ := ?t) ?e ?_); (case e => exact rfl))
  | (with_reducible refine rd_seq ?_)
  | (with_reducible refine rd_asg ?_)
  | (with_reducible refine rd_call ?_)
  | (with_reducible refine rd_CB ?_)
  | (with_reducible refine rd_tup ?_)
  | ((with_reducible refine rd_new ?h ?_); (case h => exact rfl))
  | (with_reducible refine rd_test ?_)
  | (with_reducible refine rd_bl ?_)
  | (with_reducible refine rd_U ?_)
  | (with_reducible refine rd_un ?_)
  | (with_reducible refine rd_neI ?_)
  | (with_reducible refine rd_eqI ?_)
  | (with_reducible refine rd_tpar ?_)
  | (with_reducible refine rd_lc ?_)
  | (with_reducible refine rd_iTup ?_)
  | (with_reducible refine rd_iLst ?_)
  | (with_reducible refine rd_iR1 ?_)
  | (with_reducible refine rd_BM ?_)
  | ((with_reducible refine rd_iTupA (xs := ?xs) ?h ?_); (case h => walk_at "hp"))
  | ((with_reducible refine rd_iLstA (xs := ?xs) ?h ?_); (case h => walk_at "hp"))
  | ((with_reducible refine rd_tyl (xs := ?xs) ?h ?_); (case h => walk_at "hp"))
  | ((with_reducible refine rd_app (xs := ?xs) ?h ?a ?_); (case h => walk_at "hp"); (case a => exact Nat.le_of_ble_eq_true rfl))
  | ((with_reducible refine rd_cat (xs := ?xs) (zs := ?zs) ?h ?k ?a ?_); (case h => walk_at "hp"); (case k => walk_at "hp"); (case a => exact Nat.le_of_ble_eq_true rfl))
  | ((with_reducible refine rd_rep (xs := ?xs) (ys := ?ys) ?h ?a ?b ?c ?_); (case h => walk_at "hp"); (case a => decide); (case b => exact Nat.le_of_ble_eq_true rfl); (case c => exact rfl))
  | (with_reducible refine rd_ret ?_)
  | (with_reducible refine rd_next ?_)
  | (with_reducible refine rd_drop ?_)
  | (with_reducible refine rd_ifS ?_)
  | (with_reducible refine rd_B ?_)
  | (with_reducible refine rd_not ?_)
  | (with_reducible refine rd_and ?_)
  | (with_reducible refine rd_or ?_)
  | (with_reducible refine rd_andV ?_)
  | (with_reducible refine rd_orV ?_)
  | (with_reducible refine rd_notV ?_)
  | (with_reducible refine rd_ifE ?_)
  | (with_reducible refine rd_lst ?_)
  | ((with_reducible refine rd_for1b ?h ?_); (case h => constructor <;> (repeat' split) <;> omega))
  | (with_reducible refine rd_one ?_)
  | (with_reducible refine rd_two ?_)
  | (with_reducible refine rd_int ?_)
  | (with_reducible refine rd_intB ?_)
  | (with_reducible refine rd_gcd ?_)
  | ((with_reducible refine rd_par (τ := ?t) ?e ?_); (case e => exact rfl))
  | (with_reducible refine rd_sub ?_)
  | (with_reducible refine rd_for1 ?_)
  | ((with_reducible refine rd_len (ys := ?ys) ?h ?_); (case h => walk_at "hp"))
  | ((with_reducible refine rd_lenTu (ys := ?ys) ?h ?_); (case h => walk_at "hp"))
  | ((with_reducible refine rd_repr (d := ?d) ?h ?a ?b ?c ?_); (case h => walk_at "dp"); (case a => walk_at "small"); (case b => walk_at "small"); (case c => simp only [PyData.depth, PyData.depthAll]; omega))
  | ((with_reducible refine rd_nsame ?h ?_); (case h => exact rfl))
  | ((with_reducible refine rd_same ?h ?_); (case h => exact rfl))
  | ((with_reducible refine rd_gtup (xs := ?xs) ?h ?a ?_); (case h => walk_at "hp"); (case a => exact rfl))
  | (with_reducible refine rd_gcons ?_)
  | (with_reducible refine rd_gnil ?_)
  | ((with_reducible refine rd_isiI (b := true) ?a ?_); (case a => decide +kernel))
  | ((with_reducible refine rd_isiI (b := false) ?a ?_); (case a => decide +kernel))
  | ((with_reducible refine rd_isiB (b := true) ?a ?_); (case a => decide +kernel))
  | ((with_reducible refine rd_isiB (b := false) ?a ?_); (case a => decide +kernel))
  | ((with_reducible refine rd_isiN (b := true) ?a ?_); (case a => decide +kernel))
  | ((with_reducible refine rd_isiN (b := false) ?a ?_); (case a => decide +kernel))
  | ((with_reducible refine rd_isiS (b := true) ?a ?_); (case a => decide +kernel))
  | ((with_reducible refine rd_isiS (b := false) ?a ?_); (case a => decide +kernel))
  | ((with_reducible refine rd_isiT (b := true) (xs := ?xs) ?h ?a ?_); (case a => decide +kernel); (case h => walk_at "hp"))
  | ((with_reducible refine rd_isiT (b := false) (xs := ?xs) ?h ?a ?_); (case a => decide +kernel); (case h => walk_at "hp"))
  | ((with_reducible refine rd_isiL (b := true) (xs := ?xs) ?h ?a ?_); (case a => decide +kernel); (case h => walk_at "hp"))
  | ((with_reducible refine rd_isiL (b := false) (xs := ?xs) ?h ?a ?_); (case a => decide +kernel); (case h => walk_at "hp"))
  | ((with_reducible refine rd_isi (t := ?t) (b := true) ?h ?a ?_); (case h => assumption); (case a => decide +kernel))
  | ((with_reducible refine rd_isi (t := ?t) (b := false) ?h ?a ?_); (case h => assumption); (case a => decide +kernel))
  | (with_reducible refine rd_chain ?_)
  | ((with_reducible refine rd_eqDs (d := ?d) ?h ?k ?s ?_); (case h => walk_at "dp"); (case k => walk_at "dp"); (case s => first | rfl | decide | simp [SeqAt.shaped]))
  | ((with_reducible refine rd_neDs (d := ?d) ?h ?k ?s ?_); (case h => walk_at "dp"); (case k => walk_at "dp"); (case s => first | rfl | decide | simp [SeqAt.shaped]))
  | ((with_reducible refine rd_setL (xs := ?xs) (ys := ?ys) (j := ?j) ?h ?a ?e ?_); (case h => walk_at "hp"); (case a => exact rfl); (case e => exact rfl))))
local macro_rules | `(tactic| walk_at "rdm1") => `(tactic| (first
  | ((with_reducible refine rd_md ?c ?_); (case c => first | omega | decide); intro r r0 r1)
  | walk_at "rd1"))
local macro_rules | `(tactic| walk_at "rdm") => `(tactic| (repeat walk_at "rdm1"))
local macro_rules | `(tactic| walk_at "rd") => `(tactic| (repeat walk_at "rd1"))

/-! ### the drawing -/
theorem prime_at {n : Int} (h0 : 0 ≤ n) (h : n < 7) : ∃ p, atI [V.int 2147483647, V.int 2147483629, V.int 2147483587, V.int 2147483579, V.int 2147483563, V.int 2147483549, V.int 2147483543] n = some (.int p) ∧ 0 < p ∧ p ≤ 2147483647 := by
  obtain ⟨p, e, m⟩ := pick_int (ns := [2147483647, 2147483629, 2147483587, 2147483579, 2147483563, 2147483549, 2147483543]) h0 h
  refine ⟨p, e, ?_⟩
  simp only [List.mem_cons, List.not_mem_nil, or_false] at m
  omega
theorem rd_prime {K : PySem.W.Frag} {H : Hp} {t : Addr} {i : Int} {Q : VK} (h : H t = some (.tup [V.int 2147483647, V.int 2147483629, V.int 2147483587, V.int 2147483579, V.int 2147483563, V.int 2147483549, V.int 2147483543]))
    (h0 : 0 ≤ i) (h1 : i < 7) (q : ∀ p : Int, 0 < p → p ≤ 2147483647 → Q (.int p) H) : rIx K (.ref t) (.int i) H Q := by
  obtain ⟨p, e, p0, p1⟩ := prime_at h0 h1
  exact rd_sxT (SqT.of h) e (q p p0 p1)
def sp__law_bag (K : PySem.W.Frag) : Sp := fun vs H Q _ => ∃ (a : Addr) (ns : List Int) (n : Int), vs = [.ref a, .int n] ∧ Scr K H a (ns.map V.int) ∧ ns.length ≤ 63 ∧ 0 ≤ n ∧ n ≤ 62 ∧
  ∀ b J, H b = none → Same H J → Bag b J → Q (.ref b) J
theorem ar__law_bag (K : PySem.W.Frag) : ∀ vs H Q E, sp__law_bag K vs H Q E → vs.length = 2 := by
  intro vs H Q E h
  obtain ⟨a, ns, n, rfl, _⟩ := h
  rfl
abbrev S__law_bag : Stmt := top 12
abbrev N__law_bag : List Str := ["_law_script", "_law_at", "_law_primes", "_law_cell", "_law_large", "_law_mixed"]
theorem sc__law_bag : FnScope N__law_bag ["_law_script", "_law_at"] (defScope S__law_bag) := ⟨rfl, rfl, rfl, by decide +kernel, rfl, by decide +kernel, by decide +kernel⟩
theorem ok__law_bag {P : Program} {w : World} {K : PySem.W.Frag} {mg : Str → Option Value} {base : Heap} {f : Addr} {fd : FuncData} (F : Fun K "_law_bag" "_law_bag" S__law_bag f fd) (m_abs : mg "abs" = none) (m_len : mg "len" = none) :
    FnG P w K mg base CX0 1 f fd ["_law_script", "_law_at"] (sp__law_bag K) := by
  refine Fun_okG F sc__law_bag (ar__law_bag K) (fun cdv A outer s H vs Q E hg hr h => ?_)
  obtain ⟨a, ns, n, rfl, hS, hl, n0, n1, q⟩ := h
  refine ⟨_, (pss_cons (ps_set (i := 2) sc__law_bag.nd rfl (Or.inl rfl) (pe_tup (pa_cons pe_int (pa_cons pe_int (pa_cons pe_int (pa_cons pe_int (pa_cons pe_int (pa_cons pe_int (pa_cons pe_int pa_nil)))))))))
    (pss_cons (ps_set (i := 3) sc__law_bag.nd rfl (Or.inl rfl) (pe_ifExp (pt_cmpR op_lt (pv 1) (pe_callB (id := "len") (lenK (K := K) rfl) (by rfl) m_len (by decide +kernel) (pa_cons (pv 0) pa_nil)) (nomark _)) (pe_ix (ixK (K := K) rfl) (pv 0) (pv 1) (fun _ _ => rfl)) pe_int))
    (pss_cons (ps_set (i := 4) sc__law_bag.nd rfl (Or.inl rfl) (pe_ifExp (pt_cmpR op_ge (pe_callB (id := "abs") call_abs (by rfl) m_abs (by decide +kernel) (pa_cons (pv 3) pa_nil)) (pe_op op_pow pe_int pe_int) (nomark _)) (pe_callB (id := "abs") call_abs (by rfl) m_abs (by decide +kernel) (pa_cons (pv 3) pa_nil)) pe_int))
    (pss_cons (ps_set (i := 5) sc__law_bag.nd rfl (Or.inl rfl) (pe_op op_modN (pe_op op_pow (pe_op op_add (pe_op op_add (pe_op op_modN (pv 3) pe_int) (pe_op op_ml pe_int (pv 1))) pe_int) pe_int) (pe_ix (ixK (K := K) rfl) (pv 2) (pe_op op_modN (pv 1) pe_int) (fun _ _ => rfl))))
    (pss_one (ps_ret (pe_lst (pa_cons (pv 4) (pa_cons (pe_op op_add (pe_op op_modN (pe_op op_ml (pv 5) (pe_op op_add (pe_op op_add (pe_op op_dv (pv 5) pe_int) (pe_op op_ml pe_int (pv 1))) pe_int)) (pe_ix (ixK (K := K) rfl) (pv 2) (pe_op op_modN (pe_op op_add (pv 1) pe_int) pe_int) (fun _ _ => rfl))) pe_int) pa_nil))))))))), ?_⟩
  walk_at "rd"
  intro t nt
  have hS2 : Scr K (upd H t (.tup [V.int 2147483647, V.int 2147483629, V.int 2147483587, V.int 2147483579, V.int 2147483563, V.int 2147483549, V.int 2147483543])) a (ns.map V.int) := by walk_at "hp"
  walk_at "rd"
  refine rd_if (fun c => ?_) (fun c => ?_)
  · rw [List.length_map] at c
    obtain ⟨v, hv, _⟩ := pick_int (ns := ns) n0 c
    walk_at "rd"
    refine rd_sxL hS2.sq hv ?_
    walk_at "rd"
    refine rd_if (fun c2 => ?_) (fun c2 => ?_)
    all_goals walk_at "rdm"
    all_goals refine rd_prime (by walk_at "hp") (by omega) (by omega) (fun p1 p1a p1b => ?_)
    all_goals walk_at "rdm"
    all_goals refine rd_prime (by walk_at "hp") (by omega) (by omega) (fun p2 p2a p2b => ?_)
    all_goals walk_at "rdm"
    all_goals intro p np
    all_goals exact q _ _ ((same_new nt).free np) ((same_new nt).trans (same_new np)) ⟨_, _, upd_same⟩
  · walk_at "rd"
    refine rd_if (fun c2 => ?_) (fun c2 => ?_)
    all_goals walk_at "rdm"
    all_goals refine rd_prime (by walk_at "hp") (by omega) (by omega) (fun p1 p1a p1b => ?_)
    all_goals walk_at "rdm"
    all_goals refine rd_prime (by walk_at "hp") (by omega) (by omega) (fun p2 p2a p2b => ?_)
    all_goals walk_at "rdm"
    all_goals intro p np
    all_goals exact q _ _ ((same_new nt).free np) ((same_new nt).trans (same_new np)) ⟨_, _, upd_same⟩
def sp__law_take (K : PySem.W.Frag) : Sp := fun vs H Q _ => ∃ (b : Addr) (n : Int), vs = [.ref b, .int n] ∧ Bag b H ∧ 0 < n ∧ n.natAbs < 2 ^ 400 ∧ ∀ (r : Int) J, 0 ≤ r → r < n → Kp b H J → Bag b J → Q (.int r) J
theorem ar__law_take (K : PySem.W.Frag) : ∀ vs H Q E, sp__law_take K vs H Q E → vs.length = 2 := by
  intro vs H Q E h
  obtain ⟨b, n, rfl, _⟩ := h
  rfl
abbrev S__law_take : Stmt := top 13
abbrev N__law_take : List Str := ["_law_bag_here", "_law_size", "_law_digit"]
theorem sc__law_take : FnScope N__law_take ["_law_bag_here", "_law_size"] (defScope S__law_take) := ⟨rfl, rfl, rfl, by decide +kernel, rfl, by decide +kernel, by decide +kernel⟩
theorem ok__law_take {P : Program} {w : World} {K : PySem.W.Frag} {mg : Str → Option Value} {base : Heap} {f : Addr} {fd : FuncData} (F : Fun K "_law_take" "_law_take" S__law_take f fd) :
    FnG P w K mg base CX0 1 f fd ["_law_bag_here", "_law_size"] (sp__law_take K) := by
  refine Fun_okG F sc__law_take (ar__law_take K) (fun cdv A outer s H vs Q E hg hr h => ?_)
  obtain ⟨b, n, rfl, ⟨x, y, hb⟩, n0, n1, q⟩ := h
  refine ⟨_, (pss_cons (ps_if (pt_cmpR op_gt (pe_ix (ixK (K := K) rfl) (pv 0) pe_int (fun _ _ => rfl)) pe_int (nomark _)) (pss_cons (ps_set (i := 2) sc__law_take.nd rfl (Or.inl rfl) (pe_op op_modN (pe_ix (ixK (K := K) rfl) (pv 0) pe_int (fun _ _ => rfl)) (pv 1)))
    (pss_cons (ps_asg (pe_op op_dv (pe_ix (ixK (K := K) rfl) (pv 0) pe_int (fun _ _ => rfl)) (pv 1)) (pg_sub (pv 0) pe_int set_list))
    (pss_one (ps_ret (pv 2))))) pss_nil)
    (pss_cons (ps_asg (pe_op op_modN (pe_op op_ml (pe_ix (ixK (K := K) rfl) (pv 0) pe_int (fun _ _ => rfl)) pe_int) pe_int) (pg_sub (pv 0) pe_int set_list))
    (pss_one (ps_ret (pe_op op_modN (pe_op op_dv (pe_op op_modN (pe_op op_ml (pe_ix (ixK (K := K) rfl) (pv 0) pe_int (fun _ _ => rfl)) pe_int) pe_int) (pe_op op_pow pe_int pe_int)) (pv 1)))))), ?_⟩
  walk_at "rd"
  refine rd_if (fun c => ?_) (fun c => ?_)
  · walk_at "rd"
    exact q _ _ (fmod_rng n0).1 (fmod_rng n0).2 Kp.at ⟨_, _, upd_same⟩
  · walk_at "rd"
    exact q _ _ (fmod_rng n0).1 (fmod_rng n0).2 Kp.at ⟨_, _, upd_same⟩
def sp__law_part (K : PySem.W.Frag) : Sp := fun vs H Q _ => ∃ m n : Int, vs = [.int m, .int n] ∧ Q (.int (Int.gcd m n)) H
theorem ar__law_part (K : PySem.W.Frag) : ∀ vs H Q E, sp__law_part K vs H Q E → vs.length = 2 := by
  intro vs H Q E h
  obtain ⟨b, n, rfl, _⟩ := h
  rfl
abbrev S__law_part : Stmt := top 14
abbrev N__law_part : List Str := ["_law_one", "_law_other"]
theorem sc__law_part : FnScope N__law_part ["_law_one", "_law_other"] (defScope S__law_part) := ⟨rfl, rfl, rfl, by decide +kernel, rfl, by decide +kernel, by decide +kernel⟩
theorem ok__law_part {P : Program} {w : World} {K : PySem.W.Frag} {mg : Str → Option Value} {base : Heap} {f : Addr} {fd : FuncData} (F : Fun K "_law_part" "_law_part" S__law_part f fd) (m_abs : mg "abs" = none) :
    FnG P w K mg base CX0 1 f fd ["_law_one", "_law_other"] (sp__law_part K) := by
  refine Fun_okG F sc__law_part (ar__law_part K) (fun cdv A outer s H vs Q E hg hr h => ?_)
  obtain ⟨m, n, rfl, q⟩ := h
  refine ⟨_, (pss_cons (ps_while PassesOwn.never (pt_cmpR op_ne (pv 1) pe_int (nomark _)) (pss_one (ps_par (i := 0) (j := 1) rfl sc__law_part.nd rfl rfl (by decide) rfl rfl (pa_cons (pv 1) (pa_cons (pe_op op_modN (pv 0) (pv 1)) pa_nil)) (by rfl))))
    (pss_one (ps_ret (pe_callB (id := "abs") call_abs (by rfl) m_abs (by decide +kernel) (pa_cons (pv 0) pa_nil))))), ?_⟩
  walk_at "rd"
  refine while_by (fun σ' H' => ∃ x y : Int, σ' = [some (.int x), some (.int y)] ∧ H' = H ∧ Int.gcd x y = Int.gcd m n) (fun σ' _ => msr σ') ⟨m, n, rfl, rfl, rfl⟩ (fun σ' H' w => ?_) fun σ' H' R R' f h => ?_
  · obtain ⟨x, y, rfl, rfl, e⟩ := w
    walk_at "rd"
    refine rd_ifn (fun c => ?_) (fun c => ?_)
    · walk_at "rd"
      exact ⟨⟨_, _, rfl, rfl, by rw [gcd_turn]; exact e⟩, fmod_abs c⟩
    · subst c
      walk_at "rd"
      have e2 : (if x < 0 then -x else x) = ((Int.gcd m n : Nat) : Int) := by
        rw [← e, Int.gcd_zero_right]
        split <;> omega
      rw [e2]
      exact q
  · obtain ⟨v, h1, h2, k, h3, h4⟩ := h
    exact ⟨v, h1, h2, k, h3, f _ _ h4⟩

def sp__law_lowest (K : PySem.W.Frag) : Sp := fun vs H Q _ => ∃ t u : Int, vs = [.int t, .int u] ∧ u ≠ 0 ∧ Bd 8000 u ∧ ∀ x y p J, IsLow t u x y → H p = none → Same H J → J p = some (.tup [.int x, .int y]) → Q (.ref p) J
theorem ar__law_lowest (K : PySem.W.Frag) : ∀ vs H Q E, sp__law_lowest K vs H Q E → vs.length = 2 := by
  intro vs H Q E h
  obtain ⟨b, n, rfl, _⟩ := h
  rfl
abbrev S__law_lowest : Stmt := top 15
abbrev N__law_lowest : List Str := ["_law_top", "_law_under", "_law_part_here"]
theorem sc__law_lowest : FnScope N__law_lowest ["_law_top", "_law_under"] (defScope S__law_lowest) := ⟨rfl, rfl, rfl, by decide +kernel, rfl, by decide +kernel, by decide +kernel⟩
theorem ok__law_lowest {P : Program} {w : World} {K : PySem.W.Frag} {mg : Str → Option Value} {base : Heap} {f : Addr} {fd : FuncData} (F : Fun K "_law_lowest" "_law_lowest" S__law_lowest f fd) {f__law_part : Addr} {fd__law_part : FuncData} (C__law_part : Cal P w K mg base "_law_part" 1 f__law_part fd__law_part ["_law_one", "_law_other"] (sp__law_part K)) :
    FnG P w K mg base CX0 2 f fd ["_law_top", "_law_under"] (sp__law_lowest K) := by
  refine Fun_okG F sc__law_lowest (ar__law_lowest K) (fun cdv A outer s H vs Q E hg hr h => ?_)
  obtain ⟨t, u, rfl, u0, hu, q⟩ := h
  refine ⟨_, (pss_cons (ps_set (i := 2) sc__law_lowest.nd rfl (Or.inl rfl) (pe_c C__law_part hg (hr.mono (by decide)) rfl (pa_cons (pv 0) (pa_cons (pv 1) pa_nil))))
    (pss_cons (ps_if (pt_cmpR op_lt (pv 1) pe_int (nomark _)) (pss_one (ps_set (i := 2) sc__law_lowest.nd rfl (Or.inl rfl) (pe_un un_neg (pv 2)))) pss_nil)
    (pss_one (ps_ret (pe_tup (pa_cons (pe_op op_dv (pv 0) (pv 2)) (pa_cons (pe_op op_dv (pv 1) (pv 2)) pa_nil))))))), ?_⟩
  walk_at "rd"
  refine ⟨t, u, rfl, ?_⟩
  walk_at "rd"
  refine rd_if (fun c => ?_) (fun c => ?_)
  · walk_at "rd"
    obtain ⟨h1, h2, h3⟩ := low_at (t := t) u0 (s := -((Int.gcd t u : Nat) : Int)) (by rw [if_pos c])
    refine rd_I (rd_dvB _ h2 (hu.le h3)) ?_
    walk_at "rd"
    refine rd_I (rd_dvB _ h2 (hu.le h3)) ?_
    walk_at "rd"
    intro p np
    exact q _ _ _ _ h1 np (same_new np) upd_same
  · walk_at "rd"
    obtain ⟨h1, h2, h3⟩ := low_at (t := t) u0 (s := ((Int.gcd t u : Nat) : Int)) (by rw [if_neg c])
    refine rd_I (rd_dvB _ h2 (hu.le h3)) ?_
    walk_at "rd"
    refine rd_I (rd_dvB _ h2 (hu.le h3)) ?_
    walk_at "rd"
    intro p np
    exact q _ _ _ _ h1 np (same_new np) upd_same

local macro_rules | `(tactic| walk_at "hp_3") => `(tactic| (first
  | assumption
  | exact L2.upd_same
  | (with_reducible exact TupC.sq (by assumption) _)
  | ((with_reducible refine SqT.of ?h); (case h => walk_at "hp_3"))
  | ((with_reducible refine sqt_same (H := ?hh) ?k ?h); (case k => assumption); (case h => walk_at "hp_3"))
  | ((with_reducible refine sqt_bag (b := ?bb) (H := ?hh) ?k ?g ?h); (case k => assumption); (case g => walk_at "hp_3"); (case h => walk_at "hp_3"))
  | ((with_reducible refine sqt_pu (l := ?ll) (H := ?hh) ?k ?h); (case k => assumption); (case h => walk_at "hp_3"))
  | ((with_reducible refine sqt_new ?k ?h); (case k => assumption); (case h => walk_at "hp_3"))
  | ((with_reducible refine SqL.of ?h); (case h => walk_at "hp_3"))
  | ((with_reducible refine Scr.sq ?h); (case h => walk_at "hp_3"))
  | ((with_reducible refine Bag.new ?h ?k); (case h => walk_at "hp_3"); (case k => assumption))
  | ((with_reducible refine Scr.new ?k ?h); (case k => assumption); (case h => walk_at "hp_3"))
  | ((with_reducible refine Scr.kp (b := ?bb) (H := ?hh) ?k ?g ?h); (case k => assumption); (case g => walk_at "hp_3"); (case h => walk_at "hp_3"))
  | ((with_reducible refine Bag.same (H := ?hh) ?k ?h); (case k => assumption); (case h => walk_at "hp_3"))
  | ((with_reducible refine Scr.same (H := ?hh) ?k ?h); (case k => assumption); (case h => walk_at "hp_3"))
  | ((with_reducible refine same_any (H := ?hh) ?k ?h); (case k => assumption); (case h => walk_at "hp_3"))
  | ((with_reducible refine new_any ?k ?h); (case k => assumption); (case h => walk_at "hp_3"))
  | ((with_reducible refine set_tup (ys := ?ys) ?k ?h); (case k => assumption); (case h => walk_at "hp_3"))
  | ((with_reducible refine Bag.put ?k ?h); (case k => assumption); (case h => walk_at "hp_3"))
  | ((with_reducible refine Kp.tup (b := ?bb) (H := ?hh) ?k ?g ?h); (case k => assumption); (case g => walk_at "hp_3"); (case h => walk_at "hp_3"))
  | ((with_reducible refine Pu.bag (l := ?ll) (H := ?hh) ?k ?n ?h); (case k => assumption); (case n => walk_at "hp_3"); (case h => walk_at "hp_3"))
  | ((with_reducible refine Pu.scr (l := ?ll) (H := ?hh) ?k ?h); (case k => assumption); (case h => walk_at "hp_3"))
  | ((with_reducible refine Pu.tup (l := ?ll) (H := ?hh) ?k ?h); (case k => assumption); (case h => walk_at "hp_3"))
  | ((with_reducible refine Pu.lst (l := ?ll) (H := ?hh) ?k ?n ?h); (case k => assumption); (case n => walk_at "hp_3"); (case h => walk_at "hp_3"))
  | ((with_reducible refine Kp.lst (b := ?bb) (H := ?hh) ?k ?g ?h); (case k => assumption); (case g => walk_at "hp_3"); (case h => walk_at "hp_3"))
  | ((with_reducible refine Bag.off (H := ?hh) ?h ?g); (case h => assumption); (case g => walk_at "hp_3"))
  | (with_reducible exact Kp.refl)
  | (with_reducible exact Kp.new (by assumption))))
local macro_rules | `(tactic| walk_at "dp_3") => `(tactic| (first
  | exact Dp.int _
  | exact Dp.bl _
  | exact Dp.non
  | exact Dp.str _
  | exact DpAll.nil
  | ((refine DpAll.cons (d := ?d) (ds := ?ds) ?h ?k); (case h => walk_at "dp_3"); (case k => walk_at "dp_3"))
  | ((refine Dp.lst (xs := ?xs) (ds := ?ds) ?h ?k); (case h => walk_at "hp_3"); (case k => walk_at "dp_3"))
  | ((refine Dp.tup (xs := ?xs) (ds := ?ds) ?h ?k); (case h => walk_at "hp_3"); (case k => walk_at "dp_3"))))
local macro_rules | `(tactic| walk_at "small_3") => `(tactic| first | decide +kernel | (simp only [sm, sms, sz, szs, Bool.and_true, Bool.and_eq_true, decide_eq_true_eq, and_true, true_and]; (first | done | omega | (repeat' constructor) <;> first | omega | decide +kernel)))
local macro_rules | `(tactic| walk_at "side_3") => `(tactic| (first
  | ((with_reducible show IntMulOk _ _); first | exact rd_mulB (by assumption) (by assumption) | (refine rd_mulok ?_; omega))
  | ((with_reducible show CDv _ _); exact rd_dvB _ (Int.ne_of_gt (by assumption)) (by assumption))
  | ((with_reducible show CDv _ _); refine rd_dvI _ ?_ ?_ <;> first | assumption | omega | decide)
  | ((with_reducible show CPow _ _); exact ⟨by decide, by decide, by first | decide | omega⟩)
  | omega
  | assumption
  | decide
  | (refine rd_mulB (m := 400) (n := 400) (Bd.lit ?_) (Bd.lit ?_) <;> decide +kernel)))
local macro_rules | `(tactic| walk_at "rd1_3") => `(tactic| (first
  | ((with_reducible refine rd_var (v := ?v) ?h ?_); (case h => exact rfl))
  | (with_reducible refine rd_c ?_)
  | (with_reducible refine rd_op ?_)
  | (with_reducible refine rd_cons ?_)
  | (with_reducible refine rd_nil ?_)
  | ((with_reducible refine rd_sxT (xs := ?xs) (v := ?v) ?h ?a ?_); (case h => walk_at "hp_3"); (case a => exact rfl))
  | ((with_reducible refine rd_sxL (xs := ?xs) (v := ?v) ?h ?a ?_); (case h => walk_at "hp_3"); (case a => exact rfl))
  | (with_reducible refine rd_I0 ?_)
  | ((with_reducible refine rd_I ?c ?_); (case c => walk_at "side_3"))
  | ((with_reducible refine rd_name (τ := ?t) ?e ?_); (case e => exact rfl))
  | (with_reducible refine rd_seq ?_)
  | (with_reducible refine rd_asg ?_)
  | (with_reducible refine rd_call ?_)
  | (with_reducible refine rd_CB ?_)
  | (with_reducible refine rd_tupK ?_)
  | ((with_reducible refine rd_kT ?h ?_); (case h => exact rfl); intro p J np sJ eJ)
  | ((with_reducible refine rd_new ?h ?_); (case h => exact rfl))
  | (with_reducible refine rd_test ?_)
  | (with_reducible refine rd_bl ?_)
  | (with_reducible refine rd_U ?_)
  | (with_reducible refine rd_un ?_)
  | (with_reducible refine rd_neI ?_)
  | (with_reducible refine rd_eqI ?_)
  | (with_reducible refine rd_tpar ?_)
  | (with_reducible refine rd_sl ?_)
  | (with_reducible refine rd_part ?_)
  | (with_reducible refine rd_partI ?_)
  | (with_reducible refine rd_nopart ?_)
  | ((with_reducible refine rd_slL (xs := ?xs) (ys := ?ys) ?h ?e ?_); (case h => walk_at "hp_3"); (case e => exact rfl); intro p J np sJ eJ)
  | (with_reducible refine rd_zip ?_)
  | ((with_reducible refine rd_zipA (xs := ?xs) (ys := ?ys) ?h ?k ?_); (case h => walk_at "hp_3"); (case k => walk_at "hp_3"))
  | ((with_reducible refine rd_isiQ (b := true) (xs := ?xs) ?h ?a ?_); (case a => decide +kernel); (case h => walk_at "hp_3"))
  | ((with_reducible refine rd_isiQ (b := false) (xs := ?xs) ?h ?a ?_); (case a => decide +kernel); (case h => walk_at "hp_3"))
  | (with_reducible refine rd_lc ?_)
  | (with_reducible refine rd_iTup ?_)
  | (with_reducible refine rd_iLst ?_)
  | (with_reducible refine rd_iR1 ?_)
  | (with_reducible refine rd_BM ?_)
  | ((with_reducible refine rd_iTupA (xs := ?xs) ?h ?_); (case h => walk_at "hp_3"))
  | ((with_reducible refine rd_iLstA (xs := ?xs) ?h ?_); (case h => walk_at "hp_3"))
  | ((with_reducible refine rd_tyl (xs := ?xs) ?h ?_); (case h => walk_at "hp_3"))
  | ((with_reducible refine rd_appK (xs := ?xs) ?h ?a ?_); (case h => walk_at "hp_3"); (case a => exact Nat.le_of_ble_eq_true rfl); intro J pJ eJ)
  | ((with_reducible refine rd_catK (xs := ?xs) (zs := ?zs) ?h ?k ?a ?_); (case h => walk_at "hp_3"); (case k => walk_at "hp_3"); (case a => exact Nat.le_of_ble_eq_true rfl); intro p J np sJ eJ)
  | ((with_reducible refine rd_repK (xs := ?xs) (ys := ?ys) ?h ?a ?b ?c ?_); (case h => walk_at "hp_3"); (case a => decide); (case b => exact Nat.le_of_ble_eq_true rfl); (case c => exact rfl); intro p J np sJ eJ)
  | (with_reducible refine rd_ret ?_)
  | (with_reducible refine rd_next ?_)
  | (with_reducible refine rd_drop ?_)
  | (with_reducible refine rd_ifS ?_)
  | (with_reducible refine rd_B ?_)
  | (with_reducible refine rd_not ?_)
  | (with_reducible refine rd_and ?_)
  | (with_reducible refine rd_or ?_)
  | (with_reducible refine rd_andV ?_)
  | (with_reducible refine rd_orV ?_)
  | (with_reducible refine rd_notV ?_)
  | (with_reducible refine rd_ifE ?_)
  | (with_reducible refine rd_lstK ?_)
  | ((with_reducible refine rd_kL ?h ?_); (case h => exact rfl); intro p J np sJ eJ)
  | ((with_reducible refine rd_for1b ?h ?_); (case h => constructor <;> (repeat' split) <;> omega))
  | (with_reducible refine rd_one ?_)
  | (with_reducible refine rd_two ?_)
  | (with_reducible refine rd_int ?_)
  | (with_reducible refine rd_intB ?_)
  | (with_reducible refine rd_gcd ?_)
  | ((with_reducible refine rd_par (τ := ?t) ?e ?_); (case e => exact rfl))
  | (with_reducible refine rd_sub ?_)
  | (with_reducible refine rd_for1 ?_)
  | ((with_reducible refine rd_len (ys := ?ys) ?h ?_); (case h => walk_at "hp_3"))
  | ((with_reducible refine rd_lenTu (ys := ?ys) ?h ?_); (case h => walk_at "hp_3"))
  | ((with_reducible refine rd_repr (d := ?d) ?h ?a ?b ?c ?_); (case h => walk_at "dp_3"); (case a => walk_at "small_3"); (case b => walk_at "small_3"); (case c => simp only [PyData.depth, PyData.depthAll]; omega))
  | ((with_reducible refine rd_nsame ?h ?_); (case h => exact rfl))
  | ((with_reducible refine rd_same ?h ?_); (case h => exact rfl))
  | ((with_reducible refine rd_gtup (xs := ?xs) ?h ?a ?_); (case h => walk_at "hp_3"); (case a => exact rfl))
  | (with_reducible refine rd_gcons ?_)
  | (with_reducible refine rd_gnil ?_)
  | ((with_reducible refine rd_isiI (b := true) ?a ?_); (case a => decide +kernel))
  | ((with_reducible refine rd_isiI (b := false) ?a ?_); (case a => decide +kernel))
  | ((with_reducible refine rd_isiB (b := true) ?a ?_); (case a => decide +kernel))
  | ((with_reducible refine rd_isiB (b := false) ?a ?_); (case a => decide +kernel))
  | ((with_reducible refine rd_isiN (b := true) ?a ?_); (case a => decide +kernel))
  | ((with_reducible refine rd_isiN (b := false) ?a ?_); (case a => decide +kernel))
  | ((with_reducible refine rd_isiS (b := true) ?a ?_); (case a => decide +kernel))
  | ((with_reducible refine rd_isiS (b := false) ?a ?_); (case a => decide +kernel))
  | ((with_reducible refine rd_isiT (b := true) (xs := ?xs) ?h ?a ?_); (case a => decide +kernel); (case h => walk_at "hp_3"))
  | ((with_reducible refine rd_isiT (b := false) (xs := ?xs) ?h ?a ?_); (case a => decide +kernel); (case h => walk_at "hp_3"))
  | ((with_reducible refine rd_isiL (b := true) (xs := ?xs) ?h ?a ?_); (case a => decide +kernel); (case h => walk_at "hp_3"))
  | ((with_reducible refine rd_isiL (b := false) (xs := ?xs) ?h ?a ?_); (case a => decide +kernel); (case h => walk_at "hp_3"))
  | ((with_reducible refine rd_isi (t := ?t) (b := true) ?h ?a ?_); (case h => assumption); (case a => decide +kernel))
  | ((with_reducible refine rd_isi (t := ?t) (b := false) ?h ?a ?_); (case h => assumption); (case a => decide +kernel))
  | (with_reducible refine rd_chain ?_)
  | ((with_reducible refine rd_eqR (x := ?x) (y := ?y) (u := ?u) (v := ?v) ?h ?k ?_); (case h => walk_at "hp_3"); (case k => walk_at "hp_3"))
  | ((with_reducible refine rd_eqDs (d := ?d) ?h ?k ?s ?_); (case h => walk_at "dp_3"); (case k => walk_at "dp_3"); (case s => first | rfl | decide | simp [SeqAt.shaped]))
  | ((with_reducible refine rd_neDs (d := ?d) ?h ?k ?s ?_); (case h => walk_at "dp_3"); (case k => walk_at "dp_3"); (case s => first | rfl | decide | simp [SeqAt.shaped]))
  | ((with_reducible refine rd_setL (xs := ?xs) (ys := ?ys) (j := ?j) ?h ?a ?e ?_); (case h => walk_at "hp_3"); (case a => exact rfl); (case e => exact rfl))))
local macro_rules | `(tactic| walk_at "rdm1_3") => `(tactic| (first
  | ((with_reducible refine rd_md ?c ?_); (case c => first | omega | decide); intro r r0 r1)
  | walk_at "rd1_3"))
local macro_rules | `(tactic| walk_at "rdm_3") => `(tactic| (repeat walk_at "rdm1_3"))
local macro_rules | `(tactic| walk_at "rd_3") => `(tactic| (repeat walk_at "rd1_3"))
local macro_rules | `(tactic| walk_at "kp_3") => `(tactic| (first
  | exact Kp.refl
  | assumption
  | ((refine Kp.trans (J := ?m) ?a ?b); (case b => first | assumption | exact Kp.of (by assumption)); (case a => walk_at "kp_3"))))

/-! ### is_int, is_ratio -/
def IsTy (K : PySem.W.Frag) (H : Hp) (v : V) (t : String) : Prop := TyX K H v (.type t) ∧ (t = "NoneType" ∨ t = "bool" ∨ t = "int" ∨ t = "str" ∨ t = "list" ∨ t = "tuple")
def sp_is_int (K : PySem.W.Frag) : Sp := fun vs H Q _ => ∃ v t, vs = [v] ∧ IsTy K H v t ∧ Q (.bl (decide (t = "int"))) H
theorem ar_is_int (K : PySem.W.Frag) : ∀ vs H Q E, sp_is_int K vs H Q E → vs.length = 1 := by
  intro vs H Q E h
  obtain ⟨v, t, rfl, _⟩ := h
  rfl
abbrev S_is_int : Stmt := top 4
abbrev N_is_int : List Str := ["thing"]
theorem sc_is_int : FnScope N_is_int ["thing"] (defScope S_is_int) := ⟨rfl, rfl, rfl, by decide +kernel, rfl, by decide +kernel, by decide +kernel⟩
theorem ok_is_int {P : Program} {w : World} {K : PySem.W.Frag} {mg : Str → Option Value} {base : Heap} {f : Addr} {fd : FuncData} (F : Fun K "is_int" "is_int" S_is_int f fd) (m_isinstance : mg "isinstance" = none) (m_bool : mg "bool" = none) (m_int : mg "int" = none) :
    FnG P w K mg base CX0 1 f fd ["thing"] (sp_is_int K) := by
  refine Fun_okG F sc_is_int (ar_is_int K) (fun cdv A outer s H vs Q E hg hr h => ?_)
  obtain ⟨v, t, rfl, ⟨ty, ht⟩, q⟩ := h
  refine ⟨_, (pss_one (ps_ret (pe_and (pe_callB (id := "isinstance") (isiK (K := K) rfl) (by rfl) m_isinstance (by decide +kernel) (pa_cons (pv 0) (pa_cons (pe_bltn (v := V.ty "int") (u := Value.type "int") (by rfl) m_int (by decide +kernel) rfl) pa_nil))) (pe_one (pe_not (pe_callB (id := "isinstance") (isiK (K := K) rfl) (by rfl) m_isinstance (by decide +kernel) (pa_cons (pv 0) (pa_cons (pe_bltn (v := V.ty "bool") (u := Value.type "bool") (by rfl) m_bool (by decide +kernel) rfl) pa_nil)))))))), ?_⟩
  rcases ht with rfl | rfl | rfl | rfl | rfl | rfl
  · walk_at "rd_3"
    refine iteF ?_
    exact q
  · walk_at "rd_3"
    refine iteT ?_
    walk_at "rd_3"
    exact q
  · walk_at "rd_3"
    refine iteT ?_
    walk_at "rd_3"
    exact q
  · walk_at "rd_3"
    refine iteF ?_
    exact q
  · walk_at "rd_3"
    refine iteF ?_
    exact q
  · walk_at "rd_3"
    refine iteF ?_
    exact q

def sp_is_ratio (K : PySem.W.Frag) : Sp := fun vs H Q _ => ∃ (p : Addr) (x y : Int), vs = [.ref p] ∧ SqT K H p [.int x, .int y] ∧ Q (.bl (decide (0 < y) && decide (Int.gcd x y = 1))) H
theorem ar_is_ratio (K : PySem.W.Frag) : ∀ vs H Q E, sp_is_ratio K vs H Q E → vs.length = 1 := by
  intro vs H Q E h
  obtain ⟨p, x, y, rfl, _⟩ := h
  rfl
abbrev S_is_ratio : Stmt := top 5
abbrev N_is_ratio : List Str := ["thing", "top", "under"]
theorem sc_is_ratio : FnScope N_is_ratio ["thing"] (defScope S_is_ratio) := ⟨rfl, rfl, rfl, by decide +kernel, rfl, by decide +kernel, by decide +kernel⟩
theorem ok_is_ratio {P : Program} {w : World} {K : PySem.W.Frag} {mg : Str → Option Value} {base : Heap} {f : Addr} {fd : FuncData} (F : Fun K "is_ratio" "is_ratio" S_is_ratio f fd) {f_is_int : Addr} {fd_is_int : FuncData} (C_is_int : Cal P w K mg base "is_int" 1 f_is_int fd_is_int ["thing"] (sp_is_int K)) (c_gcd : mg "gcd" = some (.builtin "math.gcd")) (m_len : mg "len" = none) (m_isinstance : mg "isinstance" = none) (m_tuple : mg "tuple" = none) :
    FnG P w K mg base CX0 2 f fd ["thing"] (sp_is_ratio K) := by
  refine Fun_okG F sc_is_ratio (ar_is_ratio K) (fun cdv A outer s H vs Q E hg hr h => ?_)
  obtain ⟨p, x, y, rfl, h, q⟩ := h
  refine ⟨_, (pss_cons (ps_if (pt_not (PW.pt (pw_and (pt_val (pe_callB (id := "isinstance") (isiK (K := K) rfl) (by rfl) m_isinstance (by decide +kernel) (pa_cons (pv 0) (pa_cons (pe_bltn (v := V.ty "tuple") (u := Value.type "tuple") (by rfl) m_tuple (by decide +kernel) rfl) pa_nil)))) (pw_and1 (pt_cmpR op_eq (pe_callB (id := "len") (lenK (K := K) rfl) (by rfl) m_len (by decide +kernel) (pa_cons (pv 0) pa_nil)) pe_int (nomark _)))))) (pss_one (ps_ret pe_bl)) pss_nil)
    (pss_cons (ps_asg (pv 0) (pg_tup rfl (pgs_cons (pg_name (i := 1) sc_is_ratio.nd rfl (Or.inl rfl)) (pgs_cons (pg_name (i := 2) sc_is_ratio.nd rfl (Or.inl rfl)) pgs_nil))))
    (pss_cons (ps_if (pt_not (PW.pt (pw_and (pt_val (pe_c C_is_int hg (hr.mono (by decide)) rfl (pa_cons (pv 1) pa_nil))) (pw_and1 (pt_val (pe_c C_is_int hg (hr.mono (by decide)) rfl (pa_cons (pv 2) pa_nil))))))) (pss_one (ps_ret pe_bl)) pss_nil)
    (pss_one (ps_ret (pe_and (pe_cmpR op_gt (pv 2) pe_int (nomark _)) (pe_one (pe_cmpR op_eq (pe_callBfun cr_gcd rfl c_gcd (pa_cons (pv 1) (pa_cons (pv 2) pa_nil))) pe_int (nomark _))))))))), ?_⟩
  walk_at "rd_3"
  refine iteT ?_
  walk_at "rd_3"
  refine iteF ?_
  walk_at "rd_3"
  refine ⟨.int x, "int", rfl, ⟨.base (.int x), by simp⟩, ?_⟩
  walk_at "rd_3"
  refine iteT ?_
  walk_at "rd_3"
  refine ⟨.int y, "int", rfl, ⟨.base (.int y), by simp⟩, ?_⟩
  walk_at "rd_3"
  refine iteF ?_
  walk_at "rd_3"
  refine rd_if (fun c => ?_) (fun c => ?_)
  · walk_at "rd_3"
    have e : (decide (((Nat.gcd x.natAbs y.natAbs : Nat) : Int) = 1)) = (decide (0 < y) && decide (Int.gcd x y = 1)) := by
      rw [decide_eq_true c, Bool.true_and]
      exact decide_eq_decide.mpr (by show ((Int.gcd x y : Nat) : Int) = 1 ↔ _; omega)
    rw [e]
    exact q
  · rw [decide_eq_false c, Bool.false_and] at q
    exact q
def sp_is_less (K : PySem.W.Frag) : Sp := fun vs H Q _ => ∃ (p q : Addr) (x y u v : Int), vs = [.ref p, .ref q] ∧ SqT K H p [.int x, .int y] ∧ SqT K H q [.int u, .int v] ∧ Bd 1000 x ∧ Bd 1000 y ∧ Bd 1000 u ∧ Bd 1000 v ∧ Q (.bl (decide (x * v < u * y))) H
theorem ar_is_less (K : PySem.W.Frag) : ∀ vs H Q E, sp_is_less K vs H Q E → vs.length = 2 := by
  intro vs H Q E h
  obtain ⟨p, q, x, y, u, v, rfl, _⟩ := h
  rfl
abbrev S_is_less : Stmt := top 6
abbrev N_is_less : List Str := ["one", "other"]
theorem sc_is_less : FnScope N_is_less ["one", "other"] (defScope S_is_less) := ⟨rfl, rfl, rfl, by decide +kernel, rfl, by decide +kernel, by decide +kernel⟩
theorem ok_is_less {P : Program} {w : World} {K : PySem.W.Frag} {mg : Str → Option Value} {base : Heap} {f : Addr} {fd : FuncData} (F : Fun K "is_less" "is_less" S_is_less f fd) :
    FnG P w K mg base CX0 1 f fd ["one", "other"] (sp_is_less K) := by
  refine Fun_okG F sc_is_less (ar_is_less K) (fun cdv A outer s H vs Q E hg hr h => ?_)
  obtain ⟨p, q, x, y, u, v, rfl, hp, hq, bx, by_, bu, bv, k⟩ := h
  refine ⟨_, (pss_one (ps_ret (pe_cmpR op_lt (pe_op op_ml (pe_ix (ixK (K := K) rfl) (pv 0) pe_int (fun _ _ => rfl)) (pe_ix (ixK (K := K) rfl) (pv 1) pe_int (fun _ _ => rfl))) (pe_op op_ml (pe_ix (ixK (K := K) rfl) (pv 1) pe_int (fun _ _ => rfl)) (pe_ix (ixK (K := K) rfl) (pv 0) pe_int (fun _ _ => rfl))) (nomark _)))), ?_⟩
  walk_at "rd_3"
  exact k
theorem one_lit : Bd 1000 1 := Bd.lit (by decide +kernel)
theorem zero_lit : Bd 1000 0 := Bd.lit (by decide +kernel)
def sp__is_span (K : PySem.W.Frag) : Sp := fun vs H Q _ => ∃ (r : V) (s : Sn), vs = [r] ∧ SnAt K H r s ∧ Q (.bl (okS s)) H
theorem ar__is_span (K : PySem.W.Frag) : ∀ vs H Q E, sp__is_span K vs H Q E → vs.length = 1 := by
  intro vs H Q E h
  obtain ⟨p, q, rfl, _⟩ := h
  rfl
abbrev S__is_span : Stmt := top 8
abbrev N__is_span : List Str := ["thing", "low", "high"]
theorem sc__is_span : FnScope N__is_span ["thing"] (defScope S__is_span) := ⟨rfl, rfl, rfl, by decide +kernel, rfl, by decide +kernel, by decide +kernel⟩
theorem ok__is_span {P : Program} {w : World} {K : PySem.W.Frag} {mg : Str → Option Value} {base : Heap} {f : Addr} {fd : FuncData} (F : Fun K "_is_span" "_is_span" S__is_span f fd) {f_is_less : Addr} {fd_is_less : FuncData} (C_is_less : Cal P w K mg base "is_less" 1 f_is_less fd_is_less ["one", "other"] (sp_is_less K)) {f_is_ratio : Addr} {fd_is_ratio : FuncData} (C_is_ratio : Cal P w K mg base "is_ratio" 2 f_is_ratio fd_is_ratio ["thing"] (sp_is_ratio K)) {z_ONE : Addr} (c_ONE : TupC K mg "ONE" z_ONE [V.int 1, V.int 1]) {z_ZERO : Addr} (c_ZERO : TupC K mg "ZERO" z_ZERO [V.int 0, V.int 1]) (m_len : mg "len" = none) (m_isinstance : mg "isinstance" = none) (m_tuple : mg "tuple" = none) :
    FnG P w K mg base CX0 3 f fd ["thing"] (sp__is_span K) := by
  refine Fun_okG F sc__is_span (ar__is_span K) (fun cdv A outer s H vs Q E hg hr h => ?_)
  obtain ⟨r, s, rfl, ⟨c, p, q, rfl, hc, h1, h2⟩, k⟩ := h
  refine ⟨_, (pss_cons (ps_if (pt_not (PW.pt (pw_and (pt_val (pe_callB (id := "isinstance") (isiK (K := K) rfl) (by rfl) m_isinstance (by decide +kernel) (pa_cons (pv 0) (pa_cons (pe_bltn (v := V.ty "tuple") (u := Value.type "tuple") (by rfl) m_tuple (by decide +kernel) rfl) pa_nil)))) (pw_and1 (pt_cmpR op_eq (pe_callB (id := "len") (lenK (K := K) rfl) (by rfl) m_len (by decide +kernel) (pa_cons (pv 0) pa_nil)) pe_int (nomark _)))))) (pss_one (ps_ret pe_bl)) pss_nil)
    (pss_cons (ps_asg (pv 0) (pg_tup rfl (pgs_cons (pg_name (i := 1) sc__is_span.nd rfl (Or.inl rfl)) (pgs_cons (pg_name (i := 2) sc__is_span.nd rfl (Or.inl rfl)) pgs_nil))))
    (pss_cons (ps_if (pt_not (PW.pt (pw_and (pt_val (pe_c C_is_ratio hg (hr.mono (by decide)) rfl (pa_cons (pv 1) pa_nil))) (pw_and1 (pt_val (pe_c C_is_ratio hg (hr.mono (by decide)) rfl (pa_cons (pv 2) pa_nil))))))) (pss_one (ps_ret pe_bl)) pss_nil)
    (pss_one (ps_ret (pe_and (pe_not (pe_c C_is_less hg (hr.mono (by decide)) rfl (pa_cons (pv 1) (pa_cons (pe_glob (v := V.ref z_ZERO) (u := Value.ref z_ZERO) rfl c_ZERO.m rfl) pa_nil)))) (pe_and (pe_c C_is_less hg (hr.mono (by decide)) rfl (pa_cons (pv 1) (pa_cons (pv 2) pa_nil))) (pe_one (pe_not (pe_c C_is_less hg (hr.mono (by decide)) rfl (pa_cons (pe_glob (v := V.ref z_ONE) (u := Value.ref z_ONE) rfl c_ONE.m rfl) (pa_cons (pv 2) pa_nil)))))))))))), ?_⟩
  have s1 := h1.sq
  have s2 := h2.sq
  walk_at "rd_3"
  refine iteT ?_
  walk_at "rd_3"
  refine iteF ?_
  walk_at "rd_3"
  refine ⟨p, s.x, s.y, rfl, s1, ?_⟩
  rw [decide_eq_true h1.pos, decide_eq_true h1.gcd]
  walk_at "rd_3"
  refine iteT ?_
  walk_at "rd_3"
  refine ⟨q, s.u, s.v, rfl, s2, ?_⟩
  rw [decide_eq_true h2.pos, decide_eq_true h2.gcd]
  walk_at "rd_3"
  refine iteF ?_
  walk_at "rd_3"
  refine ⟨p, z_ZERO, s.x, s.y, 0, 1, rfl, s1, by walk_at "hp_3", h1.bx, h1.bu, zero_lit, one_lit, ?_⟩
  walk_at "rd_3"
  unfold okS at k
  by_cases a : s.x * 1 < 0 * s.y
  · rw [decide_eq_true a]
    refine iteF ?_
    rw [decide_eq_false (not_not_intro a), Bool.false_and] at k
    exact k
  · rw [decide_eq_false a]
    refine iteT ?_
    rw [decide_eq_true a, Bool.true_and] at k
    walk_at "rd_3"
    refine ⟨p, q, s.x, s.y, s.u, s.v, rfl, s1, s2, h1.bx, h1.bu, h2.bx, h2.bu, ?_⟩
    walk_at "rd_3"
    refine rd_if (fun c => ?_) (fun c => ?_)
    · walk_at "rd_3"
      refine ⟨z_ONE, q, 1, 1, s.u, s.v, rfl, by walk_at "hp_3", s2, one_lit, one_lit, h2.bx, h2.bu, ?_⟩
      walk_at "rd_3"
      rw [decide_eq_true c, Bool.true_and] at k
      have e : (!decide (1 * s.v < s.u * 1)) = decide (¬ 1 * s.v < s.u * 1) := by rw [decide_not]
      rw [e]
      exact k
    · rw [decide_eq_false c, Bool.false_and] at k
      exact k

def sp_is_cuts (K : PySem.W.Frag) : Sp := fun vs H Q _ => ∃ (l : Addr) (rs : List V) (ss : List Sn), vs = [.ref l] ∧ H l = some (.lst rs) ∧ SnsAt K H rs ss ∧ rs.length ≤ 500 ∧ ∀ J, Same H J → Q (.bl (cutsB ss)) J
theorem ar_is_cuts (K : PySem.W.Frag) : ∀ vs H Q E, sp_is_cuts K vs H Q E → vs.length = 1 := by
  intro vs H Q E h
  obtain ⟨p, q, ss, rfl, _⟩ := h
  rfl
abbrev S_is_cuts : Stmt := top 9
abbrev N_is_cuts : List Str := ["thing", "span", "after"]
theorem sc_is_cuts : FnScope N_is_cuts ["thing"] (defScope S_is_cuts) := ⟨rfl, rfl, rfl, by decide +kernel, rfl, by decide +kernel, by decide +kernel⟩
theorem ok_is_cuts {P : Program} {w : World} {K : PySem.W.Frag} {mg : Str → Option Value} {base : Heap} {f : Addr} {fd : FuncData} (F : Fun K "is_cuts" "is_cuts" S_is_cuts f fd) {f_is_less : Addr} {fd_is_less : FuncData} (C_is_less : Cal P w K mg base "is_less" 1 f_is_less fd_is_less ["one", "other"] (sp_is_less K)) {f__is_span : Addr} {fd__is_span : FuncData} (C__is_span : Cal P w K mg base "_is_span" 3 f__is_span fd__is_span ["thing"] (sp__is_span K)) (m_all : mg "all" = none) (m_zip : mg "zip" = none) (m_isinstance : mg "isinstance" = none) (m_list : mg "list" = none) :
    FnG P w K mg base CX0 4 f fd ["thing"] (sp_is_cuts K) := by
  refine Fun_okG F sc_is_cuts (ar_is_cuts K) (fun cdv A outer s H vs Q E hg hr h => ?_)
  obtain ⟨l, rs, ss, rfl, hl, hs, hz, q⟩ := h
  refine ⟨_, (pss_cons (ps_if (PW.pt (pw_or (pt_not (pt_val (pe_callB (id := "isinstance") (isiK (K := K) rfl) (by rfl) m_isinstance (by decide +kernel) (pa_cons (pv 0) (pa_cons (pe_bltn (v := V.ty "list") (u := Value.type "list") (by rfl) m_list (by decide +kernel) rfl) pa_nil))))) (pw_or1 (pt_not (pt_val (pe_callB (id := "all") (allK (K := K) rfl rfl) (by rfl) m_all (by decide +kernel) (pa_cons (pe_lc (own := [("span", 1)]) rfl sc_is_cuts.nd (piL (K := K) rfl (pv 0)) (blkOk_by (own := [("span", 1)]) (N := N_is_cuts) (sc := defScope S_is_cuts) (by decide +kernel)) (fun _ _ _ _ _ => (pg_name (i := 1) sc_is_cuts.nd rfl (Or.inl rfl))) (fun _ _ _ _ _ => pts_nil) (fun _ _ _ _ _ => (pe_c C__is_span hg (hr.mono (by decide)) rfl (pa_cons (pv 1) pa_nil)))) pa_nil))))))) (pss_one (ps_ret pe_bl)) pss_nil)
    (pss_one (ps_ret (pe_callB (id := "all") (allK (K := K) rfl rfl) (by rfl) m_all (by decide +kernel) (pa_cons (pe_lc (own := [("span", 1), ("after", 2)]) (g := gTup K 2 (gCons (gName 1) (gCons (gName 2) gNil))) rfl sc_is_cuts.nd (piZ (K := K) rfl (by rfl) m_zip (pa_cons (pv 0) (pa_cons (pe_slice (slK (K := K) rfl) (pv 0) (po_some pe_int) po_none) pa_nil))) (blkOk_by (own := [("span", 1), ("after", 2)]) (N := N_is_cuts) (sc := defScope S_is_cuts) (by decide +kernel)) (fun _ _ _ _ _ => (pgT rfl rfl (pgs_cons (pg_name (i := 1) sc_is_cuts.nd rfl (Or.inl rfl)) (pgs_cons (pg_name (i := 2) sc_is_cuts.nd rfl (Or.inl rfl)) pgs_nil)))) (fun _ _ _ _ _ => pts_nil) (fun _ _ _ _ _ => (pe_c C_is_less hg (hr.mono (by decide)) rfl (pa_cons (pe_ix (ixK (K := K) rfl) (pv 1) pe_int (fun _ _ => rfl)) (pa_cons (pe_ix (ixK (K := K) rfl) (pv 2) pe_int (fun _ _ => rfl)) pa_nil))))) pa_nil))))), ?_⟩
  have ln := hs.len
  walk_at "rd_3"
  refine iteF ?_
  walk_at "rd_3"
  intro D nD
  refine lc_mapLI ((ss.map okS).map V.bl) (by rw [List.length_map, List.length_map]; omega) hl (by omega) nD (fun i r y hr hy m R k => ?_) ?_
  · obtain ⟨s, es, sa⟩ := hs.get hr
    have ey : y = .bl (okS s) := by
      rw [List.getElem?_map, List.getElem?_map, es] at hy
      exact (Option.some.inj hy).symm
    subst ey
    walk_at "rd_3"
    exact ⟨r, s, rfl, sa.mono (fun p xs h => sqt_new nD h), k⟩
  · have s1 : Same H (upd H D (.lst ((ss.map okS).map V.bl))) := same_new nD
    have e1 : (upd H D (.lst ((ss.map okS).map V.bl))) D = some (.lst ((ss.map okS).map V.bl)) := upd_same
    generalize upd H D (.lst ((ss.map okS).map V.bl)) = J1 at s1 e1 ⊢
    walk_at "rd_3"
    refine rd_all (bs := ss.map okS) (SqL.of e1) ?_
    walk_at "rd_3"
    cases c : (ss.map okS).all id with
    | false =>
      refine iteT ?_
      walk_at "rd_3"
      have e : cutsB ss = false := by unfold cutsB; rw [c, Bool.false_and]
      rw [← e]
      exact q J1 s1
    | true =>
      refine iteF ?_
      walk_at "rd_3"
      rename_i p J np sJ eJ
      intro D2 nD2
      rw [cut_tail] at eJ
      have hsJ : SnsAt K J rs ss := hs.mono fun p xs h => sqt_same (Same.trans s1 sJ) h
      refine lc_mapZI ((List.zipWith okN ss ss.tail).map V.bl) (by rw [List.length_map, List.length_zipWith, List.length_tail, List.length_tail]; omega) rfl (sJ _ _ (s1 _ _ hl)) eJ (by omega) nD2 (fun _ _ => rfl) (fun i x y z hx hy hz' J' k' R r => ?_) fun J' k' e' => ?_
      · obtain ⟨s, es, sa⟩ := hsJ.get hx
        obtain ⟨s', es', sa'⟩ := hsJ.tail.get hy
        have ez : z = .bl (okN s s') := by
          rw [List.getElem?_map, List.getElem?_zipWith, es, es'] at hz'
          exact (Option.some.inj hz').symm
        subst ez
        obtain ⟨c1, p1, q1, rfl, hc1, _, h1⟩ := sa.mono (J := J') fun p xs h => sqt_fresh k' nD2 h
        obtain ⟨c2, p2, q2, rfl, hc2, h2, _⟩ := sa'.mono (J := J') fun p xs h => sqt_fresh k' nD2 h
        walk_at "rd_3"
        refine ⟨q1, p2, s.u, s.v, s'.x, s'.y, rfl, h1.sq, h2.sq, h1.bx, h1.bu, h2.bx, h2.bu, r⟩
      · walk_at "rd_3"
        refine rd_all (bs := List.zipWith okN ss ss.tail) (SqL.of e') ?_
        have e : cutsB ss = (List.zipWith okN ss ss.tail).all id := by unfold cutsB; rw [c, Bool.true_and]
        rw [← e]
        refine q J' fun a o h => k' a o ?_ (sJ _ _ (s1 _ _ h))
        exact ne_of_none (sJ _ _ (s1 _ _ h)) nD2

def sp_arc (K : PySem.W.Frag) : Sp := fun vs H Q _ => ∃ (p q : Addr) (x y u v : Int), vs = [.ref p, .ref q] ∧ Ra K H p x y ∧ Ra K H q u v ∧
  ∀ l J rs, H l = none → Same H J → J l = some (.lst rs) → SnsAt K J rs (arcD x y u v) → rs.length ≤ 2 → Q (.ref l) J
theorem ar_arc (K : PySem.W.Frag) : ∀ vs H Q E, sp_arc K vs H Q E → vs.length = 2 := by
  intro vs H Q E h
  obtain ⟨p, q, x, y, u, v, rfl, _⟩ := h
  rfl
abbrev S_arc : Stmt := top 10
abbrev N_arc : List Str := ["low", "high", "before"]
theorem sc_arc : FnScope N_arc ["low", "high"] (defScope S_arc) := ⟨rfl, rfl, rfl, by decide +kernel, rfl, by decide +kernel, by decide +kernel⟩
theorem ok_arc {P : Program} {w : World} {K : PySem.W.Frag} {mg : Str → Option Value} {base : Heap} {f : Addr} {fd : FuncData} (F : Fun K "arc" "arc" S_arc f fd) {f_is_less : Addr} {fd_is_less : FuncData} (C_is_less : Cal P w K mg base "is_less" 1 f_is_less fd_is_less ["one", "other"] (sp_is_less K)) {z_ONE : Addr} (c_ONE : TupC K mg "ONE" z_ONE [V.int 1, V.int 1]) {z_ZERO : Addr} (c_ZERO : TupC K mg "ZERO" z_ZERO [V.int 0, V.int 1]) :
    FnG P w K mg base CX0 2 f fd ["low", "high"] (sp_arc K) := by
  refine Fun_okG F sc_arc (ar_arc K) (fun cdv A outer s H vs Q E hg hr h => ?_)
  obtain ⟨p, q, x, y, u, v, rfl, hp, hq, k⟩ := h
  refine ⟨_, (pss_cons (ps_if (pt_cmpR (eqK (K := K) rfl (room_u hr)) (pv 0) (pv 1) (nomark _)) (pss_one (ps_ret (pe_lst pa_nil))) pss_nil)
    (pss_cons (ps_if (pt_val (pe_c C_is_less hg (hr.mono (by decide)) rfl (pa_cons (pv 0) (pa_cons (pv 1) pa_nil)))) (pss_one (ps_ret (pe_lst (pa_cons (pe_tup (pa_cons (pv 0) (pa_cons (pv 1) pa_nil))) pa_nil)))) pss_nil)
    (pss_cons (ps_set (i := 2) sc_arc.nd rfl (Or.inl rfl) (pe_ifExp (pt_cmpR (eqK (K := K) rfl (room_u hr)) (pv 1) (pe_glob (v := V.ref z_ZERO) (u := Value.ref z_ZERO) rfl c_ZERO.m rfl) (nomark _)) (pe_lst pa_nil) (pe_lst (pa_cons (pe_tup (pa_cons (pe_glob (v := V.ref z_ZERO) (u := Value.ref z_ZERO) rfl c_ZERO.m rfl) (pa_cons (pv 1) pa_nil))) pa_nil))))
    (pss_one (ps_ret (pe_op op_cat (pv 2) (pe_lst (pa_cons (pe_tup (pa_cons (pv 0) (pa_cons (pe_glob (v := V.ref z_ONE) (u := Value.ref z_ONE) rfl c_ONE.m rfl) pa_nil))) pa_nil)))))))), ?_⟩
  have sp := hp.sq
  have sq := hq.sq
  have r0 : ∀ M : Hp, Ra K M z_ZERO 0 1 := fun M => ⟨c_ZERO.sq M, by decide, by decide, zero_lit, one_lit⟩
  have r1 : ∀ M : Hp, Ra K M z_ONE 1 1 := fun M => ⟨c_ONE.sq M, by decide, by decide, one_lit, one_lit⟩
  walk_at "rd_3"
  refine rd_if (fun c => ?_) (fun c => ?_)
  · walk_at "rd_3"
    refine k _ _ _ (by assumption) (by assumption) (by assumption) ?_ (by decide)
    rw [show arcD x y u v = [] from if_pos c]
    exact .nil
  · walk_at "rd_3"
    refine ⟨p, q, x, y, u, v, rfl, sp, sq, hp.bx, hp.bu, hq.bx, hq.bu, ?_⟩
    walk_at "rd_3"
    refine rd_if (fun c2 => ?_) (fun c2 => ?_)
    · walk_at "rd_3"
      rename_i c1 J1 n1 s1 e1 l J n s' e
      have hs : Same H J := Same.trans s1 s'
      refine k l J _ (Same.free s1 n) hs e ?_ (Nat.le_of_ble_eq_true rfl)
      rw [show arcD x y u v = [⟨x, y, u, v⟩] from (if_neg c).trans (if_pos c2)]
      exact .cons ⟨c1, p, q, rfl, SqT.of (s' _ _ e1), hp.mono fun xs h => sqt_same hs h, hq.mono fun xs h => sqt_same hs h⟩ .nil
    · walk_at "rd_3"
      refine rd_if (fun c3 => ?_) (fun c3 => ?_)
      · walk_at "rd_3"
        rename_i p3 J3 n3 s3 e3 p2 J2 n2 s2 e2 p1 J1 n1 s1 e1 l J n s' e
        have h3 : Same H J1 := Same.trans s3 (Same.trans s2 s1)
        have hs : Same H J := Same.trans h3 s'
        refine k l J _ (Same.free h3 n) hs e ?_ (Nat.le_of_ble_eq_true rfl)
        rw [show arcD x y u v = [⟨x, y, 1, 1⟩] from (if_neg c).trans ((if_neg c2).trans (by rw [if_pos c3]; rfl))]
        exact .cons ⟨p2, p, z_ONE, rfl, SqT.of (s' _ _ (s1 _ _ e2)), hp.mono fun xs h => sqt_same hs h, r1 J⟩ .nil
      · walk_at "rd_3"
        rename_i p4 J4 n4 s4 e4 p3 J3 n3 s3 e3 p2 J2 n2 s2 e2 p1 J1 n1 s1 e1 l J n s' e
        have h3 : Same H J1 := Same.trans s4 (Same.trans s3 (Same.trans s2 s1))
        have hs : Same H J := Same.trans h3 s'
        refine k l J _ (Same.free h3 n) hs e ?_ (Nat.le_of_ble_eq_true rfl)
        rw [show arcD x y u v = [⟨0, 1, u, v⟩, ⟨x, y, 1, 1⟩] from (if_neg c).trans ((if_neg c2).trans (by rw [if_neg c3]; rfl))]
        exact .cons ⟨p4, z_ZERO, q, rfl, SqT.of (s' _ _ (s1 _ _ (s2 _ _ (s3 _ _ e4)))), r0 J, hq.mono fun xs h => sqt_same hs h⟩ (.cons ⟨p2, p, z_ONE, rfl, SqT.of (s' _ _ (s1 _ _ e2)), hp.mono fun xs h => sqt_same hs h, r1 J⟩ .nil)

theorem ten50 : (10 : Int) ^ Int.toNat 50 = 10 ^ 50 := by decide
def sp__law_drawn_grain (K : PySem.W.Frag) : Sp := fun vs H Q _ => ∃ b, vs = [.ref b] ∧ Bag b H ∧ ∀ (g : Int) J, 1 ≤ g → g ≤ 30 → Kp b H J → Bag b J → Q (.int g) J
theorem ar__law_drawn_grain (K : PySem.W.Frag) : ∀ vs H Q E, sp__law_drawn_grain K vs H Q E → vs.length = 1 := by
  intro vs H Q E h
  obtain ⟨b, rfl, _⟩ := h
  rfl
abbrev S__law_drawn_grain : Stmt := top 16
abbrev N__law_drawn_grain : List Str := ["_law_bag_here"]
theorem sc__law_drawn_grain : FnScope N__law_drawn_grain ["_law_bag_here"] (defScope S__law_drawn_grain) := ⟨rfl, rfl, rfl, by decide +kernel, rfl, by decide +kernel, by decide +kernel⟩
theorem ok__law_drawn_grain {P : Program} {w : World} {K : PySem.W.Frag} {mg : Str → Option Value} {base : Heap} {f : Addr} {fd : FuncData} (F : Fun K "_law_drawn_grain" "_law_drawn_grain" S__law_drawn_grain f fd) {f__law_take : Addr} {fd__law_take : FuncData} (C__law_take : Cal P w K mg base "_law_take" 1 f__law_take fd__law_take ["_law_bag_here", "_law_size"] (sp__law_take K)) :
    FnG P w K mg base CX0 2 f fd ["_law_bag_here"] (sp__law_drawn_grain K) := by
  refine Fun_okG F sc__law_drawn_grain (ar__law_drawn_grain K) (fun cdv A outer s H vs Q E hg hr h => ?_)
  obtain ⟨b, rfl, hb, q⟩ := h
  refine ⟨_, (pss_one (ps_ret (pe_ix (ixK (K := K) rfl) (pe_lst (pa_cons (pe_op op_add pe_int (pe_c C__law_take hg (hr.mono (by decide)) rfl (pa_cons (pv 0) (pa_cons pe_int pa_nil)))) (pa_cons pe_int (pa_cons pe_int (pa_cons pe_int pa_nil))))) (pe_c C__law_take hg (hr.mono (by decide)) rfl (pa_cons (pv 0) (pa_cons pe_int pa_nil))) (fun _ _ => rfl)))), ?_⟩
  walk_at "rd_3"
  refine ⟨b, 6, rfl, hb, by decide, by decide, fun r J r0 r1 k1 g1 => ?_⟩
  walk_at "rd_3"
  refine ⟨b, 4, rfl, by walk_at "hp_3", by decide, by decide, fun r2 J2 r2a r2b k2 g2 => ?_⟩
  refine rd_pick (xs := ?xs) ?h r2a ?l fun v hv => ?_
  case h => walk_at "hp_3"
  case l => exact r2b
  simp only [List.mem_cons, List.not_mem_nil, or_false] at hv
  rcases hv with rfl | rfl | rfl | rfl
  all_goals exact q _ _ (by omega) (by omega) (by walk_at "kp_3") g2
def sp__law_cut (K : PySem.W.Frag) : Sp := fun vs H Q _ => ∃ (b : Addr) (g : Int), vs = [.ref b, .int g] ∧ Bag b H ∧ 1 ≤ g ∧ g ≤ 30 ∧ ∀ (p : Addr) (x y : Int) J, Ra K J p x y → 0 ≤ x → x < y → Kp b H J → Bag b J → Q (.ref p) J
theorem ar__law_cut (K : PySem.W.Frag) : ∀ vs H Q E, sp__law_cut K vs H Q E → vs.length = 2 := by
  intro vs H Q E h
  obtain ⟨b, g, rfl, _⟩ := h
  rfl
abbrev S__law_cut : Stmt := top 17
abbrev N__law_cut : List Str := ["_law_bag_here", "_law_grain", "_law_some"]
theorem sc__law_cut : FnScope N__law_cut ["_law_bag_here", "_law_grain"] (defScope S__law_cut) := ⟨rfl, rfl, rfl, by decide +kernel, rfl, by decide +kernel, by decide +kernel⟩
theorem ok__law_cut {P : Program} {w : World} {K : PySem.W.Frag} {mg : Str → Option Value} {base : Heap} {f : Addr} {fd : FuncData} (F : Fun K "_law_cut" "_law_cut" S__law_cut f fd) {f__law_take : Addr} {fd__law_take : FuncData} (C__law_take : Cal P w K mg base "_law_take" 1 f__law_take fd__law_take ["_law_bag_here", "_law_size"] (sp__law_take K)) {f__law_lowest : Addr} {fd__law_lowest : FuncData} (C__law_lowest : Cal P w K mg base "_law_lowest" 2 f__law_lowest fd__law_lowest ["_law_top", "_law_under"] (sp__law_lowest K)) :
    FnG P w K mg base CX0 3 f fd ["_law_bag_here", "_law_grain"] (sp__law_cut K) := by
  refine Fun_okG F sc__law_cut (ar__law_cut K) (fun cdv A outer s H vs Q E hg hr h => ?_)
  obtain ⟨b, g, rfl, hb, g0, g1, q⟩ := h
  refine ⟨_, (pss_cons (ps_set (i := 2) sc__law_cut.nd rfl (Or.inl rfl) (pe_lst (pa_cons (pe_c C__law_lowest hg (hr.mono (by decide)) rfl (pa_cons (pe_c C__law_take hg (hr.mono (by decide)) rfl (pa_cons (pv 0) (pa_cons (pv 1) pa_nil))) (pa_cons (pv 1) pa_nil))) (pa_cons (pe_tup (pa_cons pe_int (pa_cons pe_int pa_nil))) (pa_cons (pe_tup (pa_cons pe_int (pa_cons (pe_op op_pow pe_int pe_int) pa_nil))) (pa_cons (pe_tup (pa_cons (pe_op op_sub (pe_op op_pow pe_int pe_int) pe_int) (pa_cons (pe_op op_pow pe_int pe_int) pa_nil))) pa_nil))))))
    (pss_one (ps_ret (pe_ix (ixK (K := K) rfl) (pv 2) (pe_op op_dv (pe_c C__law_take hg (hr.mono (by decide)) rfl (pa_cons (pv 0) (pa_cons pe_int pa_nil))) pe_int) (fun _ _ => rfl))))), ?_⟩
  walk_at "rd_3"
  refine ⟨b, g, rfl, hb, by omega, by omega, fun r J r0 r1 k1 gb => ?_⟩
  walk_at "rd_3"
  refine ⟨r, g, rfl, by omega, by unfold Bd; omega, fun x y p J1 low np s1 e1 => ?_⟩
  obtain ⟨y0, xy, e, hx, hy⟩ := low
  have x0 : 0 ≤ x := by
    rcases Int.lt_or_le x 0 with w | w
    · have h1 := Int.mul_neg_of_neg_of_pos w (show 0 < g by omega)
      have h2 := Int.mul_nonneg r0 (Int.le_of_lt y0)
      omega
    · exact w
  have xl : x < y := by
    rcases Int.lt_or_le x y with w | w
    · exact w
    · have h1 := Int.mul_le_mul_of_nonneg_right w (show 0 ≤ g by omega)
      have h2 := Int.mul_lt_mul_of_pos_right r1 y0
      rw [Int.mul_comm g y] at h2
      omega
  have bx : Bd 1000 x := Bd.mono (m := 10) (by unfold Bd; omega) (by decide)
  have by' : Bd 1000 y := Bd.mono (m := 10) (by unfold Bd; omega) (by decide)
  walk_at "rd_3"
  refine ⟨b, 8, rfl, by walk_at "hp_3", by decide, by decide, fun r2 J2 r2a r2b k2 g2 => ?_⟩
  walk_at "rd_3"
  have fd := Int.fmod_def r2 2
  have fr := fmod_rng (x := r2) (n := 2) (by decide)
  refine rd_pick (xs := ?xs) ?h (by omega) ?l fun v hv => ?_
  case h => walk_at "hp_3"
  case l => show r2.fdiv 2 < 4; omega
  simp only [List.mem_cons, List.not_mem_nil, or_false] at hv
  rcases hv with rfl | rfl | rfl | rfl
  · exact q p x y J2 ⟨by walk_at "hp_3", y0, xy, bx, by'⟩ x0 xl (by walk_at "kp_3") g2
  · exact q _ 0 1 J2 ⟨by walk_at "hp_3", by decide, by decide, zero_lit, one_lit⟩ (by decide) (by decide) (by walk_at "kp_3") g2
  · exact q _ 1 (10 ^ Int.toNat 50) J2 ⟨by walk_at "hp_3", by decide, by decide +kernel, one_lit, Bd.lit (by decide +kernel)⟩ (by decide) (by decide +kernel) (by walk_at "kp_3") g2
  · exact q _ (10 ^ Int.toNat 50 - 1) (10 ^ Int.toNat 50) J2 ⟨by walk_at "hp_3", by decide, by decide +kernel, Bd.lit (by decide +kernel), Bd.lit (by decide +kernel)⟩ (by decide +kernel) (by decide +kernel) (by walk_at "kp_3") g2
def sp__law_due (K : PySem.W.Frag) : Sp := fun vs H Q _ => ∃ (p q : Addr) (x y u v : Int), vs = [.ref p, .ref q] ∧ Ra K H p x y ∧ Ra K H q u v ∧ 0 ≤ u ∧
  ∀ l J rs, H l = none → Same H J → J l = some (.lst rs) → SnsAt K J rs (arcD x y u v) → rs.length ≤ 2 → Q (.ref l) J
theorem ar__law_due (K : PySem.W.Frag) : ∀ vs H Q E, sp__law_due K vs H Q E → vs.length = 2 := by
  intro vs H Q E h
  obtain ⟨p, q, x, y, u, v, rfl, _⟩ := h
  rfl
abbrev S__law_due : Stmt := top 18
abbrev N__law_due : List Str := ["_law_one", "_law_other"]
theorem sc__law_due : FnScope N__law_due ["_law_one", "_law_other"] (defScope S__law_due) := ⟨rfl, rfl, rfl, by decide +kernel, rfl, by decide +kernel, by decide +kernel⟩
theorem ok__law_due {P : Program} {w : World} {K : PySem.W.Frag} {mg : Str → Option Value} {base : Heap} {f : Addr} {fd : FuncData} (F : Fun K "_law_due" "_law_due" S__law_due f fd) (m_int : mg "int" = none) :
    FnG P w K mg base CX0 1 f fd ["_law_one", "_law_other"] (sp__law_due K) := by
  refine Fun_okG F sc__law_due (ar__law_due K) (fun cdv A outer s H vs Q E hg hr h => ?_)
  obtain ⟨p, q, x, y, u, v, rfl, hp, hq, u0, k⟩ := h
  refine ⟨_, (pss_cons (ps_if (pt_cmpR op_eq (pe_op op_ml (pe_ix (ixK (K := K) rfl) (pv 0) pe_int (fun _ _ => rfl)) (pe_ix (ixK (K := K) rfl) (pv 1) pe_int (fun _ _ => rfl))) (pe_op op_ml (pe_ix (ixK (K := K) rfl) (pv 1) pe_int (fun _ _ => rfl)) (pe_ix (ixK (K := K) rfl) (pv 0) pe_int (fun _ _ => rfl))) (nomark _)) (pss_one (ps_ret (pe_lst pa_nil))) pss_nil)
    (pss_cons (ps_if (pt_cmpR op_lt (pe_op op_ml (pe_ix (ixK (K := K) rfl) (pv 0) pe_int (fun _ _ => rfl)) (pe_ix (ixK (K := K) rfl) (pv 1) pe_int (fun _ _ => rfl))) (pe_op op_ml (pe_ix (ixK (K := K) rfl) (pv 1) pe_int (fun _ _ => rfl)) (pe_ix (ixK (K := K) rfl) (pv 0) pe_int (fun _ _ => rfl))) (nomark _)) (pss_one (ps_ret (pe_lst (pa_cons (pe_tup (pa_cons (pv 0) (pa_cons (pv 1) pa_nil))) pa_nil)))) pss_nil)
    (pss_one (ps_ret (pe_op op_cat (pe_op op_rep (pe_lst (pa_cons (pe_tup (pa_cons (pe_tup (pa_cons pe_int (pa_cons pe_int pa_nil))) (pa_cons (pv 1) pa_nil))) pa_nil)) (pe_callTy (T := "int") call_int1 (by rfl) m_int (by decide +kernel) (pa_cons (pe_cmpR op_gt (pe_ix (ixK (K := K) rfl) (pv 1) pe_int (fun _ _ => rfl)) pe_int (nomark _)) pa_nil))) (pe_lst (pa_cons (pe_tup (pa_cons (pv 0) (pa_cons (pe_tup (pa_cons pe_int (pa_cons pe_int pa_nil))) pa_nil))) pa_nil))))))), ?_⟩
  have sp := hp.sq
  have sq := hq.sq
  have bx := hp.bx
  have by' := hp.bu
  have bu := hq.bx
  have bv := hq.bu
  have ie : x * v = u * y → x = u ∧ y = v := low_one hp.pos hq.pos hp.gcd hq.gcd
  have yp := hp.pos
  have vp := hq.pos
  have gq := hq.gcd
  walk_at "rd_3"
  refine rd_if (fun c => ?_) (fun c => ?_)
  · walk_at "rd_3"
    refine k _ _ _ (by assumption) (by assumption) (by assumption) ?_ (by decide)
    rw [show arcD x y u v = [] from if_pos (ie c)]
    exact .nil
  · have c' : ¬ (x = u ∧ y = v) := fun ⟨a, b⟩ => c (by rw [a, b])
    walk_at "rd_3"
    refine rd_if (fun c2 => ?_) (fun c2 => ?_)
    · walk_at "rd_3"
      rename_i c1 J1 n1 s1 e1 l J n s' e
      have hs : Same H J := Same.trans s1 s'
      refine k l J _ (Same.free s1 n) hs e ?_ (Nat.le_of_ble_eq_true rfl)
      rw [show arcD x y u v = [⟨x, y, u, v⟩] from (if_neg c').trans (if_pos c2)]
      exact .cons ⟨c1, p, q, rfl, SqT.of (s' _ _ e1), hp.mono fun xs h => sqt_same hs h, hq.mono fun xs h => sqt_same hs h⟩ .nil
    · walk_at "rd_3"
      by_cases uz : 0 < u
      · rw [show (if decide (0 < u) = true then (1 : Int) else 0) = 1 from by rw [decide_eq_true uz]; rfl]
        walk_at "rd_3"
        rename_i p7 J7 n7 s7 e7 p6 J6 n6 s6 e6 p5 J5 n5 s5 e5 p4 J4 n4 s4 e4 p3 J3 n3 s3 e3 p2 J2 n2 s2 e2 p1 J1 n1 s1 e1 l J n s' e
        have h7 : Same J7 J := Same.trans s6 (Same.trans s5 (Same.trans s4 (Same.trans s3 (Same.trans s2 (Same.trans s1 s')))))
        have h3 : Same J3 J := Same.trans s2 (Same.trans s1 s')
        have hb : Same H J1 := Same.trans s7 (Same.trans s6 (Same.trans s5 (Same.trans s4 (Same.trans s3 (Same.trans s2 s1)))))
        have hs : Same H J := Same.trans hb s'
        refine k l J _ (Same.free hb n) hs e ?_ (Nat.le_of_ble_eq_true rfl)
        rw [show arcD x y u v = [⟨0, 1, u, v⟩, ⟨x, y, 1, 1⟩] from (if_neg c').trans ((if_neg c2).trans (by rw [if_neg (fun z => by omega)]; rfl))]
        have ra : Ra K J p7 0 1 := ⟨SqT.of (h7 _ _ e7), by decide, by decide, zero_lit, one_lit⟩
        have rb : Ra K J p3 1 1 := ⟨SqT.of (h3 _ _ e3), by decide, by decide, one_lit, one_lit⟩
        have q6 : SqT K J p6 [.ref p7, .ref q] := SqT.of (s' _ _ (s1 _ _ (s2 _ _ (s3 _ _ (s4 _ _ (s5 _ _ e6))))))
        have q2 : SqT K J p2 [.ref p, .ref p3] := SqT.of (s' _ _ (s1 _ _ e2))
        exact .cons ⟨p6, p7, q, rfl, q6, ra, hq.mono fun xs h => sqt_same hs h⟩ (.cons ⟨p2, p, p3, rfl, q2, hp.mono fun xs h => sqt_same hs h, rb⟩ .nil)
      · rw [show (if decide (0 < u) = true then (1 : Int) else 0) = 0 from by rw [decide_eq_false uz]; rfl]
        walk_at "rd_3"
        rename_i p7 J7 n7 s7 e7 p6 J6 n6 s6 e6 p5 J5 n5 s5 e5 p4 J4 n4 s4 e4 p3 J3 n3 s3 e3 p2 J2 n2 s2 e2 p1 J1 n1 s1 e1 l J n s' e
        have h3 : Same J3 J := Same.trans s2 (Same.trans s1 s')
        have hb : Same H J1 := Same.trans s7 (Same.trans s6 (Same.trans s5 (Same.trans s4 (Same.trans s3 (Same.trans s2 s1)))))
        have hs : Same H J := Same.trans hb s'
        have uz0 : u = 0 := by omega
        have vz1 : v = 1 := by
          rw [uz0, Int.zero_gcd] at gq
          omega
        refine k l J _ (Same.free hb n) hs e ?_ (Nat.le_of_ble_eq_true rfl)
        rw [show arcD x y u v = [⟨x, y, 1, 1⟩] from (if_neg c').trans ((if_neg c2).trans (by rw [if_pos ⟨uz0, vz1⟩]; rfl))]
        have rb : Ra K J p3 1 1 := ⟨SqT.of (h3 _ _ e3), by decide, by decide, one_lit, one_lit⟩
        have q2 : SqT K J p2 [.ref p, .ref p3] := SqT.of (s' _ _ (s1 _ _ e2))
        exact .cons ⟨p2, p, p3, rfl, q2, hp.mono fun xs h => sqt_same hs h, rb⟩ .nil

def sp_law (K : PySem.W.Frag) : Sp := fun vs H Q _ => ∃ (a : Addr) (ns : List Int), vs = [.ref a] ∧ Scr K H a (ns.map V.int) ∧ ns.length ≤ 63 ∧ ∀ H', Q (.bl true) H'
theorem ar_law (K : PySem.W.Frag) : ∀ vs H Q E, sp_law K vs H Q E → vs.length = 1 := by
  intro vs H Q E h
  obtain ⟨a, ns, rfl, _⟩ := h
  rfl
abbrev S_law : Stmt := top 19
abbrev N_law : List Str := ["_law_script", "_law_k", "_law_bag_here", "_law_turn", "_law_grain", "_law_one", "_law_other", "_law_due_here", "_law_found"]
theorem sc_law : FnScope N_law ["_law_script"] (defScope S_law) := ⟨rfl, rfl, rfl, by decide +kernel, rfl, by decide +kernel, by decide +kernel⟩
theorem ok_law {P : Program} {w : World} {K : PySem.W.Frag} {mg : Str → Option Value} {base : Heap} {f : Addr} {fd : FuncData} (F : Fun K "law" "law" S_law f fd) {f_arc : Addr} {fd_arc : FuncData} (C_arc : Cal P w K mg base "arc" 2 f_arc fd_arc ["low", "high"] (sp_arc K)) {f_is_cuts : Addr} {fd_is_cuts : FuncData} (C_is_cuts : Cal P w K mg base "is_cuts" 4 f_is_cuts fd_is_cuts ["thing"] (sp_is_cuts K)) {f__law_due : Addr} {fd__law_due : FuncData} (C__law_due : Cal P w K mg base "_law_due" 1 f__law_due fd__law_due ["_law_one", "_law_other"] (sp__law_due K)) {f__law_cut : Addr} {fd__law_cut : FuncData} (C__law_cut : Cal P w K mg base "_law_cut" 3 f__law_cut fd__law_cut ["_law_bag_here", "_law_grain"] (sp__law_cut K)) {f__law_drawn_grain : Addr} {fd__law_drawn_grain : FuncData} (C__law_drawn_grain : Cal P w K mg base "_law_drawn_grain" 2 f__law_drawn_grain fd__law_drawn_grain ["_law_bag_here"] (sp__law_drawn_grain K)) {f__law_bag : Addr} {fd__law_bag : FuncData} (C__law_bag : Cal P w K mg base "_law_bag" 1 f__law_bag fd__law_bag ["_law_script", "_law_at"] (sp__law_bag K)) (m_range : mg "range" = none) (m_max : mg "max" = none) (m_min : mg "min" = none) (m_len : mg "len" = none) (m_repr : mg "repr" = none) :
    FnG P w K mg base CX0 5 f fd ["_law_script"] (sp_law K) := by
  refine Fun_okG F sc_law (ar_law K) (fun cdv A outer s H vs Q E hg hr h => ?_)
  obtain ⟨a, ns, rfl, hS, hl, q⟩ := h
  refine ⟨_, (pss_cons (ps_for PassesOwn.never rfl (pi_range1 rfl m_range (pa_cons (pe_callB (id := "max") (call_max2 rfl) (by rfl) m_max (by decide +kernel) (pa_cons pe_int (pa_cons (pe_callB (id := "min") (call_min2 rfl) (by rfl) m_min (by decide +kernel) (pa_cons pe_int (pa_cons (pe_callB (id := "len") (lenK (K := K) rfl) (by rfl) m_len (by decide +kernel) (pa_cons (pv 0) pa_nil)) pa_nil))) pa_nil))) pa_nil)) (pg_name (i := 1) sc_law.nd rfl (Or.inl rfl)) (pss_cons (ps_set (i := 2) sc_law.nd rfl (Or.inl rfl) (pe_c C__law_bag hg (hr.mono (by decide)) rfl (pa_cons (pv 0) (pa_cons (pv 1) pa_nil))))
    (pss_one (ps_for PassesOwn.never rfl (pi_range1 rfl m_range (pa_cons pe_int pa_nil)) (pg_name (i := 3) sc_law.nd rfl (Or.inl rfl)) (pss_cons (ps_set (i := 4) sc_law.nd rfl (Or.inl rfl) (pe_c C__law_drawn_grain hg (hr.mono (by decide)) rfl (pa_cons (pv 2) pa_nil)))
    (pss_cons (ps_par (i := 5) (j := 6) rfl sc_law.nd rfl rfl (by decide) rfl rfl (pa_cons (pe_c C__law_cut hg (hr.mono (by decide)) rfl (pa_cons (pv 2) (pa_cons (pv 4) pa_nil))) (pa_cons (pe_c C__law_cut hg (hr.mono (by decide)) rfl (pa_cons (pv 2) (pa_cons (pv 4) pa_nil))) pa_nil)) (by rfl))
    (pss_cons (ps_par (i := 7) (j := 8) rfl sc_law.nd rfl rfl (by decide) rfl rfl (pa_cons (pe_c C__law_due hg (hr.mono (by decide)) rfl (pa_cons (pv 5) (pa_cons (pv 6) pa_nil))) (pa_cons (pe_c C_arc hg (hr.mono (by decide)) rfl (pa_cons (pv 5) (pa_cons (pv 6) pa_nil))) pa_nil)) (by rfl))
    (pss_cons (ps_if (PW.pt (pw_or (pt_cmpR op_ne (pe_callB (id := "repr") (reprK (K := K) rfl hg (room_u hr)) (by rfl) m_repr (by decide +kernel) (pa_cons (pv 8) pa_nil)) (pe_callB (id := "repr") (reprK (K := K) rfl hg (room_u hr)) (by rfl) m_repr (by decide +kernel) (pa_cons (pv 7) pa_nil)) (nomark _)) (pw_or1 (pt_not (pt_val (pe_c C_is_cuts hg (hr.mono (by decide)) rfl (pa_cons (pv 8) pa_nil))))))) (pss_one (ps_ret pe_bl)) pss_nil)
    (pss_cons (ps_expr (pe_bm PySem.F.plainAttrs_list PySem.F.slot_list_append PySem.F.type_list_append mt_append (pv 8) (pa_cons pe_non pa_nil)))
    (pss_one (ps_if (pt_cmpR op_ne (pe_callB (id := "repr") (reprK (K := K) rfl hg (room_u hr)) (by rfl) m_repr (by decide +kernel) (pa_cons (pe_c C_arc hg (hr.mono (by decide)) rfl (pa_cons (pv 5) (pa_cons (pv 6) pa_nil))) pa_nil)) (pe_callB (id := "repr") (reprK (K := K) rfl hg (room_u hr)) (by rfl) m_repr (by decide +kernel) (pa_cons (pv 7) pa_nil)) (nomark _)) (pss_one (ps_ret pe_bl)) pss_nil)))))))))))
    (pss_one (ps_ret (pe_and (pe_cmpR (eqK (K := K) rfl (room_u hr)) (pe_c C_arc hg (hr.mono (by decide)) rfl (pa_cons (pe_tup (pa_cons pe_int (pa_cons pe_int pa_nil))) (pa_cons (pe_tup (pa_cons pe_int (pa_cons pe_int pa_nil))) pa_nil))) (pe_lst pa_nil) (nomark _)) (pe_one (pe_cmpR (eqK (K := K) rfl (room_u hr)) (pe_c C_arc hg (hr.mono (by decide)) rfl (pa_cons (pe_tup (pa_cons pe_int (pa_cons pe_int pa_nil))) (pa_cons (pe_tup (pa_cons pe_int (pa_cons pe_int pa_nil))) pa_nil))) (pe_lst (pa_cons (pe_tup (pa_cons (pe_tup (pa_cons pe_int (pa_cons pe_int pa_nil))) (pa_cons (pe_tup (pa_cons pe_int (pa_cons pe_int pa_nil))) pa_nil))) pa_nil)) (nomark _))))))), ?_⟩
  walk_at "rd_3"
  refine lp_rng (fun _ σ' H' => Scr K H' a (ns.map V.int) ∧ ∃ o1 o2 o3 o4 o5 o6 o7 o8, σ' = [some (.ref a), o1, o2, o3, o4, o5, o6, o7, o8]) ⟨hS, none, none, none, none, none, none, none, none, rfl⟩ (fun i σ1 H1 hi w => ?_) (fun σ1 H1 w => ?_)
  · obtain ⟨hS1, o1, o2, o3, o4, o5, o6, o7, o8, rfl⟩ := w
    have hi2 : i < 8 ∨ i < 2 := by
      rw [List.length_map] at hi
      split at hi <;> split at hi <;> omega
    walk_at "rd_3"
    refine ⟨a, ns, _, rfl, hS1, hl, by omega, by omega, fun b J0 nb s0 g0 => ?_⟩
    have hS0 : Scr K J0 a (ns.map V.int) := hS1.same s0
    walk_at "rd_3"
    refine lp_rng (fun _ σ' H' => Scr K H' a (ns.map V.int) ∧ Bag b H' ∧ ∃ o3 o4 o5 o6 o7 o8, σ' = [some (.ref a), some (.int (0 + (i : Int))), some (.ref b), o3, o4, o5, o6, o7, o8]) ⟨hS0, g0, o3, o4, o5, o6, o7, o8, rfl⟩ (fun j σ2 H2 hj w => ?_) (fun σ2 H2 w => ?_)
    · obtain ⟨hS2, g2, o3, o4, o5, o6, o7, o8, rfl⟩ := w
      clear hi hi2 hS1 hS0 hj hl s0 g0 hS
      walk_at "rd_3"
      refine ⟨b, rfl, g2, fun g J gA gB k1 g1 => ?_⟩
      have hS3 := hS2.kp k1 g2
      walk_at "rd_3"
      refine ⟨b, g, rfl, g1, gA, gB, fun p x y J3 rp x0 xy k3 g3 => ?_⟩
      have hS4 := hS3.kp k3 g1
      walk_at "rd_3"
      refine ⟨b, g, rfl, g3, gA, gB, fun p2 u v J4 rq u0 uv k4 g4 => ?_⟩
      have hS5 := hS4.kp k4 g3
      have rp4 : Ra K J4 p x y := rp.mono fun xs h => sqt_bag k4 g3 h
      clear k1 k3 k4 g1 g2 g3 hS2 hS3 hS4
      walk_at "rd_3"
      refine ⟨p, p2, x, y, u, v, rfl, rp4, rq, u0, fun l J5 rs nl s5 el sl ll => ?_⟩
      have rp5 : Ra K J5 p x y := rp4.mono fun xs h => sqt_same s5 h
      have rq5 : Ra K J5 p2 u v := rq.mono fun xs h => sqt_same s5 h
      walk_at "rd_3"
      refine ⟨p, p2, x, y, u, v, rfl, rp5, rq5, fun m J6 zs nm s6 em sm lm => ?_⟩
      have el6 := s6 _ _ el
      have sl6 := sl.mono fun p xs h => sqt_same s6 h
      have ne : l ≠ m := ne_of_none el nm
      walk_at "rd_3"
      refine rd_reprS (SqL.of em) sm (by omega) ?_
      walk_at "rd_3"
      refine rd_reprS (SqL.of el6) sl6 (by omega) ?_
      walk_at "rd_3"
      refine iteF ?_
      walk_at "rd_3"
      refine ⟨m, zs, _, rfl, em, sm, by omega, fun J7 s7 => ?_⟩
      rw [arc_ok x0 xy u0 uv rp.gcd rq.gcd]
      walk_at "rd_3"
      refine iteF ?_
      have em7 := s7 _ _ em
      have el7 := s7 _ _ el6
      have sl7 := sl6.mono fun p xs h => sqt_same s7 h
      have rp7 : Ra K J7 p x y := rp5.mono fun xs h => sqt_same s7 (sqt_same s6 h)
      have rq7 : Ra K J7 p2 u v := rq5.mono fun xs h => sqt_same s7 (sqt_same s6 h)
      have hS7 : Scr K J7 a (ns.map V.int) := ((hS5.same s5).same s6).same s7
      have g7 : Bag b J7 := ((g4.same s5).same s6).same s7
      have nbm : m ≠ b := (g4.same s5).ne nm
      walk_at "rd_3"
      refine rd_appK em7 (by omega) fun J8 p8 e8 => ?_
      have rp8 : Ra K J8 p x y := rp7.mono fun xs h => sqt_pu p8 h
      have rq8 : Ra K J8 p2 u v := rq7.mono fun xs h => sqt_pu p8 h
      have sl8 := sl7.mono fun p xs h => sqt_pu p8 h
      have el8 := p8.lst ne el7
      have hS8 := p8.scr hS7
      have g8 := p8.bag nbm g7
      walk_at "rd_3"
      refine ⟨p, p2, x, y, u, v, rfl, rp8, rq8, fun w J9 ws nw s9 ew sw lw => ?_⟩
      have el9 := s9 _ _ el8
      have sl9 := sl8.mono fun p xs h => sqt_same s9 h
      walk_at "rd_3"
      refine rd_reprS (SqL.of ew) sw (by omega) ?_
      walk_at "rd_3"
      refine rd_reprS (SqL.of el9) sl9 (by omega) ?_
      walk_at "rd_3"
      refine iteF ?_
      walk_at "rd_3"
      exact ⟨hS8.same s9, g8.same s9, _, _, _, _, _, _, rfl⟩
    · obtain ⟨hS2, g2, o3, o4, o5, o6, o7, o8, rfl⟩ := w
      exact ⟨hS2, _, _, _, _, _, _, _, _, rfl⟩
  · obtain ⟨hS1, o1, o2, o3, o4, o5, o6, o7, o8, rfl⟩ := w
    walk_at "rd_3"
    rename_i pa Ja na sa ea pb Jb nb sb eb
    have ea' := sb _ _ ea
    refine ⟨pa, pb, 0, 1, 0, 1, rfl, ⟨SqT.of ea', by decide, by decide, zero_lit, one_lit⟩, ⟨SqT.of eb, by decide, by decide, zero_lit, one_lit⟩, fun l J rs nl s el sl ll => ?_⟩
    rw [show arcD 0 1 0 1 = [] by simp [arcD]] at sl
    cases sl
    walk_at "rd_3"
    refine iteT ?_
    walk_at "rd_3"
    rename_i pc Jc nc sc ec pd Jd nd sd ed
    have ec' := sd _ _ ec
    refine ⟨pc, pd, 1, 2, 0, 1, rfl, ⟨SqT.of ec', by decide, by decide, one_lit, Bd.lit (by decide +kernel)⟩, ⟨SqT.of ed, by decide, by decide, zero_lit, one_lit⟩, fun l2 J2 rs2 nl2 s2 el2 sl2 ll2 => ?_⟩
    rw [show arcD 1 2 0 1 = [⟨1, 2, 1, 1⟩] by simp [arcD]] at sl2
    walk_at "rd_3"
    rename_i pe Je ne se ee pf Jf nf sf ef pg Jg ng sg eg ph Jh nh sh eh
    have hs : Same J2 Jh := Same.trans se (Same.trans sf (Same.trans sg sh))
    have r1 : Ra K Jh pe 1 2 := ⟨SqT.of (sh _ _ (sg _ _ (sf _ _ ee))), by decide, by decide, one_lit, Bd.lit (by decide +kernel)⟩
    have r2 : Ra K Jh pf 1 1 := ⟨SqT.of (sh _ _ (sg _ _ ef)), by decide, by decide, one_lit, one_lit⟩
    have st : SnsAt K Jh [.ref pg] [⟨1, 2, 1, 1⟩] := .cons ⟨pg, pe, pf, rfl, SqT.of (sh _ _ eg), r1, r2⟩ .nil
    refine rd_eqS (SqL.of (hs _ _ el2)) (sl2.mono fun p xs h => sqt_same hs h) (SqL.of eh) st ?_
    exact q _

theorem all_mk {l : PySem.W.OpenLaw} {w : World} {K : PySem.W.Frag} {h : Heap} {mg : Str → Option Value} {fa : Addr} (X : K.In h) (G : h.Ns mainGlobals mg) (hfa : mg "law" = some (.ref fa))
    {f0 : Addr} {od0 an0 : Option Addr} {sl0 : Array (Option Value)} {oc0 kV0 dc0 pm0 cd0 ct0 : Value}
    (a0 : PySem.W.nsIn K mainGlobals "_law_bag" = some (some (.ref f0))) (l0 : K.lookup f0 = some ⟨oc0, od0, .func (PySem.W.fnOf "_law_bag" "_law_bag" (defArgs S__law_bag) (defBody S__law_bag) (defScope S__law_bag) .none kV0 dc0 pm0 an0 cd0 ct0), sl0⟩) (c0 : PySem.W.codeIn K cd0 "_law_bag" = true) (k0 : PySem.W.keepIn K (.ref f0) = true)
    {f1 : Addr} {od1 an1 : Option Addr} {sl1 : Array (Option Value)} {oc1 kV1 dc1 pm1 cd1 ct1 : Value}
    (a1 : PySem.W.nsIn K mainGlobals "_law_take" = some (some (.ref f1))) (l1 : K.lookup f1 = some ⟨oc1, od1, .func (PySem.W.fnOf "_law_take" "_law_take" (defArgs S__law_take) (defBody S__law_take) (defScope S__law_take) .none kV1 dc1 pm1 an1 cd1 ct1), sl1⟩) (c1 : PySem.W.codeIn K cd1 "_law_take" = true) (k1 : PySem.W.keepIn K (.ref f1) = true)
    {f2 : Addr} {od2 an2 : Option Addr} {sl2 : Array (Option Value)} {oc2 kV2 dc2 pm2 cd2 ct2 : Value}
    (a2 : PySem.W.nsIn K mainGlobals "_law_part" = some (some (.ref f2))) (l2 : K.lookup f2 = some ⟨oc2, od2, .func (PySem.W.fnOf "_law_part" "_law_part" (defArgs S__law_part) (defBody S__law_part) (defScope S__law_part) .none kV2 dc2 pm2 an2 cd2 ct2), sl2⟩) (c2 : PySem.W.codeIn K cd2 "_law_part" = true) (k2 : PySem.W.keepIn K (.ref f2) = true)
    {f3 : Addr} {od3 an3 : Option Addr} {sl3 : Array (Option Value)} {oc3 kV3 dc3 pm3 cd3 ct3 : Value}
    (a3 : PySem.W.nsIn K mainGlobals "_law_lowest" = some (some (.ref f3))) (l3 : K.lookup f3 = some ⟨oc3, od3, .func (PySem.W.fnOf "_law_lowest" "_law_lowest" (defArgs S__law_lowest) (defBody S__law_lowest) (defScope S__law_lowest) .none kV3 dc3 pm3 an3 cd3 ct3), sl3⟩) (c3 : PySem.W.codeIn K cd3 "_law_lowest" = true) (k3 : PySem.W.keepIn K (.ref f3) = true)
    {f4 : Addr} {od4 an4 : Option Addr} {sl4 : Array (Option Value)} {oc4 kV4 dc4 pm4 cd4 ct4 : Value}
    (a4 : PySem.W.nsIn K mainGlobals "is_int" = some (some (.ref f4))) (l4 : K.lookup f4 = some ⟨oc4, od4, .func (PySem.W.fnOf "is_int" "is_int" (defArgs S_is_int) (defBody S_is_int) (defScope S_is_int) .none kV4 dc4 pm4 an4 cd4 ct4), sl4⟩) (c4 : PySem.W.codeIn K cd4 "is_int" = true) (k4 : PySem.W.keepIn K (.ref f4) = true)
    {f5 : Addr} {od5 an5 : Option Addr} {sl5 : Array (Option Value)} {oc5 kV5 dc5 pm5 cd5 ct5 : Value}
    (a5 : PySem.W.nsIn K mainGlobals "is_ratio" = some (some (.ref f5))) (l5 : K.lookup f5 = some ⟨oc5, od5, .func (PySem.W.fnOf "is_ratio" "is_ratio" (defArgs S_is_ratio) (defBody S_is_ratio) (defScope S_is_ratio) .none kV5 dc5 pm5 an5 cd5 ct5), sl5⟩) (c5 : PySem.W.codeIn K cd5 "is_ratio" = true) (k5 : PySem.W.keepIn K (.ref f5) = true)
    {f6 : Addr} {od6 an6 : Option Addr} {sl6 : Array (Option Value)} {oc6 kV6 dc6 pm6 cd6 ct6 : Value}
    (a6 : PySem.W.nsIn K mainGlobals "is_less" = some (some (.ref f6))) (l6 : K.lookup f6 = some ⟨oc6, od6, .func (PySem.W.fnOf "is_less" "is_less" (defArgs S_is_less) (defBody S_is_less) (defScope S_is_less) .none kV6 dc6 pm6 an6 cd6 ct6), sl6⟩) (c6 : PySem.W.codeIn K cd6 "is_less" = true) (k6 : PySem.W.keepIn K (.ref f6) = true)
    {f7 : Addr} {od7 an7 : Option Addr} {sl7 : Array (Option Value)} {oc7 kV7 dc7 pm7 cd7 ct7 : Value}
    (a7 : PySem.W.nsIn K mainGlobals "_is_span" = some (some (.ref f7))) (l7 : K.lookup f7 = some ⟨oc7, od7, .func (PySem.W.fnOf "_is_span" "_is_span" (defArgs S__is_span) (defBody S__is_span) (defScope S__is_span) .none kV7 dc7 pm7 an7 cd7 ct7), sl7⟩) (c7 : PySem.W.codeIn K cd7 "_is_span" = true) (k7 : PySem.W.keepIn K (.ref f7) = true)
    {f8 : Addr} {od8 an8 : Option Addr} {sl8 : Array (Option Value)} {oc8 kV8 dc8 pm8 cd8 ct8 : Value}
    (a8 : PySem.W.nsIn K mainGlobals "is_cuts" = some (some (.ref f8))) (l8 : K.lookup f8 = some ⟨oc8, od8, .func (PySem.W.fnOf "is_cuts" "is_cuts" (defArgs S_is_cuts) (defBody S_is_cuts) (defScope S_is_cuts) .none kV8 dc8 pm8 an8 cd8 ct8), sl8⟩) (c8 : PySem.W.codeIn K cd8 "is_cuts" = true) (k8 : PySem.W.keepIn K (.ref f8) = true)
    {f9 : Addr} {od9 an9 : Option Addr} {sl9 : Array (Option Value)} {oc9 kV9 dc9 pm9 cd9 ct9 : Value}
    (a9 : PySem.W.nsIn K mainGlobals "arc" = some (some (.ref f9))) (l9 : K.lookup f9 = some ⟨oc9, od9, .func (PySem.W.fnOf "arc" "arc" (defArgs S_arc) (defBody S_arc) (defScope S_arc) .none kV9 dc9 pm9 an9 cd9 ct9), sl9⟩) (c9 : PySem.W.codeIn K cd9 "arc" = true) (k9 : PySem.W.keepIn K (.ref f9) = true)
    {f10 : Addr} {od10 an10 : Option Addr} {sl10 : Array (Option Value)} {oc10 kV10 dc10 pm10 cd10 ct10 : Value}
    (a10 : PySem.W.nsIn K mainGlobals "_law_drawn_grain" = some (some (.ref f10))) (l10 : K.lookup f10 = some ⟨oc10, od10, .func (PySem.W.fnOf "_law_drawn_grain" "_law_drawn_grain" (defArgs S__law_drawn_grain) (defBody S__law_drawn_grain) (defScope S__law_drawn_grain) .none kV10 dc10 pm10 an10 cd10 ct10), sl10⟩) (c10 : PySem.W.codeIn K cd10 "_law_drawn_grain" = true) (k10 : PySem.W.keepIn K (.ref f10) = true)
    {f11 : Addr} {od11 an11 : Option Addr} {sl11 : Array (Option Value)} {oc11 kV11 dc11 pm11 cd11 ct11 : Value}
    (a11 : PySem.W.nsIn K mainGlobals "_law_cut" = some (some (.ref f11))) (l11 : K.lookup f11 = some ⟨oc11, od11, .func (PySem.W.fnOf "_law_cut" "_law_cut" (defArgs S__law_cut) (defBody S__law_cut) (defScope S__law_cut) .none kV11 dc11 pm11 an11 cd11 ct11), sl11⟩) (c11 : PySem.W.codeIn K cd11 "_law_cut" = true) (k11 : PySem.W.keepIn K (.ref f11) = true)
    {f12 : Addr} {od12 an12 : Option Addr} {sl12 : Array (Option Value)} {oc12 kV12 dc12 pm12 cd12 ct12 : Value}
    (a12 : PySem.W.nsIn K mainGlobals "_law_due" = some (some (.ref f12))) (l12 : K.lookup f12 = some ⟨oc12, od12, .func (PySem.W.fnOf "_law_due" "_law_due" (defArgs S__law_due) (defBody S__law_due) (defScope S__law_due) .none kV12 dc12 pm12 an12 cd12 ct12), sl12⟩) (c12 : PySem.W.codeIn K cd12 "_law_due" = true) (k12 : PySem.W.keepIn K (.ref f12) = true)
    {f13 : Addr} {od13 an13 : Option Addr} {sl13 : Array (Option Value)} {oc13 kV13 dc13 pm13 cd13 ct13 : Value}
    (a13 : PySem.W.nsIn K mainGlobals "law" = some (some (.ref f13))) (l13 : K.lookup f13 = some ⟨oc13, od13, .func (PySem.W.fnOf "law" "law" (defArgs S_law) (defBody S_law) (defScope S_law) .none kV13 dc13 pm13 an13 cd13 ct13), sl13⟩) (c13 : PySem.W.codeIn K cd13 "law" = true) (k13 : PySem.W.keepIn K (.ref f13) = true)
    (g0 : PySem.W.nsIn K mainGlobals "gcd" = some (some (.builtin "math.gcd")))
    {gz1 : Addr} {go1 : Obj} (g1 : PySem.W.nsIn K mainGlobals "ONE" = some (some (.ref gz1))) (gl1 : K.lookup gz1 = some go1) (gd1 : TupObj go1 [V.int 1, V.int 1])
    {gz2 : Addr} {go2 : Obj} (g2 : PySem.W.nsIn K mainGlobals "ZERO" = some (some (.ref gz2))) (gl2 : K.lookup gz2 = some go2) (gd2 : TupObj go2 [V.int 0, V.int 1])
    (z0 : PySem.W.nsIn K mainGlobals "abs" = some none)
    (z1 : PySem.W.nsIn K mainGlobals "len" = some none)
    (z2 : PySem.W.nsIn K mainGlobals "isinstance" = some none)
    (z3 : PySem.W.nsIn K mainGlobals "bool" = some none)
    (z4 : PySem.W.nsIn K mainGlobals "int" = some none)
    (z5 : PySem.W.nsIn K mainGlobals "tuple" = some none)
    (z6 : PySem.W.nsIn K mainGlobals "all" = some none)
    (z7 : PySem.W.nsIn K mainGlobals "zip" = some none)
    (z8 : PySem.W.nsIn K mainGlobals "list" = some none)
    (z9 : PySem.W.nsIn K mainGlobals "range" = some none)
    (z10 : PySem.W.nsIn K mainGlobals "max" = some none)
    (z11 : PySem.W.nsIn K mainGlobals "min" = some none)
    (z12 : PySem.W.nsIn K mainGlobals "repr" = some none)
    : ∃ fd : FuncData, (∀ (s : Shared) (v : Value), BindsTo s fd ⟨[v], []⟩ [("_law_script", v)]) ∧ ∀ base : Heap, K.In base → base.Ns mainGlobals mg → FnG l.prog w K mg base CX0 5 fa fd ["_law_script"] (sp_law K) := by
  have e := hfa.symm.trans (PySem.W.mg_of X G a13)
  cases e
  have F0 := fun_mk (st := S__law_bag) l0 c0 k0
  have b0 := F0.binds (ps := ["_law_script", "_law_at"]) fun _ _ _ _ _ _ us hl => match us, hl with | [_, _], _ => rfl
  have F1 := fun_mk (st := S__law_take) l1 c1 k1
  have b1 := F1.binds (ps := ["_law_bag_here", "_law_size"]) fun _ _ _ _ _ _ us hl => match us, hl with | [_, _], _ => rfl
  have F2 := fun_mk (st := S__law_part) l2 c2 k2
  have b2 := F2.binds (ps := ["_law_one", "_law_other"]) fun _ _ _ _ _ _ us hl => match us, hl with | [_, _], _ => rfl
  have F3 := fun_mk (st := S__law_lowest) l3 c3 k3
  have b3 := F3.binds (ps := ["_law_top", "_law_under"]) fun _ _ _ _ _ _ us hl => match us, hl with | [_, _], _ => rfl
  have F4 := fun_mk (st := S_is_int) l4 c4 k4
  have b4 := F4.binds (ps := ["thing"]) fun _ _ _ _ _ _ us hl => match us, hl with | [_], _ => rfl
  have F5 := fun_mk (st := S_is_ratio) l5 c5 k5
  have b5 := F5.binds (ps := ["thing"]) fun _ _ _ _ _ _ us hl => match us, hl with | [_], _ => rfl
  have F6 := fun_mk (st := S_is_less) l6 c6 k6
  have b6 := F6.binds (ps := ["one", "other"]) fun _ _ _ _ _ _ us hl => match us, hl with | [_, _], _ => rfl
  have F7 := fun_mk (st := S__is_span) l7 c7 k7
  have b7 := F7.binds (ps := ["thing"]) fun _ _ _ _ _ _ us hl => match us, hl with | [_], _ => rfl
  have F8 := fun_mk (st := S_is_cuts) l8 c8 k8
  have b8 := F8.binds (ps := ["thing"]) fun _ _ _ _ _ _ us hl => match us, hl with | [_], _ => rfl
  have F9 := fun_mk (st := S_arc) l9 c9 k9
  have b9 := F9.binds (ps := ["low", "high"]) fun _ _ _ _ _ _ us hl => match us, hl with | [_, _], _ => rfl
  have F10 := fun_mk (st := S__law_drawn_grain) l10 c10 k10
  have b10 := F10.binds (ps := ["_law_bag_here"]) fun _ _ _ _ _ _ us hl => match us, hl with | [_], _ => rfl
  have F11 := fun_mk (st := S__law_cut) l11 c11 k11
  have b11 := F11.binds (ps := ["_law_bag_here", "_law_grain"]) fun _ _ _ _ _ _ us hl => match us, hl with | [_, _], _ => rfl
  have F12 := fun_mk (st := S__law_due) l12 c12 k12
  have b12 := F12.binds (ps := ["_law_one", "_law_other"]) fun _ _ _ _ _ _ us hl => match us, hl with | [_, _], _ => rfl
  have F13 := fun_mk (st := S_law) l13 c13 k13
  have c_gcd := PySem.W.mg_of X G g0
  have c_ONE := TupC.of (PySem.W.mg_of X G g1) gl1 gd1
  have c_ZERO := TupC.of (PySem.W.mg_of X G g2) gl2 gd2
  have m_abs := PySem.W.mg_none_of X G z0
  have m_len := PySem.W.mg_none_of X G z1
  have m_isinstance := PySem.W.mg_none_of X G z2
  have m_bool := PySem.W.mg_none_of X G z3
  have m_int := PySem.W.mg_none_of X G z4
  have m_tuple := PySem.W.mg_none_of X G z5
  have m_all := PySem.W.mg_none_of X G z6
  have m_zip := PySem.W.mg_none_of X G z7
  have m_list := PySem.W.mg_none_of X G z8
  have m_range := PySem.W.mg_none_of X G z9
  have m_max := PySem.W.mg_none_of X G z10
  have m_min := PySem.W.mg_none_of X G z11
  have m_repr := PySem.W.mg_none_of X G z12
  refine ⟨PySem.W.fnOf "law" "law" (defArgs S_law) (defBody S_law) (defScope S_law) .none kV13 dc13 pm13 an13 cd13 ct13, fun s v => .of_eq rfl, fun base _ _ => ?_⟩
  have C__law_bag : Cal l.prog w K mg base "_law_bag" 1 f0 _ ["_law_script", "_law_at"] (sp__law_bag K) := ⟨ok__law_bag F0 m_abs m_len, b0, k0, PySem.W.mg_of X G a0⟩
  have C__law_take : Cal l.prog w K mg base "_law_take" 1 f1 _ ["_law_bag_here", "_law_size"] (sp__law_take K) := ⟨ok__law_take F1, b1, k1, PySem.W.mg_of X G a1⟩
  have C__law_part : Cal l.prog w K mg base "_law_part" 1 f2 _ ["_law_one", "_law_other"] (sp__law_part K) := ⟨ok__law_part F2 m_abs, b2, k2, PySem.W.mg_of X G a2⟩
  have C__law_lowest : Cal l.prog w K mg base "_law_lowest" 2 f3 _ ["_law_top", "_law_under"] (sp__law_lowest K) := ⟨ok__law_lowest F3 C__law_part, b3, k3, PySem.W.mg_of X G a3⟩
  have C_is_int : Cal l.prog w K mg base "is_int" 1 f4 _ ["thing"] (sp_is_int K) := ⟨ok_is_int F4 m_isinstance m_bool m_int, b4, k4, PySem.W.mg_of X G a4⟩
  have C_is_ratio : Cal l.prog w K mg base "is_ratio" 2 f5 _ ["thing"] (sp_is_ratio K) := ⟨ok_is_ratio F5 C_is_int c_gcd m_len m_isinstance m_tuple, b5, k5, PySem.W.mg_of X G a5⟩
  have C_is_less : Cal l.prog w K mg base "is_less" 1 f6 _ ["one", "other"] (sp_is_less K) := ⟨ok_is_less F6, b6, k6, PySem.W.mg_of X G a6⟩
  have C__is_span : Cal l.prog w K mg base "_is_span" 3 f7 _ ["thing"] (sp__is_span K) := ⟨ok__is_span F7 C_is_less C_is_ratio c_ONE c_ZERO m_len m_isinstance m_tuple, b7, k7, PySem.W.mg_of X G a7⟩
  have C_is_cuts : Cal l.prog w K mg base "is_cuts" 4 f8 _ ["thing"] (sp_is_cuts K) := ⟨ok_is_cuts F8 C_is_less C__is_span m_all m_zip m_isinstance m_list, b8, k8, PySem.W.mg_of X G a8⟩
  have C_arc : Cal l.prog w K mg base "arc" 2 f9 _ ["low", "high"] (sp_arc K) := ⟨ok_arc F9 C_is_less c_ONE c_ZERO, b9, k9, PySem.W.mg_of X G a9⟩
  have C__law_drawn_grain : Cal l.prog w K mg base "_law_drawn_grain" 2 f10 _ ["_law_bag_here"] (sp__law_drawn_grain K) := ⟨ok__law_drawn_grain F10 C__law_take, b10, k10, PySem.W.mg_of X G a10⟩
  have C__law_cut : Cal l.prog w K mg base "_law_cut" 3 f11 _ ["_law_bag_here", "_law_grain"] (sp__law_cut K) := ⟨ok__law_cut F11 C__law_take C__law_lowest, b11, k11, PySem.W.mg_of X G a11⟩
  have C__law_due : Cal l.prog w K mg base "_law_due" 1 f12 _ ["_law_one", "_law_other"] (sp__law_due K) := ⟨ok__law_due F12 m_int, b12, k12, PySem.W.mg_of X G a12⟩
  exact ok_law F13 C_arc C_is_cuts C__law_due C__law_cut C__law_drawn_grain C__law_bag m_range m_max m_min m_len m_repr
theorem walk {l : PySem.W.OpenLaw} {q : Program} {loose : List Str} {XP : (Str → Option Value) → Heap → Prop} {YP : World → Heap → Prop} {d : DefRec} {K : Params → PySem.W.Frag} (hn : l.most = some 63) (hdf : d.params.defaults = [])
    (hY : ∀ (w : World) (h : Heap), YP w h → (K w.params).In h)
    (F : ∀ (w : World) (mg : Str → Option Value) (fa : Addr) (h : Heap), (K w.params).In h → h.Ns mainGlobals mg → mg d.name = some (.ref fa) →
      ∃ fd : FuncData, (∀ (s : Shared) (u : Value), BindsTo s fd ⟨[u], []⟩ [("_law_script", u)]) ∧ ∀ base : Heap, (K w.params).In base → base.Ns mainGlobals mg → FnG l.prog w (K w.params) mg base CX0 5 fa fd ["_law_script"] (sp_law (K w.params))) :
    PySem.W.WalkO q loose XP YP l.row.toRowW d [] (fun f vs => PySem.call f vs) :=
  walk_g (n := 63) (k := 5) (x := "_law_script") (CX := fun _ => CX0) (sp := fun w => sp_law (K w.params)) hn (by decide) hdf ⟨rfl, by decide, by decide⟩ hY F (fun _ _ a ns hl _ o hS => ⟨a, ns, rfl, Scr.of o hS, hl, fun _ => rfl⟩) fun _ _ _ _ _ z => z
end Ob
open PySem PySem.W PyProof.Rows
set_option maxRecDepth 100000 in
set_option maxHeartbeats 0 in
theorem PySem.Challenge.cw_onecut_k08_arcs_holds : PySem.Challenge.rw_onecut_k08_arcs.Holds := by
  w_on; o_law; k_head; (case hw => w_witness2)
  k_fill
  refine Ob.walk (l := PySem.Challenge.rw_onecut_k08_arcs) rfl rfl (fun w h Y => PySem.W.kIn_of Y) ?F
  case F =>
    intro w mg fa h KX G hmg
    refine' Ob.all_mk KX G hmg ?a0 ?l0 ?c0 ?k0 ?a1 ?l1 ?c1 ?k1 ?a2 ?l2 ?c2 ?k2 ?a3 ?l3 ?c3 ?k3 ?a4 ?l4 ?c4 ?k4 ?a5 ?l5 ?c5 ?k5 ?a6 ?l6 ?c6 ?k6 ?a7 ?l7 ?c7 ?k7 ?a8 ?l8 ?c8 ?k8 ?a9 ?l9 ?c9 ?k9 ?a10 ?l10 ?c10 ?k10 ?a11 ?l11 ?c11 ?k11 ?a12 ?l12 ?c12 ?k12 ?a13 ?l13 ?c13 ?k13 ?g0 ?g1 ?gl1 ?gd1 ?g2 ?gl2 ?gd2 ?z0 ?z1 ?z2 ?z3 ?z4 ?z5 ?z6 ?z7 ?z8 ?z9 ?z10 ?z11 ?z12
    (case a0 => k_is)
    (case l0 => k_is)
    (case c0 => k_is)
    (case k0 => k_is)
    (case a1 => k_is)
    (case l1 => k_is)
    (case c1 => k_is)
    (case k1 => k_is)
    (case a2 => k_is)
    (case l2 => k_is)
    (case c2 => k_is)
    (case k2 => k_is)
    (case a3 => k_is)
    (case l3 => k_is)
    (case c3 => k_is)
    (case k3 => k_is)
    (case a4 => k_is)
    (case l4 => k_is)
    (case c4 => k_is)
    (case k4 => k_is)
    (case a5 => k_is)
    (case l5 => k_is)
    (case c5 => k_is)
    (case k5 => k_is)
    (case a6 => k_is)
    (case l6 => k_is)
    (case c6 => k_is)
    (case k6 => k_is)
    (case a7 => k_is)
    (case l7 => k_is)
    (case c7 => k_is)
    (case k7 => k_is)
    (case a8 => k_is)
    (case l8 => k_is)
    (case c8 => k_is)
    (case k8 => k_is)
    (case a9 => k_is)
    (case l9 => k_is)
    (case c9 => k_is)
    (case k9 => k_is)
    (case a10 => k_is)
    (case l10 => k_is)
    (case c10 => k_is)
    (case k10 => k_is)
    (case a11 => k_is)
    (case l11 => k_is)
    (case c11 => k_is)
    (case k11 => k_is)
    (case a12 => k_is)
    (case l12 => k_is)
    (case c12 => k_is)
    (case k12 => k_is)
    (case a13 => k_is)
    (case l13 => k_is)
    (case c13 => k_is)
    (case k13 => k_is)
    (case g0 => k_is)
    (case g1 => k_is)
    (case gl1 => k_is)
    (case gd1 => exact ⟨rfl, _, _, rfl, by decide, .cons ⟨_, rfl⟩ (.cons ⟨_, rfl⟩ .nil)⟩)
    (case g2 => k_is)
    (case gl2 => k_is)
    (case gd2 => exact ⟨rfl, _, _, rfl, by decide, .cons ⟨_, rfl⟩ (.cons ⟨_, rfl⟩ .nil)⟩)
    (case z0 => k_is)
    (case z1 => k_is)
    (case z2 => k_is)
    (case z3 => k_is)
    (case z4 => k_is)
    (case z5 => k_is)
    (case z6 => k_is)
    (case z7 => k_is)
    (case z8 => k_is)
    (case z9 => k_is)
    (case z10 => k_is)
    (case z11 => k_is)
    (case z12 => k_is)

