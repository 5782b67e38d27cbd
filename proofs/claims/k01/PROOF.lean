import PyProof.Rows.All
import Wide.All
import OpenK.AllK
import Wide.FinOn
import HandS.ForMost
import HandS.Wide
import HandS.Gcd
import HandS.EndBits
import HandS.IsInst
import HandS.Flow
import HandS.Flt
import HandS.FStrTup
import PySem.Challenge.RW_onecut_k01_ratios_known
set_option Elab.async false
set_option linter.all false
set_option maxRecDepth 100000
set_option exponentiation.threshold 10000
set_option maxHeartbeats 4000000
/-! Defs that may show data by repr: a promise that is asked only where nothing is being shown. -/
namespace Ob
open PySem PySem.Spec PyProof.Rows L2
structure FnG (P : Program) (w : World) (K : PySem.W.Frag) (mg : Str → Option Value) (base : Heap) (CX : CXT) (k : Nat) (f : Addr) (fd : FuncData) (ps : List Str) (sp : Sp) : Prop where
  ar : ∀ vs H Q E, sp vs H Q E → vs.length = ps.length
  go : ∀ (A : Around) (outer : List Env) (s : Shared) (H : Hp) (args : Args) (us : List Value) (vs : List V) (Q : VK) (E : XK), A.guards = some [] → Room k A → Env0 P w K mg base A outer s H →
    BindsTo s fd args (ps.zip us) → Vals vs us → sp vs H Q E → codeAny (model P w) A (.call (.ref f) args) (CR CX outer P w H s Q E) s
section
variable {P : Program} {w : World} {K : PySem.W.Frag} {mg : Str → Option Value} {base : Heap} {CX : CXT}
theorem FnG.up {j k : Nat} {f : Addr} {fd : FuncData} {ps : List Str} {sp : Sp} (F : FnG P w K mg base CX j f fd ps sp) (h : j ≤ k) : FnG P w K mg base CX k f fd ps sp :=
  ⟨F.ar, fun A o s H args us vs Q E hg hr => F.go A o s H args us vs Q E hg (hr.mono h)⟩
/-- a def of the text by its body -/
theorem Fun_okG {x qual : Str} {st : Stmt} {f : Addr} {fd : FuncData} {N ps : List Str} {k : Nat} {sp : Sp} (F : Fun K x qual st f fd) (S : FnScope N ps (defScope st)) (ar : ∀ vs H Q E, sp vs H Q E → vs.length = ps.length)
    (body : ∀ (c : Value) (A : Around) (outer : List Env) (s : Shared) (H : Hp) (vs : List V) (Q : VK) (E : XK), A.guards = some [] → Room k (A.deeper (envOfC qual (defScope st) s.heap.objs.size f c)) → sp vs H Q E →
      ∃ t, PSs (cxOf CX P w K mg base N qual (defScope st) f c A outer s H E).nox (defBody st) t ∧ t { nx := fun _ J => Q .non J, rt := Q } (start N vs) H) : FnG P w K mg base CX (k + 1) f fd ps sp := by
  obtain ⟨oc, od, kV, doc, pm, an, c, ct, osl, rfl, look, code⟩ := F.ex
  refine ⟨ar, fun A outer s H args us vs Q E hg hr e0 bnd rv hs => ?_⟩
  have count := ar _ _ _ _ hs
  have kept : ∀ b o, base.get? b = some o → s.heap.get? b = some o := fun b o e => (e0.bs b o e).1
  have inK : K.In s.heap := e0.mod.kin.keeps kept
  refine codeAny_call_function hr.depth (inK _ _ look) rfl S.co S.gen rfl (PySem.W.codeRec_of inK code) (bnd _ _ _ _ ?_)
  refine wpAny_newFunctionEnv_cells S.kind (fun y hy => (S.par y.1 (List.of_mem_zip (show (y.1, y.2) ∈ ps.zip us from hy)).1).imp id fun q => ⟨q, PySem.W.cellsFrom_some _ _ _ (.inl q)⟩) fun env he s1 x => ?_
  subst he
  obtain ⟨t, ht, hq⟩ := body c A outer s H vs Q E hg (hr.deeper _) hs
  have I : Inv (cxOf CX P w K mg base N qual (defScope st) f c A outer s H E) [] (start N vs) H s1 := inv_start S hr.hd e0 count rv x
  refine ⟨(e0.mod.nolimit.keeps kept).keeps x.toInCall.keep, codeAny_func (wpAny_mono (ht.nox.run [] s1 (start N vs) H _ I hq) (fun fl s' z => ?_) fun e s' z => z)⟩
  cases fl with
  | next => exact (let ⟨σ', J, I', q⟩ := z; ⟨V.non, J, I'.os, I'.bare, I'.base, I'.hok, rfl, q⟩)
  | ret u => exact (let ⟨v, σ', J, I', r', q⟩ := z; ⟨v, J, I'.os, I'.bare, I'.base, I'.hok, r', q⟩)
  | brk => exact (let ⟨_, _, _, q⟩ := z; False.elim q)
  | cont => exact (let ⟨_, _, _, q⟩ := z; False.elim q)
end
section
variable {X : Cx} {CX : CXT} {k : Nat} {f : Addr} {fd : FuncData} {ps : List Str} {sp : Sp} {ds : List Value} {dvs : List V} {E : XK}
theorem run_g {pins : List (Addr × Obj)} {σ : L2.St} {H : Hp} {s : Shared} {Q : VK} {us : List Value} {vs : List V} (F : FnG X.prog X.w X.K X.mg X.base CX k f fd ps sp) (hg : X.A.guards = some []) (hr : Room k X.A) (hb : Binds X.K fd ps ds) (hd : Vals dvs ds) (hx : Passes CX X E)
    (I : Inv X pins σ H s) (rv : Vals vs us) (hs : sp (vs ++ dvs) H Q E) : wpAny (model X.prog X.w) X.A (call (.ref f) us) (EP X pins σ Q) X.xe s := by
  have all := rv.append hd
  refine wpAny_call (codeAny_mono (F.go X.A X.stack s H ⟨us, []⟩ (us ++ ds) (vs ++ dvs) Q E hg hr I.env0 (hb s us I.kIn (all.length ▸ F.ar _ _ _ _ hs)) all hs) fun r s' z => ?_)
  match r, z with
  | .error e, z => exact hx pins σ H s e s' I z
  | .ok (.ret u), z => exact I.after z
variable {x : Str} {e : Expr} {es : List Expr} {t : TA} {p pos : Pos}
/-- f(e, ..) -/
theorem pe_g (F : FnG X.prog X.w X.K X.mg X.base CX k f fd ps sp) (hg : X.A.guards = some []) (hr : Room k X.A) (gl : Gl X x) (hm : X.mg x = some (.ref f)) (hk : PySem.W.keepIn X.K (.ref f) = true) (hb : Binds X.K fd ps ds) (hd : Vals dvs ds) (hx : Passes CX X E)
    (ha : PA X (e :: es) t) (hdb : (x == ("__debug__" : Str)) = false := by decide) (he : starEach (e :: es) X.env = (false, eval e X.env) :: starEach es X.env := by rfl) (hpl : (backTo pos (starEach es X.env)).any (·.1) = false := by rfl) :
    PE X (.Call (.Name x p) (e :: es) [] pos) (tCall sp dvs E t) :=
  ⟨fun pins s σ H Q I h => wpAny_Call_Name_kw (ld_glob I gl hm (PySem.W.callWith_K (h₀ := X.base) I.ok.mod.kin hk (thn (ha.run pos pins s σ H _ I h) fun us s1 z => let ⟨vs, J, I1, rv, q⟩ := z; ⟨I1.kIn, run_g F hg hr hb hd hx I1 rv q⟩) he hpl) hdb)⟩
end
/-! ### the law's call -/
section
variable {P : Program} {w : World} {K : PySem.W.Frag} {mg mb : Str → Option Value} {CX : CXT} {k : Nat} {fa a : Addr} {fd : FuncData} {x : Str} {sp : Sp} {s₁ : Shared} {vs : List Value} {ns : List Int}
def LawEnd (s₁ : Shared) : Result → Shared → Prop := fun r s' => r = .ok (.ret (.bool true)) ∧ OldK s₁.heap s'.heap ∧ s'.os = s₁.os ∧ AllBare s'.gens
/-- H tracks at most the script, locked -/
theorem law_at (H : Hp) (inK : K.In s₁.heap) (hns : s₁.heap.Ns mainGlobals mg) (hb : s₁.heap.Ns builtinsNs mb) (hbb : ∀ x : Str, x ≠ "__name__" → mb x = bootBuiltins x) (hlim : s₁.heap.NoLimit) (hg : s₁.gens = #[])
    (ha : s₁.heap.get? a = some { cls := .type "list", data := .seq vs.toArray }) (hr : Room k callerA)
    (F : ∀ base : Heap, K.In base → base.Ns mainGlobals mg → FnG P w K mg base CX k fa fd [x] sp) (hbind : ∀ (s : Shared) (u : Value), BindsTo s fd ⟨[u], []⟩ [(x, u)])
    (hs : sp [.ref a] H (fun v _ => v = .bl true) fun _ _ _ => False) (hCX : ∀ e s', CX [] H s₁ (fun _ _ _ => False) e s' → False)
    (hO : Only H) (ok : HOk P w H s₁.heap) (only : ∀ b, H b ≠ none → b = a) (free : H a ≠ none → K.lookup a = none) : codeAny (model P w) callerA (.call (.ref fa) ⟨[.ref a], []⟩) (LawEnd s₁) s₁ := by
  have out : ∀ {b o}, s₁.heap.get? b = some o → ((H b ≠ none → b = a) → H b ≠ none → False) → (hidT s₁.heap H).get? b = some o := fun {b o} e no => hidT_get e (Classical.byContradiction fun n => no (only b) n)
  have names : ∀ {b m}, s₁.heap.Ns b m → (hidT s₁.heap H).Ns b m := fun {b m} z => let ⟨o, es, ep, e, d, r⟩ := z; ⟨o, es, ep, out e (fun g n => by
    obtain rfl := g n
    cases ha.symm.trans e
    cases d), d, r⟩
  have written : K.In (hidT s₁.heap H) := fun b o e => out (inK b o e) fun g n => by
    obtain rfl := g n
    cases (free n).symm.trans e
  have env : Env0 P w K mg (hidT s₁.heap H) callerA [] s₁ H :=
    ⟨rfl, ⟨written, names hns, ⟨mb, names hb, hbb⟩, let ⟨m, p, q⟩ := hlim; ⟨m, names p, q⟩⟩, fun _ _ e => of_hidT e, Nat.le_of_eq (hidT_size _ _), trivial, (fun _ z => absurd z (by simp [frs])), ok, AllBare.of_eq hg⟩
  refine codeAny_mono ((F _ written (names hns)).go callerA [] s₁ H ⟨[.ref a], []⟩ [.ref a] [.ref a] _ _ rfl hr env (hbind s₁ (.ref a)) (.cons rfl .nil) hs) fun r s' z => ?_
  match r, z with
  | .error e, z => exact (hCX e s' z).elim
  | .ok (.ret u), z =>
    obtain ⟨v, J, os, bare, un, ok', rel, rfl⟩ := z
    obtain rfl : u = Value.bool true := rel
    refine ⟨rfl, OldK.of_keep fun b o e => ?_, os, bare⟩
    rcases hO b with n | ⟨ob, xs, n⟩
    · exact un.keep b o e n (fun z => absurd z (by simp [frs])) (by simp)
    · have h1 := (ok b _ n).1
      cases e.symm.trans h1
      exact (ok' b _ (un.frzs b _ _ n)).1
theorem law_g (inK : K.In s₁.heap) (hns : s₁.heap.Ns mainGlobals mg) (hb : s₁.heap.Ns builtinsNs mb) (hbb : ∀ x : Str, x ≠ "__name__" → mb x = bootBuiltins x) (hlim : s₁.heap.NoLimit) (hg : s₁.gens = #[])
    (ha : s₁.heap.get? a = some { cls := .type "list", data := .seq vs.toArray }) (hi : IntsAre vs ns) (hl : ns.length ≤ sizeLine) (hr : Room k callerA)
    (F : ∀ base : Heap, K.In base → base.Ns mainGlobals mg → FnG P w K mg base CX k fa fd [x] sp) (hbind : ∀ (s : Shared) (u : Value), BindsTo s fd ⟨[u], []⟩ [(x, u)])
    (hs : ∀ H : Hp, Only H → SqL K H a (ns.map V.int) → sp [.ref a] H (fun v _ => v = .bl true) fun _ _ _ => False)
    (hCX : ∀ H e s', CX [] H s₁ (fun _ _ _ => False) e s' → False) : codeAny (model P w) callerA (.call (.ref fa) ⟨[.ref a], []⟩) (LawEnd s₁) s₁ := by
  have rv := vals_ints hi
  have many : vs.length = ns.length := by have := hi.length; omega
  have put : ∀ H : Hp, Only H → SqL K H a (ns.map V.int) → HOk P w H s₁.heap → (∀ b, H b ≠ none → b = a) → (H a ≠ none → K.lookup a = none) → codeAny (model P w) callerA (.call (.ref fa) ⟨[.ref a], []⟩) (LawEnd s₁) s₁ :=
    fun H o q ok g f => law_at H inK hns hb hbb hlim hg ha hr F hbind (hs H o q) (hCX H) o ok g f
  cases kl : K.lookup a with
  | some o =>
    cases ha.symm.trans (inK a o kl)
    exact put (fun _ => none) (fun _ => .inl rfl) (.inr ⟨_, vs.toArray, _, kl, rfl, rfl, rfl, by rw [List.size_toArray, many]; exact hl, by simpa using rv⟩) (fun _ _ z => by cases z) (fun _ z => absurd rfl z) fun z => absurd rfl z
  | none =>
    have at_a : ∀ {b : Addr}, b = a → (fun b => if b = a then some (HO.frz { cls := .type "list", data := .seq vs.toArray } (.lst (ns.map V.int))) else none) b = some (HO.frz { cls := .type "list", data := .seq vs.toArray } (.lst (ns.map V.int))) := fun e => if_pos e
    have off_a : ∀ {b : Addr}, b ≠ a → (fun b => if b = a then some (HO.frz { cls := .type "list", data := .seq vs.toArray } (.lst (ns.map V.int))) else none) b = none := fun e => if_neg e
    refine put _ (fun b => ?_) (.inl (.inr ⟨_, at_a rfl⟩)) (fun b u z => ?_) (fun b z => Classical.byContradiction fun n => z (off_a n)) fun _ => kl
    · by_cases e : b = a
      · exact .inr ⟨_, _, at_a e⟩
      · exact .inl (off_a e)
    · by_cases e : b = a
      · cases (at_a e).symm.trans z
        subst e
        exact ⟨ha, by rw [List.length_map]; exact hl, vs, _, rv, ha⟩
      · cases (off_a e).symm.trans z
end
theorem walk_g {l : PySem.W.OpenLaw} {n k : Nat} {q : Program} {loose : List Str} {XP : (Str → Option Value) → Heap → Prop} {YP : World → Heap → Prop} {d : DefRec} {K : Params → PySem.W.Frag} {CX : World → CXT} {sp : World → Sp} {x : Str}
    (hn : l.most = some n) (hn2 : n ≤ sizeLine) (hdf : d.params.defaults = []) (hr : Room k callerA) (hY : ∀ (w : World) (h : Heap), YP w h → (K w.params).In h)
    (F : ∀ (w : World) (mg : Str → Option Value) (fa : Addr) (h : Heap), (K w.params).In h → h.Ns mainGlobals mg → mg d.name = some (.ref fa) → ∃ fd : FuncData, (∀ (s : Shared) (u : Value), BindsTo s fd ⟨[u], []⟩ [(x, u)]) ∧
      ∀ base : Heap, (K w.params).In base → base.Ns mainGlobals mg → FnG l.prog w (K w.params) mg base (CX w) k fa fd [x] (sp w))
    (hs : ∀ (w : World) (H : Hp) (a : Addr) (ns : List Int), ns.length ≤ n → (∀ z ∈ ns, Builtin.Int.intBits z ≤ 1048576) → Only H → SqL (K w.params) H a (ns.map V.int) → sp w [.ref a] H (fun v _ => v = .bl true) fun _ _ _ => False)
    (hCX : ∀ (w : World) (H : Hp) (s : Shared) (e : Value) (s' : Shared), CX w [] H s (fun _ _ _ => False) e s' → False) : PySem.W.WalkO q loose XP YP l.row.toRowW d [] (fun f vs => PySem.call f vs) :=
  Att.attach_callB hn hdf fun w s₀ s₁ mg mb fa o pm cd doc a vs ns G Y ho hd hcd hmg hobj hints hlen hbits hg =>
    let ⟨_, hb, hF⟩ := F w mg fa _ (hY w _ Y) G.T.g hmg
    law_g (hY w _ Y) G.T.g G.T.b G.T.builtins G.T.nolimit hg hobj hints (Nat.le_trans hlen hn2) hr hF hb (fun H o z => hs w H a ns hlen hbits o z) fun H e s' => hCX w H s₁ e s'
end Ob
namespace Ob
open PySem PySem.Spec PyProof.Rows L2
/-! ### repr of data -/
mutual
def sz : PyData → Nat
  | .none => 4
  | .bool _ => 5
  | .int i => i.natAbs.log2 + 2
  | .str _ => 0
  | .list xs => szs xs + 2
  | .tuple xs => szs xs + 2
  | .dict _ => 0
def szs : List PyData → Nat
  | [] => 0
  | x :: xs => sz x + 2 + szs xs
end
mutual
/-- no texts, no dicts; ints below 1,900 bits -/
def sm : PyData → Bool
  | .none => true
  | .bool _ => true
  | .int i => decide (i.natAbs.log2 < 1900)
  | .str _ => false
  | .list xs => sms xs
  | .tuple xs => sms xs
  | .dict _ => false
def sms : List PyData → Bool
  | [] => true
  | x :: xs => sm x && sms xs
end
theorem list_le (ts : List Str) : (listText ts).length ≤ piled ts + 2 := by
  cases ts with
  | nil => decide +kernel
  | cons t r =>
    have h := textFrom_length_pos r 1 (("[" : Str) ++ (if (0 : Nat) > 0 then ", " else "" : String) ++ t) (Nat.succ_pos 0)
    have e : ((("[" : Str) ++ (if (0 : Nat) > 0 then ", " else "" : String) ++ t)).length = 1 + t.length := by rw [strLen_append, strLen_append] <;> rfl
    have e2 : (listText (t :: r)).length = (textFrom 1 (("[" : Str) ++ (if (0 : Nat) > 0 then ", " else "" : String) ++ t) r).length + 1 := strLen_append _ _
    rw [e2, h, e, piled_cons]
    omega
mutual
theorem shown_le : ∀ d : PyData, sm d = true → d.shown.length ≤ sz d ∧ d.showable = true ∧ d.hasDict = false
  | .none, _ => ⟨by decide +kernel, by simp [PyData.showable], by simp [PyData.hasDict]⟩
  | .bool b, _ => ⟨by cases b <;> decide +kernel, by simp [PyData.showable], by simp [PyData.hasDict]⟩
  | .int i, h => by
    have h1 : i.natAbs.log2 < 1900 := by simpa [sm] using h
    refine ⟨?_, by simp [PyData.showable]; omega, by simp [PyData.hasDict]⟩
    have e := int_text_length_le (a := i) (k := i.natAbs.log2 + 1) (by omega) (by omega)
    have e3 : (PyData.int i).shown = Str.ofString (toString i) := by simp only [PyData.shown]
    rw [e3, PySem.ofString_length, sz]
    omega
  | .str _, h => by simp [sm] at h
  | .dict _, h => by simp [sm] at h
  | .list xs, h => by
    have q := showns_le xs (by simpa [sm] using h)
    refine ⟨?_, by simp [PyData.showable, q.2.1], by simp [PyData.hasDict, q.2.2]⟩
    have e := list_le (PyData.shownAll xs)
    simp only [PyData.shown, sz]
    omega
  | .tuple xs, h => by
    have q := showns_le xs (by simpa [sm] using h)
    refine ⟨?_, by simp [PyData.showable, q.2.1], by simp [PyData.hasDict, q.2.2]⟩
    have e := fmt_text (PyData.shownAll xs)
    simp only [PyData.shown, sz]
    omega
theorem showns_le : ∀ xs : List PyData, sms xs = true → piled (PyData.shownAll xs) ≤ szs xs ∧ PyData.showableAll xs = true ∧ PyData.hasDictAll xs = false
  | [], _ => ⟨Nat.zero_le _, by simp [PyData.showableAll], by simp [PyData.hasDictAll]⟩
  | x :: xs, h => by
    have h2 : sm x = true ∧ sms xs = true := by simpa [sms] using h
    have p := shown_le x h2.1
    have q := showns_le xs h2.2
    refine ⟨?_, by simp [PyData.showableAll, p.2.1, q.2.1], by simp [PyData.hasDictAll, p.2.2, q.2.2]⟩
    have e : PyData.shownAll (x :: xs) = x.shown :: PyData.shownAll xs := by simp only [PyData.shownAll]
    rw [e, piled_cons, szs]
    omega
end
def rRepr (K : PySem.W.Frag) : List V → Hp → VK → Prop := fun xs H Q => ∃ (a : Addr) (d : PyData), xs = [.ref a] ∧ Dp K H (.ref a) d ∧ sm d = true ∧ sz d ≤ 1000000 ∧ d.depth ≤ 50 ∧ Q (.str d.shown) H
section
variable {X : Cx}
theorem cr_repr (hg : X.A.guards = some []) (hu : X.A.units + 64 < cLine) : CallR X (.builtin "repr") (rRepr X.K) := by
  intro pins s σ H xs us Q I r h
  obtain ⟨a, d, rfl, hd, hs, hz, hp, q⟩ := h
  obtain ⟨u, rfl, ru⟩ := vals1 r
  cases ru
  obtain ⟨as, rd⟩ := Dp.reads I d _ _ hd rfl
  obtain ⟨h1, h2, h3⟩ := shown_le d hs
  have hk : ∀ b o, s.heap.get? b = some o → s.heap.get? b = some o := fun _ _ e => e
  refine repr_of_reads' rd h2 (PyData.noDict_hsm h3) hg (by omega) hk (fun h' u tk k => ⟨.str _, H, I.kept k, ⟨_, rfl⟩, q⟩) (Nat.le_trans h1 (Nat.le_trans hz (by decide)))
/-- // by any number but 0 below 2 ^ 9000 -/
def CDv (_ j : Int) : Prop := j ≠ 0 ∧ j.natAbs < 2 ^ 9000
theorem op_dv : OpR X (binaryOp .FloorDiv) (rI CDv fun i j => .int (i.fdiv j)) := opI fun _ _ _ _ _ _ _ hc q => floordiv_int hc.1 q (.inl (PyProof.noPylong_of_log2 (PySem.Flt.log2_lt_of (by decide) hc.2)))
end
/-! ### bounds by powers of two -/
def Bd (n : Nat) (x : Int) : Prop := x.natAbs < 2 ^ n
theorem Bd.mono {m n : Nat} {x : Int} (h : Bd m x) (k : m ≤ n) : Bd n x := Nat.lt_of_lt_of_le h (Nat.pow_le_pow_right (by decide) k)
theorem Bd.mul {m n : Nat} {x y : Int} (h : Bd m x) (k : Bd n y) : Bd (m + n) (x * y) := wide_lt h k
theorem Bd.neg {n : Nat} {x : Int} (h : Bd n x) : Bd n (-x) := by unfold Bd; rw [Int.natAbs_neg]; exact h
theorem Bd.of_neg {n : Nat} {x : Int} (h : Bd n (-x)) : Bd n x := by unfold Bd at h; rw [Int.natAbs_neg] at h; exact h
theorem Bd.add {n : Nat} {x y : Int} (h : Bd n x) (k : Bd n y) : Bd (n + 1) (x + y) := by
  unfold Bd at *
  have e : 2 ^ (n + 1) = 2 ^ n + 2 ^ n := by rw [Nat.pow_succ]; omega
  have := Int.natAbs_add_le x y
  omega
theorem Bd.sub {n : Nat} {x y : Int} (h : Bd n x) (k : Bd n y) : Bd (n + 1) (x - y) := by
  have q := h.add k.neg
  rwa [← Int.sub_eq_add_neg] at q
theorem Bd.log {n : Nat} {x : Int} (h : Bd n x) (h0 : 0 < n := by decide) : x.natAbs.log2 < n := PySem.Flt.log2_lt_of h0 h
theorem Bd.le {n : Nat} {x y : Int} (h : Bd n y) (k : x.natAbs ≤ y.natAbs) : Bd n x := Nat.lt_of_le_of_lt k h
theorem Bd.lit {n : Nat} {x : Int} (h : decide (x.natAbs < 2 ^ n) = true) : Bd n x := by unfold Bd; exact of_decide_eq_true h
theorem Bd.cmul {m n : Nat} {x y : Int} (h : Bd m x) (k : Bd n y) (h0 : 0 < m := by decide) (h1 : 0 < n := by decide) (hs : m + n ≤ 1000000 := by decide) : CMulW x y := wide_mul h k h0 h1 hs
end Ob
namespace Ob
open PySem PySem.Spec PyProof.Rows L2
/-! ### readings, one step each -/
def rLen (K : PySem.W.Frag) : List V → Hp → VK → Prop := fun xs H Q => ∃ p ys, xs = [.ref p] ∧ (SqL K H p ys ∨ SqT K H p ys) ∧ Q (.int ys.length) H
section
variable {K : PySem.W.Frag} {σ : L2.St} {H : Hp} {D : Ends} {te ta tb : TE} {tt uu : TT} {tr : TA} {tl : TA} {Q : VK} {R : Bool → Hp → Prop} {T : List V → Hp → Prop} {v : V} {s1 s2 : TS}
theorem rd_var {i : Nat} (h : σ[i]? = some (some v)) (q : Q v H) : tVar i σ H Q := ⟨v, h, q⟩
theorem rd_c (q : Q v H) : tC v σ H Q := q
theorem rd_nil (q : T [] H) : tNil σ H T := q
theorem rd_cons (q : ta σ H fun x H1 => tl σ H1 fun xs H2 => T (x :: xs) H2) : tCons ta tl σ H T := q
theorem rd_op {r : R2} (q : ta σ H fun x H1 => tb σ H1 fun y H2 => r x y H2 Q) : tOp r ta tb σ H Q := q
theorem rd_un {r : V → Hp → VK → Prop} (q : ta σ H fun x H1 => r x H1 Q) : tUn r ta σ H Q := q
theorem rd_I0 {g : Int → Int → V} {i j : Int} (q : Q (g i j) H) : rI0 g (.int i) (.int j) H Q := ⟨i, j, rfl, rfl, q⟩
theorem rd_I {C : Int → Int → Prop} {g : Int → Int → V} {i j : Int} (c : C i j) (q : Q (g i j) H) : rI C g (.int i) (.int j) H Q := ⟨i, j, rfl, rfl, c, q⟩
theorem rd_U {g : Int → V} {i : Int} (q : Q (g i) H) : rU g (.int i) H Q := ⟨i, rfl, q⟩
theorem rd_eq {x y : V} (h : scal x y = true) (q : Q (.bl (decide (x = y))) H) : rEq x y H Q := ⟨h, q⟩
theorem rd_ne {x y : V} (h : scal x y = true) (q : Q (.bl (!decide (x = y))) H) : rNe x y H Q := ⟨h, q⟩
theorem rd_eqI {i j : Int} (q : Q (.bl (decide (i = j))) H) : rEq (.int i) (.int j) H Q := ⟨rfl, by
  have e : decide (V.int i = V.int j) = decide (i = j) := by
    by_cases h : i = j
    · rw [decide_eq_true h, decide_eq_true (by rw [h])]
    · rw [decide_eq_false h, decide_eq_false fun z => h (V.int.inj z)]
  rw [e]
  exact q⟩
theorem rd_neI {i j : Int} (q : Q (.bl (!decide (i = j))) H) : rNe (.int i) (.int j) H Q := ⟨rfl, by
  have e : decide (V.int i = V.int j) = decide (i = j) := by
    by_cases h : i = j
    · rw [decide_eq_true h, decide_eq_true (by rw [h])]
    · rw [decide_eq_false h, decide_eq_false fun z => h (V.int.inj z)]
  rw [e]
  exact q⟩
theorem rd_same {x : V} (h : scal x x = true) (q : Q (.bl true) H) : rEq x x H Q := ⟨h, by rw [decide_eq_true rfl]; exact q⟩
theorem rd_nsame {x : V} (h : scal x x = true) (q : Q (.bl false) H) : rNe x x H Q := ⟨h, by rw [decide_eq_true rfl]; exact q⟩
theorem rd_test (q : te σ H fun x H' => ∃ k, x = .bl k ∧ R k H') : tTest te σ H R := q
theorem rd_B (q : te σ H fun x H' => ∃ k, x = .bl k ∧ R k H') : tB te σ H R := q
theorem rd_bl {c : Bool} {R : Bool → Prop} (q : R c) : ∃ k, V.bl c = V.bl k ∧ R k := ⟨c, rfl, q⟩
theorem rd_not (q : tt σ H fun c H1 => R (!c) H1) : tNot tt σ H R := q
theorem rd_and (q : tt σ H fun c H1 => if c = true then uu σ H1 R else R false H1) : tAnd tt uu σ H R := q
theorem rd_or (q : tt σ H fun c H1 => if c = true then R true H1 else uu σ H1 R) : tOr tt uu σ H R := q
theorem rd_andV (q : ta σ H fun x H1 => ∃ c, x = .bl c ∧ if c = true then tb σ H1 Q else Q (.bl false) H1) : tAndV ta tb σ H Q := q
theorem rd_orV (q : ta σ H fun x H1 => ∃ c, x = .bl c ∧ if c = true then Q (.bl true) H1 else tb σ H1 Q) : tOrV ta tb σ H Q := q
theorem rd_notV (q : ta σ H fun x H1 => ∃ c, x = .bl c ∧ Q (.bl (!c)) H1) : tNotV ta σ H Q := q
theorem rd_ifE (q : tt σ H fun c H1 => if c = true then ta σ H1 Q else tb σ H1 Q) : tIf tt ta tb σ H Q := q
theorem rd_tup (q : tl σ H fun xs H1 => xs.length ≤ sizeLine ∧ ∀ p, H1 p = none → Q (.ref p) (upd H1 p (.tup xs))) : tTup tl σ H Q := q
theorem rd_lst (q : tl σ H fun xs H1 => xs.length ≤ sizeLine ∧ ∀ p, H1 p = none → Q (.ref p) (upd H1 p (.lst xs))) : tLst tl σ H Q := q
theorem rd_new {xs : List V} {A : Prop} (h : Nat.ble xs.length 1000 = true) (q : A) : xs.length ≤ sizeLine ∧ A := ⟨Nat.le_of_lt (small1000 (Nat.le_of_ble_eq_true h)), q⟩
def kT (Q : VK) (xs : List V) (H : Hp) : Prop := xs.length ≤ sizeLine ∧ ∀ p, H p = none → Q (.ref p) (upd H p (.tup xs))
def kL (Q : VK) (xs : List V) (H : Hp) : Prop := xs.length ≤ sizeLine ∧ ∀ p, H p = none → Q (.ref p) (upd H p (.lst xs))
theorem rd_tupK (q : tl σ H fun xs H1 => kT Q xs H1) : tTup tl σ H Q := q
theorem rd_lstK (q : tl σ H fun xs H1 => kL Q xs H1) : tLst tl σ H Q := q
theorem rd_kT {xs : List V} (h : Nat.ble xs.length 1000 = true) (q : ∀ p J, H p = none → Same H J → J p = some (.tup xs) → Q (.ref p) J) : kT Q xs H :=
  ⟨Nat.le_of_lt (small1000 (Nat.le_of_ble_eq_true h)), fun p np => q p _ np (fun a u e => by rw [upd_ne (ne_of_none e np)]; exact e) upd_same⟩
theorem rd_kL {xs : List V} (h : Nat.ble xs.length 1000 = true) (q : ∀ p J, H p = none → Same H J → J p = some (.lst xs) → Q (.ref p) J) : kL Q xs H :=
  ⟨Nat.le_of_lt (small1000 (Nat.le_of_ble_eq_true h)), fun p np => q p _ np (fun a u e => by rw [upd_ne (ne_of_none e np)]; exact e) upd_same⟩
theorem rd_call {sp : Sp} {dvs : List V} {E : XK} (q : tl σ H fun vs H1 => sp (vs ++ dvs) H1 Q E) : tCall sp dvs E tl σ H Q := q
theorem rd_CB {r : List V → Hp → VK → Prop} (q : tl σ H fun vs H1 => r vs H1 Q) : tCB r tl σ H Q := q
theorem rd_one {i : Int} {R : Int → Prop} (q : R i) : ∃ j, [V.int i] = [V.int j] ∧ R j := ⟨i, rfl, q⟩
theorem rd_two {i j : Int} {R : Int → Int → Prop} (q : R i j) : ∃ k l, [V.int i, V.int j] = [V.int k, V.int l] ∧ R k l := ⟨i, j, rfl, q⟩
theorem rd_int {i : Int} {R : Int → Prop} {S : Bool → Prop} (q : R i) : (∃ j, [V.int i] = [V.int j] ∧ R j) ∨ ∃ k, [V.int i] = [V.bl k] ∧ S k := .inl ⟨i, rfl, q⟩
theorem rd_intB {b : Bool} {R : Int → Prop} {S : Bool → Prop} (q : S b) : (∃ j, [V.bl b] = [V.int j] ∧ R j) ∨ ∃ k, [V.bl b] = [V.bl k] ∧ S k := .inr ⟨b, rfl, q⟩
theorem rd_ixL {p : Addr} {xs : List V} {i : Int} (h : SqL K H p xs) (ha : atI xs i = some v) (q : Q v H) : rIxL K (.ref p) (.int i) H Q := ⟨p, xs, i, v, rfl, rfl, h, ha, q⟩
theorem rd_ixT {p : Addr} {xs : List V} {i : Int} (h : SqT K H p xs) (ha : atI xs i = some v) (q : Q v H) : rIxT K (.ref p) (.int i) H Q := ⟨p, xs, i, v, rfl, rfl, h, ha, q⟩
theorem rd_sxL {p : Addr} {xs : List V} {i : Int} (h : SqL K H p xs) (ha : atI xs i = some v) (q : Q v H) : rIx K (.ref p) (.int i) H Q := .inl ⟨p, xs, i, v, rfl, rfl, h, ha, q⟩
theorem rd_sxT {p : Addr} {xs : List V} {i : Int} (h : SqT K H p xs) (ha : atI xs i = some v) (q : Q v H) : rIx K (.ref p) (.int i) H Q := .inr (.inl ⟨p, xs, i, v, rfl, rfl, h, ha, q⟩)
theorem fmod_rng {x n : Int} (h : 0 < n) : 0 ≤ x.fmod n ∧ x.fmod n < n := by
  rw [Int.fmod_eq_emod_of_nonneg x (by omega)]
  exact ⟨Int.emod_nonneg x (by omega), Int.emod_lt_of_pos x h⟩
/-- a rest of which only the bounds matter -/
theorem rd_md {i j : Int} (c : 0 < j) (q : ∀ r, 0 ≤ r → r < j → Q (.int r) H) : rI (fun _ j => j ≠ 0) (fun i j => V.int (i.fmod j)) (.int i) (.int j) H Q :=
  ⟨i, j, rfl, rfl, by omega, q _ (fmod_rng c).1 (fmod_rng c).2⟩
def Lp (J : It) (g : TG) (tb : TS) (D : Ends) (σ : L2.St) (H : Hp) : Prop := ∃ W : Nat → Nat → L2.St → Hp → Prop, (∃ m, W 0 m σ H) ∧ ∀ i m σ H, W i m σ H →
  (J.stop i H ∧ D.nx σ H) ∨ (J.go i H ∧ ∃ N : L2.St → Hp → Prop, (∀ σ' H', N σ' H' → ∃ m', m' < m ∧ W (i + 1) m' σ' H') ∧ ∀ x H', J.yld i H x H' → g x σ H' fun σ2 H2 => tb { D with nx := N, ct := N, bk := D.nx } σ2 H2)
theorem rd_for1 {ta : TA} {g : TG} {tb : TS} (q : ta σ H fun vs H1 => ∃ j : Int, vs = [.int j] ∧ -(2 ^ 62) ≤ j ∧ j < 2 ^ 62 ∧ Lp (Itr 0 j.toNat) g tb D σ H1) : tFor (iRng1 ta) g tb D σ H := q
theorem rd_for1b {j : Int} {R : Int → Prop} (h : -(2 ^ 62) ≤ j ∧ j < 2 ^ 62) (q : R j) : ∃ k : Int, [V.int j] = [V.int k] ∧ -(2 ^ 62) ≤ k ∧ k < 2 ^ 62 ∧ R k := ⟨j, rfl, h.1, h.2, q⟩
theorem lp_rng {lo : Int} {n : Nat} {g : TG} {tb : TS} (Pv : Nat → L2.St → Hp → Prop) (h0 : Pv 0 σ H) (hs : ∀ i σ H, i < n → Pv i σ H → g (.int (lo + i)) σ H fun σ2 H2 => tb { D with nx := Pv (i + 1), ct := Pv (i + 1), bk := D.nx } σ2 H2)
    (hd : ∀ σ H, Pv n σ H → D.nx σ H) : Lp (Itr lo n) g tb D σ H := for_range Pv h0 hs hd
theorem rd_len {a : Addr} {ys : List V} (h : SqL K H a ys) (q : Q (.int ys.length) H) : rLen K [.ref a] H Q := ⟨a, ys, rfl, .inl h, q⟩
theorem rd_lenTu {a : Addr} {ys : List V} (h : SqT K H a ys) (q : Q (.int ys.length) H) : rLen K [.ref a] H Q := ⟨a, ys, rfl, .inr h, q⟩
theorem rd_lenL {a : Addr} {ys : List V} {R : List V → Prop} (h : SqL K H a ys) (q : R ys) : ∃ p zs, [V.ref a] = [V.ref p] ∧ (SqL K H p zs ∨ SqT K H p zs) ∧ R zs := ⟨a, ys, rfl, .inl h, q⟩
theorem rd_lenT {a : Addr} {ys : List V} {R : List V → Prop} (h : SqT K H a ys) (q : R ys) : ∃ p zs, [V.ref a] = [V.ref p] ∧ (SqL K H p zs ∨ SqT K H p zs) ∧ R zs := ⟨a, ys, rfl, .inr h, q⟩
theorem rd_repr {a : Addr} {d : PyData} (h : Dp K H (.ref a) d) (h1 : sm d = true) (h2 : sz d ≤ 1000000) (h3 : d.depth ≤ 50) (q : Q (.str d.shown) H) : rRepr K [.ref a] H Q := ⟨a, d, rfl, h, h1, h2, h3, q⟩
theorem rd_gtup {a : Addr} {xs : List V} {n : Nat} {t : TGs} {F : L2.St → Hp → Prop} (h : SqT K H a xs) (hn : xs.length = n) (q : t xs σ H F) : gTup K n t (.ref a) σ H F := ⟨a, xs, rfl, h, hn, q⟩
theorem rd_gcons {t : TG} {u : TGs} {w : V} {r : List V} {F : L2.St → Hp → Prop} (q : t w σ H fun σ' H' => u r σ' H' F) : gCons t u (w :: r) σ H F := ⟨w, r, rfl, q⟩
theorem rd_gnil {F : L2.St → Hp → Prop} (q : F σ H) : gNil [] σ H F := ⟨rfl, q⟩
theorem rd_isi {x : V} {n t : String} {b : Bool} (ty : TyX K H x (.type t)) (h : kitB t n = some b) (q : Q (.bl b) H) : rIsi K [x, .ty n] H Q := ⟨x, .ty n, _, _, b, rfl, .ty n, ty, kit_ty h, q⟩
theorem rd_isiI {i : Int} {n : String} {b : Bool} (h : kitB "int" n = some b) (q : Q (.bl b) H) : rIsi K [.int i, .ty n] H Q := rd_isi (.base (.int i)) h q
theorem rd_isiB {i : Bool} {n : String} {b : Bool} (h : kitB "bool" n = some b) (q : Q (.bl b) H) : rIsi K [.bl i, .ty n] H Q := rd_isi (.base (.bl i)) h q
theorem rd_isiN {n : String} {b : Bool} (h : kitB "NoneType" n = some b) (q : Q (.bl b) H) : rIsi K [.non, .ty n] H Q := rd_isi (.base .non) h q
theorem rd_isiS {i : Str} {n : String} {b : Bool} (h : kitB "str" n = some b) (q : Q (.bl b) H) : rIsi K [.str i, .ty n] H Q := rd_isi (.base (.str i)) h q
theorem rd_isiT {a : Addr} {xs : List V} {n : String} {b : Bool} (e : H a = some (.tup xs)) (h : kitB "tuple" n = some b) (q : Q (.bl b) H) : rIsi K [.ref a, .ty n] H Q := rd_isi (.base (.tup e)) h q
theorem rd_isiL {a : Addr} {xs : List V} {n : String} {b : Bool} (e : H a = some (.lst xs)) (h : kitB "list" n = some b) (q : Q (.bl b) H) : rIsi K [.ref a, .ty n] H Q := rd_isi (.base (.lst e)) h q
theorem rd_chain {r r' : R2} {tc : TE} (q : ta σ H fun x H1 => tb σ H1 fun y H2 => r x y H2 fun z H3 => ∃ k, z = .bl k ∧ if k = true then tc σ H3 fun w H4 => r' y w H4 Q else Q (.bl false) H3) : tChain r r' ta tb tc σ H Q := q
theorem rd_eqDs {x y : V} {d : PyData} (h : Dp K H x d) (k : Dp K H y d) (s : SeqAt.shaped d = true) (q : Q (.bl true) H) : rEqD K x y H Q := ⟨d, d, h, k, s, s, by rw [SeqAt.eqv_refl d (SeqAt.canLay_of_shaped s)]; exact q⟩
theorem rd_neDs {x y : V} {d : PyData} (h : Dp K H x d) (k : Dp K H y d) (s : SeqAt.shaped d = true) (q : Q (.bl false) H) : rNeD K x y H Q := ⟨d, d, h, k, s, s, by rw [SeqAt.eqv_refl d (SeqAt.canLay_of_shaped s)]; exact q⟩
theorem rd_cat {l b : Addr} {xs zs : List V} (h : H l = some (.lst xs)) (k : H b = some (.lst zs)) (hz : xs.length + zs.length ≤ 1000) (q : ∀ p, H p = none → Q (.ref p) (upd H p (.lst (xs ++ zs)))) : rCat (.ref l) (.ref b) H Q :=
  ⟨l, b, xs, zs, rfl, rfl, h, k, Nat.le_of_lt (small1000 hz), q⟩
theorem rd_rep {l : Addr} {k : Int} {xs ys : List V} (h : H l = some (.lst xs)) (h0 : 0 ≤ k ∧ k ≤ 1000) (hz : xs.length * k.toNat ≤ 1000) (e : (List.replicate k.toNat xs).flatten = ys) (q : ∀ p, H p = none → Q (.ref p) (upd H p (.lst ys))) : rRep (.ref l) (.int k) H Q := by
  subst e
  exact ⟨l, k, xs, rfl, rfl, h, by omega, by omega, Nat.le_of_lt (small1000 hz), q⟩
theorem rd_append {T : String} {l : Addr} {xs : List V} (h : H l = some (.lst xs)) (q : tl σ H fun vs H1 => rAppend (.ref l) vs H1 Q) : (fun (x : V) (H1 : Hp) => tyV K "list" x H1 ∧ tl σ H1 fun vs H2 => rAppend x vs H2 Q) (.ref l) H := ⟨.inl ⟨rfl, _, SqL.of h⟩, q⟩
theorem rd_BM {T : String} {r : V → List V → Hp → VK → Prop} (q : te σ H fun x H1 => tyV K T x H1 ∧ tl σ H1 fun vs H2 => r x vs H2 Q) : tBM K T r te tl σ H Q := q
theorem rd_tyl {l : Addr} {xs : List V} {A : Prop} (h : H l = some (.lst xs)) (q : A) : tyV K "list" (.ref l) H ∧ A := ⟨.inl ⟨rfl, _, SqL.of h⟩, q⟩
theorem rd_app {l : Addr} {y : V} {xs : List V} (h : H l = some (.lst xs)) (hz : xs.length ≤ 1000) (q : Q .non (upd H l (.lst (xs ++ [y])))) : rAppend (.ref l) [y] H Q := ⟨l, xs, y, rfl, rfl, h, small1000 hz, q⟩
/-- what a comprehension's loop is to reach -/
def Lc (J : It) (g : TG) (tt : TT) (te : TE) (vs : List Nat) (σ : L2.St) (Qd : Hp → Prop) (H1 : Hp) (D : Addr) : Prop := ∃ W : Nat → Nat → Hp → Prop, (∃ m, W 0 m (upd H1 D (.lst []))) ∧ ∀ i m H, W i m H →
  (J.stop i H ∧ Qd H) ∨ (J.go i H ∧ ∃ Nx : Hp → Prop, (∀ H', Nx H' → ∃ m', m' < m ∧ W (i + 1) m' H') ∧ ∀ x H', J.yld i H x H' → g x (wipe σ vs) H' fun σ2 H2 => wipe σ2 vs = wipe σ vs ∧ tt σ2 H2 fun b H3 =>
    if b = true then te σ2 H3 fun y H4 => ∃ acc, H4 D = some (.lst acc) ∧ acc.length < sizeLine ∧ Nx (upd H4 D (.lst (acc ++ [y]))) else Nx H3)
theorem rd_lc {wi : TI} {g : TG} {vs : List Nat} (q : wi σ H fun J H1 => ∀ D, H1 D = none → Lc J g tt te vs σ (fun H' => Q (.ref D) H') H1 D) : tLc wi g tt te vs σ H Q := q
theorem rd_iTup {R : It → Hp → Prop} (q : te σ H fun x H1 => ∃ a, x = .ref a ∧ (∃ xs, SqT K H1 a xs) ∧ R (Itt K a) H1) : iTup K te σ H R := q
theorem rd_iTupA {a : Addr} {xs : List V} {R : Addr → Prop} (h : SqT K H a xs) (q : R a) : ∃ p, V.ref a = .ref p ∧ (∃ xs, SqT K H p xs) ∧ R p := ⟨a, rfl, ⟨xs, h⟩, q⟩
theorem rd_iLst {R : It → Hp → Prop} (q : te σ H fun x H1 => ∃ a, x = .ref a ∧ (∃ xs, SqL K H1 a xs) ∧ R (Itl K a) H1) : iList K te σ H R := q
theorem rd_iLstA {a : Addr} {xs : List V} {R : Addr → Prop} (h : SqL K H a xs) (q : R a) : ∃ p, V.ref a = .ref p ∧ (∃ xs, SqL K H p xs) ∧ R p := ⟨a, rfl, ⟨xs, h⟩, q⟩
theorem rd_iR1 {ta : TA} {R : It → Hp → Prop} (q : ta σ H fun vs H1 => ∃ j : Int, vs = [.int j] ∧ -(2 ^ 62) ≤ j ∧ j < 2 ^ 62 ∧ R (Itr 0 j.toNat) H1) : iRng1 ta σ H R := q
theorem upd_upd {D : Addr} {x y : HO} : upd (upd H D x) D y = upd H D y := by
  funext b
  unfold upd
  split <;> rfl
/-- [f(x) for x in t], t a tuple, f's heap as it was -/
theorem lc_mapT {a D : Addr} {xs : List V} (f : V → V) {i0 : Nat} {Qd : Hp → Prop} (hT : H a = some (.tup xs)) (hl : xs.length ≤ 1000) (hD : H D = none)
    (he : ∀ x, x ∈ xs → ∀ (l : List V) (R : VK), R (f x) (upd H D (.lst l)) → te ((σ.set i0 none).set i0 (some x)) (upd H D (.lst l)) R) (hd : Qd (upd H D (.lst (xs.map f)))) : Lc (Itt K a) (gName i0) tYes te [i0] σ Qd H D := by
  have ne : a ≠ D := ne_of_none hT hD
  refine lc_tup (xs := xs) (fun i J => i ≤ xs.length ∧ J = upd H D (.lst ((xs.take i).map f))) ⟨Nat.zero_le _, by rw [List.take_zero]; rfl⟩ (fun i J _ w => by
    rw [w.2]
    exact SqT.of (by rw [upd_ne ne]; exact hT)) (fun i x J hx w => ?_) fun J w => ?_
  · obtain ⟨hi, rfl⟩ := w
    have lt : i < xs.length := (List.getElem?_eq_some_iff.mp hx).1
    refine ⟨?_, ?_⟩
    · show ((σ.set i0 none).set i0 (some x)).set i0 none = σ.set i0 none
      rw [List.set_set, List.set_set]
    · show te _ _ _
      refine he x (List.mem_of_getElem? hx) _ _ ⟨_, upd_same, ?_, ?_, ?_⟩
      · rw [List.length_map, List.length_take]
        exact small1000 (by omega)
      · omega
      · rw [upd_upd]
        have e : (xs.take (i + 1)).map f = (xs.take i).map f ++ [f x] := by rw [List.take_add_one, hx, List.map_append]; rfl
        rw [e]
  · rw [List.take_length] at w
    rw [w.2]
    exact hd
/-- [f for _ in range(n)] -/
theorem lc_mapR {D : Addr} {n : Nat} (f : Nat → V) {i0 : Nat} {Qd : Hp → Prop} (hl : n ≤ 1000) (hD : H D = none)
    (he : ∀ i, i < n → ∀ (l : List V) (R : VK), R (f i) (upd H D (.lst l)) → te ((σ.set i0 none).set i0 (some (.int (0 + (i : Int))))) (upd H D (.lst l)) R) (hd : Qd (upd H D (.lst ((List.range n).map f)))) : Lc (Itr 0 n) (gName i0) tYes te [i0] σ Qd H D := by
  refine lc_range (fun i J => J = upd H D (.lst ((List.range i).map f))) rfl (fun i J hi w => ?_) fun J w => ?_
  · subst w
    refine ⟨?_, ?_⟩
    · show ((σ.set i0 none).set i0 _).set i0 none = σ.set i0 none
      rw [List.set_set, List.set_set]
    · show te _ _ _
      refine he i hi _ _ ⟨_, upd_same, ?_, ?_⟩
      · rw [List.length_map, List.length_range]
        exact small1000 (by omega)
      · rw [upd_upd, List.range_succ, List.map_append]
        rfl
  · subst w
    exact hd
theorem rd_all {a : Addr} {bs : List Bool} (h : SqL K H a (bs.map V.bl)) (q : Q (.bl (bs.all id)) H) : rAll K [.ref a] H Q := ⟨a, bs, rfl, h, q⟩
theorem rd_any {a : Addr} {bs : List Bool} (h : SqL K H a (bs.map V.bl)) (q : Q (.bl (bs.any id)) H) : rAny K [.ref a] H Q := ⟨a, bs, rfl, h, q⟩
theorem rd_gcd {i j : Int} (q : Q (.int ((Nat.gcd i.natAbs j.natAbs : Nat) : Int)) H) : rGcd [.int i, .int j] H Q := ⟨i, j, rfl, q⟩
theorem rd_seq (q : s1 { D with nx := s2 D } σ H) : tSeq s1 s2 D σ H := q
theorem rd_next (q : D.nx σ H) : tNext D σ H := q
theorem rd_ret (q : te σ H D.rt) : tRet te D σ H := q
theorem rd_drop (q : te σ H fun _ H1 => D.nx σ H1) : tDrop te D σ H := q
theorem rd_asg {g : TG} (q : te σ H fun x H1 => g x σ H1 D.nx) : tAsg te g D σ H := q
theorem rd_name {i : Nat} {F : L2.St → Hp → Prop} {τ : L2.St} (e : σ.set i (some v) = τ) (q : F τ H) : gName i v σ H F := by subst e; exact q
theorem rd_sub {to ti : TE} {t : TSet} {F : L2.St → Hp → Prop} (q : to σ H fun o H1 => ti σ H1 fun i H2 => t o i v H2 fun H3 => F σ H3) : gSub to ti t v σ H F := q
theorem rd_setL {p : Addr} {xs ys : List V} {k : Int} {j : Nat} {F : Hp → Prop} (h : H p = some (.lst xs)) (hj : ixN xs.length k = some j) (e : xs.set j v = ys) (q : F (upd H p (.lst ys))) : rSetL (.ref p) (.int k) v H F := by
  subst e
  exact ⟨p, xs, k, j, rfl, rfl, h, hj, q⟩
theorem rd_ifS (q : tt σ H fun b H1 => if b = true then s1 D σ H1 else s2 D σ H1) : tIfS tt s1 s2 D σ H := q
theorem rd_par {i j : Nat} {x y : V} {τ : L2.St} (e : (σ.set i (some x)).set j (some y) = τ) (q : D.nx τ H) : ∃ v w, [x, y] = [v, w] ∧ D.nx ((σ.set i (some v)).set j (some w)) H := by
  subst e
  exact ⟨x, y, rfl, q⟩
theorem rd_tpar {i j : Nat} (q : tl σ H fun vs H1 => ∃ v w, vs = [v, w] ∧ D.nx ((σ.set i (some v)).set j (some w)) H1) : tPar i j tl D σ H := q
theorem rd_if {P : Prop} [Decidable P] {A B : Prop} (h1 : P → A) (h2 : ¬ P → B) : if decide P = true then A else B := ite2 (fun c => h1 (of_decide_eq_true c)) fun c => h2 fun z => c (decide_eq_true z)
theorem rd_ifn {P : Prop} [Decidable P] {A B : Prop} (h1 : ¬ P → A) (h2 : P → B) : if (!decide P) = true then A else B :=
  ite2 (fun c => h1 (by simpa using c)) fun c => h2 (by simpa using c)
theorem rd_mulok {i j : Int} (h : (-(2 ^ 64) < i ∧ i < 2 ^ 64) ∨ (-(2 ^ 64) < j ∧ j < 2 ^ 64)) : IntMulOk i j := CMul.ok h
theorem rd_mulB {m n : Nat} {i j : Int} (h : Bd m i) (k : Bd n j) (h0 : 0 < m := by decide) (h1 : 0 < n := by decide) (hs : m + n ≤ 1000000 := by decide) : IntMulOk i j := (h.cmul k h0 h1 hs).ok
theorem rd_dvI {j : Int} (i : Int) (h : j ≠ 0) (k : j.natAbs < 2 ^ 400) : CDv i j := ⟨h, Nat.lt_of_lt_of_le k (Nat.pow_le_pow_right (by decide) (by decide))⟩
theorem rd_dvB {n : Nat} {j : Int} (i : Int) (h : j ≠ 0) (k : Bd n j) (hn : n ≤ 9000 := by decide) : CDv i j := ⟨h, k.mono hn⟩
end
section
variable {X : Cx}
theorem op_ml : OpR X (binaryOp .Mult) (rI IntMulOk fun i j => .int (i * j)) := opI fun _ _ _ _ _ _ _ hc q => mul_int q hc
end
structure Cal (P : Program) (w : World) (K : PySem.W.Frag) (mg : Str → Option Value) (base : Heap) (x : Str) (k : Nat) (f : Addr) (fd : FuncData) (ps : List Str) (sp : Sp) : Prop where
  g : FnG P w K mg base CX0 k f fd ps sp
  b : Binds K fd ps []
  kp : PySem.W.keepIn K (.ref f) = true
  m : mg x = some (.ref f)
theorem pe_c {X : Cx} {k : Nat} {f : Addr} {fd : FuncData} {ps : List Str} {sp : Sp} {x : Str} {e : Expr} {es : List Expr} {t : TA} {p pos : Pos} (C : Cal X.prog X.w X.K X.mg X.base x k f fd ps sp) (hg : X.A.guards = some []) (hr : Room k X.A) (gl : Gl X x)
    (ha : PA X (e :: es) t) (hdb : (x == ("__debug__" : Str)) = false := by decide) (he : starEach (e :: es) X.env = (false, eval e X.env) :: starEach es X.env := by rfl) (hpl : (backTo pos (starEach es X.env)).any (·.1) = false := by rfl) :
    PE X (.Call (.Name x p) (e :: es) [] pos) (tCall sp [] E0 t) := pe_g C.g hg hr gl C.m C.kp C.b .nil pass0 ha hdb he hpl
theorem room_u {k : Nat} {A : Around} (h : Room k A) : A.units + 64 < cLine := h.units
section
variable {X : Cx} {K : PySem.W.Frag}
theorem ixK (h : X.K = K) : IxR X (rIx K) := h ▸ ix_seq
theorem lenK (h : X.K = K) : CallR X (.builtin "len") (rLen K) := h ▸ call_len_seq
theorem isiK (h : X.K = K) : CallR X (.builtin "isinstance") (rIsi K) := h ▸ call_isi
theorem reprK (h : X.K = K) (hg : X.A.guards = some []) (hu : X.A.units + 64 < cLine) : CallR X (.builtin "repr") (rRepr K) := h ▸ cr_repr hg hu
theorem allK (h : X.K = K) (hc : X.calm = true) : CallR X (.builtin "all") (rAll K) := h ▸ cr_all hc
theorem anyK (h : X.K = K) (hc : X.calm = true) : CallR X (.builtin "any") (rAny K) := h ▸ cr_any hc
theorem sumK (h : X.K = K) (hc : X.calm = true) : CallR X (.builtin "sum") (rSum K) := h ▸ cr_sum hc
theorem eqK (h : X.K = K) (hu : X.A.units + 64 < cLine) : OpR X (compareOp .Eq) (rEqD K) := h ▸ op_eqD hu
theorem neK (h : X.K = K) (hu : X.A.units + 64 < cLine) : OpR X (compareOp .NotEq) (rNeD K) := h ▸ op_neD hu
theorem inK (h : X.K = K) : OpR X (compareOp .In) (rIn K false) := h ▸ op_in_seq
theorem niK (h : X.K = K) : OpR X (compareOp .NotIn) (rIn K true) := h ▸ op_notIn_seq
theorem slK (h : X.K = K) : SlR X (rSlL K) := h ▸ sl_list
theorem piL (h : X.K = K) {tg l : Expr} {tl : TE} (hl : PE X l tl) : PI X tg l (iList K tl) := h ▸ pi_list hl
theorem piT (h : X.K = K) {tg l : Expr} {tl : TE} (hl : PE X l tl) : PI X tg l (iTup K tl) := h ▸ pi_tup hl
end
/-! ### what stays -/
/-- all but what stands at b stays as it is -/
def Kp (b : Addr) (H J : Hp) : Prop := ∀ a o, a ≠ b → H a = some o → J a = some o
def Bag (b : Addr) (H : Hp) : Prop := ∃ x y : Int, H b = some (.lst [.int x, .int y])
def Scr (K : PySem.W.Frag) (H : Hp) (a : Addr) (xs : List V) : Prop := (∃ o, H a = some (.frz o (.lst xs))) ∨ SqL K (fun _ => none) a xs
section
variable {K : PySem.W.Frag} {H J M : Hp} {a b p : Addr} {xs ys : List V} {o : HO}
theorem Kp.refl : Kp b H H := fun _ _ _ e => e
theorem Kp.trans (h : Kp b H J) (k : Kp b J M) : Kp b H M := fun a o n e => k a o n (h a o n e)
theorem Kp.new (h : H p = none) : Kp b H (upd H p o) := fun a u _ e => by rw [upd_ne (ne_of_none e h)]; exact e
theorem Kp.at : Kp b H (upd H b o) := fun a u n e => by rw [upd_ne n]; exact e
theorem Kp.tup (h : Kp b H J) (g : Bag b H) (e : H a = some (.tup xs)) : J a = some (.tup xs) := h a _ (fun z => by
  obtain ⟨x, y, q⟩ := g
  subst z
  cases e.symm.trans q) e
theorem Kp.lst (h : Kp b H J) (n : a ≠ b) (e : H a = some (.lst xs)) : J a = some (.lst xs) := h a _ n e
theorem Bag.new (g : Bag b H) (h : H p = none) : Bag b (upd H p o) := by
  obtain ⟨x, y, q⟩ := g
  exact ⟨x, y, by rw [upd_ne (ne_of_none q h)]; exact q⟩
theorem Bag.ne (g : Bag b H) (h : H p = none) : p ≠ b := fun z => by
  obtain ⟨x, y, q⟩ := g
  subst z
  cases h.symm.trans q
theorem Bag.off (h : H p = none) (g : Bag b H) : p ≠ b := g.ne h
theorem Kp.free (k : Kp b H J) (g : Bag b J) (h : J p = none) : H p = none := by
  cases e : H p with
  | none => rfl
  | some o => cases h.symm.trans (k p o (g.ne h) e)
theorem set_tup (h : H p = some (.lst ys)) (e : H a = some (.tup xs)) : upd H p o a = some (.tup xs) := by
  rw [upd_ne (fun z => by subst z; cases h.symm.trans e)]
  exact e
theorem set_lst (n : a ≠ p) (e : H a = some (.lst xs)) : upd H p o a = some (.lst xs) := by rw [upd_ne n]; exact e
theorem Bag.put (n : p ≠ b) (g : Bag b H) : Bag b (upd H p o) := by
  obtain ⟨x, y, q⟩ := g
  exact ⟨x, y, by rw [upd_ne (fun z => n z.symm)]; exact q⟩
theorem new_tup (h : H p = none) (e : H a = some (.tup xs)) : upd H p o a = some (.tup xs) := by rw [upd_ne (ne_of_none e h)]; exact e
theorem new_any {u : HO} (h : H p = none) (e : H a = some u) : upd H p o a = some u := by rw [upd_ne (ne_of_none e h)]; exact e
theorem Scr.sq (h : Scr K H a xs) : SqL K H a xs := by
  rcases h with ⟨o, e⟩ | (e | e)
  · exact .inl (.inr ⟨o, e⟩)
  · rcases e with e | ⟨_, e⟩ <;> cases e
  · exact .inr e
theorem Scr.kp (h : Kp b H J) (g : Bag b H) (e : Scr K H a xs) : Scr K J a xs := by
  rcases e with ⟨o, e⟩ | e
  · refine .inl ⟨o, h a _ (fun z => ?_) e⟩
    obtain ⟨x, y, q⟩ := g
    subst z
    cases e.symm.trans q
  · exact .inr e
theorem Scr.new (h : H p = none) (e : Scr K H a xs) : Scr K (upd H p o) a xs := by
  rcases e with ⟨u, e⟩ | e
  · exact .inl ⟨u, new_any h e⟩
  · exact .inr e
theorem Scr.of (o : Only H) (h : SqL K H a xs) : Scr K H a xs := by
  rcases h with (e | e) | e
  · rcases o a with z | ⟨_, _, z⟩
    · cases e.symm.trans z
    · cases e.symm.trans z
  · exact .inl e
  · exact .inr (.inr e)
theorem same_any {u : HO} (h : Same H J) (e : H a = some u) : J a = some u := h a u e
theorem Bag.same (h : Same H J) (g : Bag b H) : Bag b J := by
  obtain ⟨x, y, q⟩ := g
  exact ⟨x, y, h _ _ q⟩
theorem Scr.same (h : Same H J) (e : Scr K H a xs) : Scr K J a xs := by
  rcases e with ⟨o, e⟩ | e
  · exact .inl ⟨o, h _ _ e⟩
  · exact .inr e
theorem rd_pick {K : PySem.W.Frag} {Q : VK} {r : Int} (h : H p = some (.lst xs)) (h0 : 0 ≤ r) (h1 : r < xs.length) (q : ∀ v, v ∈ xs → Q v H) : rIx K (.ref p) (.int r) H Q := by
  have l1 : r.toNat < xs.length := by omega
  have e : r = ((r.toNat : Nat) : Int) := by omega
  have z := atI_nat (xs := xs) (List.getElem?_eq_getElem l1)
  rw [← e] at z
  exact rd_sxL (SqL.of h) z (q _ (List.getElem_mem l1))
/-- a new object is not the bag -/
theorem Bag.nw (np : H p = none) (g : Bag b H) : p ≠ b := g.ne np
theorem same_new (h : H p = none) : Same H (upd H p o) := fun a u e => by rw [upd_ne (ne_of_none e h)]; exact e
/-- the list at l has been changed, all else is as it was -/
def Pu (l : Addr) (H J : Hp) : Prop := Kp l H J ∧ (∃ ys, H l = some (.lst ys)) ∧ ∃ zs, J l = some (.lst zs)
theorem Pu.tup {l : Addr} (k : Pu l H J) (e : H a = some (.tup xs)) : J a = some (.tup xs) := k.1 a _ (fun z => by
  obtain ⟨ys, q⟩ := k.2.1
  subst z
  cases e.symm.trans q) e
theorem Pu.lst {l : Addr} (k : Pu l H J) (n : a ≠ l) (e : H a = some (.lst xs)) : J a = some (.lst xs) := k.1 a _ n e
theorem Pu.bag {l : Addr} (k : Pu l H J) (n : l ≠ b) (g : Bag b H) : Bag b J := by
  obtain ⟨x, y, q⟩ := g
  exact ⟨x, y, k.1 b _ (fun z => n z.symm) q⟩
theorem Pu.scr {K : PySem.W.Frag} {l : Addr} (k : Pu l H J) (e : Scr K H a xs) : Scr K J a xs := by
  rcases e with ⟨o, e⟩ | e
  · refine .inl ⟨o, k.1 a _ (fun z => ?_) e⟩
    obtain ⟨ys, q⟩ := k.2.1
    subst z
    cases e.symm.trans q
  · exact .inr e
theorem rd_appK {Q : VK} {l : Addr} {y : V} (h : H l = some (.lst xs)) (hz : xs.length ≤ 1000) (q : ∀ J, Pu l H J → J l = some (.lst (xs ++ [y])) → Q .non J) : rAppend (.ref l) [y] H Q :=
  ⟨l, xs, y, rfl, rfl, h, small1000 hz, q _ ⟨Kp.at, ⟨_, h⟩, ⟨_, upd_same⟩⟩ upd_same⟩
theorem rd_catK {Q : VK} {l m : Addr} {zs : List V} (h : H l = some (.lst xs)) (k : H m = some (.lst zs)) (hz : xs.length + zs.length ≤ 1000) (q : ∀ p J, H p = none → Same H J → J p = some (.lst (xs ++ zs)) → Q (.ref p) J) : rCat (.ref l) (.ref m) H Q :=
  ⟨l, m, xs, zs, rfl, rfl, h, k, Nat.le_of_lt (small1000 hz), fun p np => q p _ np (same_new np) upd_same⟩
theorem rd_repK {Q : VK} {l : Addr} {k : Int} (h : H l = some (.lst xs)) (h0 : 0 ≤ k ∧ k ≤ 1000) (hz : xs.length * k.toNat ≤ 1000) (e : (List.replicate k.toNat xs).flatten = ys) (q : ∀ p J, H p = none → Same H J → J p = some (.lst ys) → Q (.ref p) J) : rRep (.ref l) (.int k) H Q := by
  subst e
  exact ⟨l, k, xs, rfl, rfl, h, by omega, by omega, Nat.le_of_lt (small1000 hz), fun p np => q p _ np (same_new np) upd_same⟩
theorem Kp.of (h : Same H J) : Kp b H J := fun a o _ e => h a o e
theorem pick {r : Int} (h0 : 0 ≤ r) (h : r < xs.length) : ∃ v, atI xs r = some v ∧ v ∈ xs := by
  have h1 : r.toNat < xs.length := by omega
  have e : r = ((r.toNat : Nat) : Int) := by omega
  have q := atI_nat (xs := xs) (List.getElem?_eq_getElem h1)
  rw [← e] at q
  exact ⟨xs[r.toNat], q, List.getElem_mem h1⟩
theorem pick_int {ns : List Int} {r : Int} (h0 : 0 ≤ r) (h : r < ns.length) : ∃ n, atI (ns.map V.int) r = some (.int n) ∧ n ∈ ns := by
  have h1 : r.toNat < ns.length := by omega
  have e : r = ((r.toNat : Nat) : Int) := by omega
  have q : atI (ns.map V.int) ((r.toNat : Nat) : Int) = some (.int ns[r.toNat]) := atI_nat (by rw [List.getElem?_map, List.getElem?_eq_getElem h1]; rfl)
  rw [← e] at q
  exact ⟨ns[r.toNat], q, List.getElem_mem h1⟩
def msr : L2.St → Nat
  | [_, some (.int y)] => y.natAbs
  | _ => 0
end
/-! ### greatest common divisors, lowest terms -/
theorem gcd_turn {x y : Int} : Int.gcd y (x.fmod y) = Int.gcd x y := by
  rw [Int.fmod_def, Int.gcd_sub_mul_left_right, Int.gcd_comm]
theorem fmod_abs {x y : Int} (h : y ≠ 0) : (x.fmod y).natAbs < y.natAbs := by
  rcases Int.lt_or_gt_of_ne h with h1 | h1
  · have := fmod_rng (x := -x) (n := -y) (by omega)
    rw [Int.neg_fmod_neg] at this
    omega
  · have := fmod_rng (x := x) h1
    omega
theorem natAbs_fdiv_le (u : Int) {v : Int} (h : 0 < v) : (u.fdiv v).natAbs ≤ u.natAbs := by
  rw [Int.fdiv_eq_ediv_of_nonneg u (by omega)]
  exact Int.natAbs_ediv_le_natAbs u v
theorem dvd_gcd1 {x y v : Int} (g : Int.gcd x y = 1) (h : y ∣ x * v) : y ∣ v := by
  have h1 : y.natAbs ∣ x.natAbs * v.natAbs := by rw [← Int.natAbs_mul]; exact Int.natAbs_dvd_natAbs.mpr h
  have g1 : Nat.Coprime y.natAbs x.natAbs := by rw [Nat.coprime_comm]; exact g
  exact Int.natAbs_dvd_natAbs.mp (g1.dvd_of_dvd_mul_left h1)
/-- a ratio in lowest terms is one alone -/
theorem low_one {x y u v : Int} (hy : 0 < y) (hv : 0 < v) (g : Int.gcd x y = 1) (k : Int.gcd u v = 1) (e : x * v = u * y) : x = u ∧ y = v := by
  have d1 : y ∣ v := dvd_gcd1 g ⟨u, by rw [e, Int.mul_comm]⟩
  have d2 : v ∣ y := dvd_gcd1 k ⟨x, by rw [← e, Int.mul_comm]⟩
  have e2 : y = v := Int.dvd_antisymm (by omega) (by omega) d1 d2
  subst e2
  exact ⟨Int.eq_of_mul_eq_mul_right (by omega) e, rfl⟩
def IsLow (t u x y : Int) : Prop := 0 < y ∧ Int.gcd x y = 1 ∧ x * u = t * y ∧ x.natAbs ≤ t.natAbs ∧ y.natAbs ≤ u.natAbs
theorem low_uniq {t u x y t' u' x' y' : Int} (h : IsLow t u x y) (k : IsLow t' u' x' y') (hu : u ≠ 0) (hv : u' ≠ 0) (e : t * u' = t' * u) : x = x' ∧ y = y' := by
  obtain ⟨y0, g, e1, _, _⟩ := h
  obtain ⟨v0, g', e2, _, _⟩ := k
  refine low_one y0 v0 g g' (Int.eq_of_mul_eq_mul_right (Int.mul_ne_zero hu hv) ?_)
  grind
theorem low_self {x y : Int} (y0 : 0 < y) (g : Int.gcd x y = 1) : IsLow x y x y := ⟨y0, g, rfl, Nat.le_refl _, Nat.le_refl _⟩
theorem low_at {t u s : Int} (h : u ≠ 0) (es : s = if u < 0 then -((Int.gcd t u : Nat) : Int) else ((Int.gcd t u : Nat) : Int)) : IsLow t u (t.fdiv s) (u.fdiv s) ∧ s ≠ 0 ∧ s.natAbs ≤ u.natAbs := by
  have g0 : 0 < Int.gcd t u := Int.gcd_pos_of_ne_zero_right t h
  have gu : (Int.gcd t u) ≤ u.natAbs := Int.gcd_le_natAbs_right t (by omega)
  have ns : s.natAbs = Int.gcd t u := by rw [es]; split <;> omega
  have s0 : s ≠ 0 := by omega
  have du : s ∣ u := by rw [← Int.natAbs_dvd, ns]; exact Int.gcd_dvd_right t u
  have dt : s ∣ t := by rw [← Int.natAbs_dvd, ns]; exact Int.gcd_dvd_left t u
  have eu := Int.fdiv_mul_cancel du
  have et := Int.fdiv_mul_cancel dt
  generalize u.fdiv s = y at *
  generalize t.fdiv s = x at *
  refine ⟨⟨?_, ?_, ?_, ?_, ?_⟩, s0, by omega⟩
  · rcases Int.lt_or_gt_of_ne h with n | n
    · have sn : s < 0 := by rw [es, if_pos n]; omega
      by_cases z : 0 < y
      · exact z
      · have z : y ≤ 0 := by omega
        have := Int.mul_nonneg_of_nonpos_of_nonpos z (show s ≤ 0 by omega)
        omega
    · have sp : 0 < s := by rw [es, if_neg (by omega)]; omega
      by_cases z : 0 < y
      · exact z
      · have z : y ≤ 0 := by omega
        have := Int.mul_nonpos_of_nonpos_of_nonneg z (show 0 ≤ s by omega)
        omega
  · have q : Int.gcd t u = s.natAbs * Int.gcd x y := by rw [← et, ← eu, Int.mul_comm x s, Int.mul_comm y s, Int.gcd_mul_left]
    rw [ns] at q
    exact Nat.eq_of_mul_eq_mul_left g0 (by omega)
  · rw [← eu, ← et, Int.mul_assoc, Int.mul_comm s y]
  · rw [← et, Int.natAbs_mul]
    exact Nat.le_mul_of_pos_right _ (by omega)
  · rw [← eu, Int.natAbs_mul]
    exact Nat.le_mul_of_pos_right _ (by omega)
end Ob
namespace Ob
open PySem PySem.Spec PyProof.Rows L2
def top (i : Nat) : Stmt := PySem.Challenge.pw_onecut_k01_ratios_known.main.body.getD i (.Pass ⟨0, 0, 0, 0⟩)
local macro_rules | `(tactic| walk_at "hp") => `(tactic| (first
  | assumption
  | exact L2.upd_same
  | ((with_reducible refine SqT.of ?h); (case h => walk_at "hp"))
  | ((with_reducible refine SqL.of ?h); (case h => walk_at "hp"))
  | ((with_reducible refine Scr.sq ?h); (case h => walk_at "hp"))
  | ((with_reducible refine Bag.new ?h ?k); (case h => walk_at "hp"); (case k => assumption))
  | ((with_reducible refine Scr.new ?k ?h); (case k => assumption); (case h => walk_at "hp"))
  | ((with_reducible refine Scr.kp (b := ?bb) (H := ?hh) ?k ?g ?h); (case k => assumption); (case g => walk_at "hp"); (case h => walk_at "hp"))
  | ((with_reducible refine Bag.same (H := ?hh) ?k ?h); (case k => assumption); (case h => walk_at "hp"))
  | ((with_reducible refine Scr.same (H := ?hh) ?k ?h); (case k => assumption); (case h => walk_at "hp"))
  | ((with_reducible refine same_any (H := ?hh) ?k ?h); (case k => assumption); (case h => walk_at "hp"))
  | ((with_reducible refine new_any ?k ?h); (case k => assumption); (case h => walk_at "hp"))
  | ((with_reducible refine set_tup (ys := ?ys) ?k ?h); (case k => assumption); (case h => walk_at "hp"))
  | ((with_reducible refine Bag.put ?k ?h); (case k => assumption); (case h => walk_at "hp"))
  | ((with_reducible refine Kp.tup (b := ?bb) (H := ?hh) ?k ?g ?h); (case k => assumption); (case g => walk_at "hp"); (case h => walk_at "hp"))
  | ((with_reducible refine Kp.lst (b := ?bb) (H := ?hh) ?k ?g ?h); (case k => assumption); (case g => walk_at "hp"); (case h => walk_at "hp"))
  | ((with_reducible refine Bag.off (H := ?hh) ?h ?g); (case h => assumption); (case g => walk_at "hp"))
  | (with_reducible exact Kp.refl)
  | (with_reducible exact Kp.new (by assumption))))
local macro_rules | `(tactic| walk_at "dp") => `(tactic| (first
  | exact Dp.int _
  | exact Dp.bl _
  | exact Dp.non
  | exact Dp.str _
  | exact DpAll.nil
  | ((refine DpAll.cons (d := ?d) (ds := ?ds) ?h ?k); (case h => walk_at "dp"); (case k => walk_at "dp"))
  | ((refine Dp.lst (xs := ?xs) (ds := ?ds) ?h ?k); (case h => walk_at "hp"); (case k => walk_at "dp"))
  | ((refine Dp.tup (xs := ?xs) (ds := ?ds) ?h ?k); (case h => walk_at "hp"); (case k => walk_at "dp"))))
local macro_rules | `(tactic| walk_at "small") => `(tactic| first | decide +kernel | (simp only [sm, sms, sz, szs, Bool.and_true, Bool.and_eq_true, decide_eq_true_eq, and_true, true_and]; (first | done | omega | (repeat' constructor) <;> first | omega | decide +kernel)))
local macro_rules | `(tactic| walk_at "side") => `(tactic| (first
  | ((with_reducible show IntMulOk _ _); first | exact rd_mulB (by assumption) (by assumption) | (refine rd_mulok ?_; omega))
  | ((with_reducible show CDv _ _); exact rd_dvB _ (Int.ne_of_gt (by assumption)) (by assumption))
  | ((with_reducible show CDv _ _); refine rd_dvI _ ?_ ?_ <;> first | assumption | omega | decide)
  | ((with_reducible show CPow _ _); exact ⟨by decide, by decide, by first | decide | omega⟩)
  | omega
  | assumption
  | decide
  | (refine rd_mulB (m := 400) (n := 400) (Bd.lit ?_) (Bd.lit ?_) <;> decide +kernel)))
local macro_rules | `(tactic| walk_at "rd1") => `(tactic| (first
  | ((with_reducible refine rd_var (v := ?v) ?h ?_); (case h => exact rfl))
  | (with_reducible refine rd_c ?_)
  | (with_reducible refine rd_op ?_)
  | (with_reducible refine rd_cons ?_)
  | (with_reducible refine rd_nil ?_)
  | ((with_reducible refine rd_sxT (xs := ?xs) (v := ?v) ?h ?a ?_); (case h => walk_at "hp"); (case a => exact rfl))
  | ((with_reducible refine rd_sxL (xs := ?xs) (v := ?v) ?h ?a ?_); (case h => walk_at "hp"); (case a => exact rfl))
  | (with_reducible refine rd_I0 ?_)
  | ((with_reducible refine rd_I ?c ?_); (case c => walk_at "side"))
  | ((with_reducible refine rd_name (τ := ?t) ?e ?_); (case e => exact rfl))
  | (with_reducible refine rd_seq ?_)
  | (with_reducible refine rd_asg ?_)
  | (with_reducible refine rd_call ?_)
  | (with_reducible refine rd_CB ?_)
  | (with_reducible refine rd_tup ?_)
  | ((with_reducible refine rd_new ?h ?_); (case h => exact rfl))
  | (with_reducible refine rd_test ?_)
  | (with_reducible refine rd_bl ?_)
  | (with_reducible refine rd_U ?_)
  | (with_reducible refine rd_un ?_)
  | (with_reducible refine rd_neI ?_)
  | (with_reducible refine rd_eqI ?_)
  | (with_reducible refine rd_tpar ?_)
  | (with_reducible refine rd_lc ?_)
  | (with_reducible refine rd_iTup ?_)
  | (with_reducible refine rd_iLst ?_)
  | (with_reducible refine rd_iR1 ?_)
  | (with_reducible refine rd_BM ?_)
  | ((with_reducible refine rd_iTupA (xs := ?xs) ?h ?_); (case h => walk_at "hp"))
  | ((with_reducible refine rd_iLstA (xs := ?xs) ?h ?_); (case h => walk_at "hp"))
  | ((with_reducible refine rd_tyl (xs := ?xs) ?h ?_); (case h => walk_at "hp"))
  | ((with_reducible refine rd_app (xs := ?xs) ?h ?a ?_); (case h => walk_at "hp"); (case a => exact Nat.le_of_ble_eq_true rfl))
  | ((with_reducible refine rd_cat (xs := ?xs) (zs := ?zs) ?h ?k ?a ?_); (case h => walk_at "hp"); (case k => walk_at "hp"); (case a => exact Nat.le_of_ble_eq_true rfl))
  | ((with_reducible refine rd_rep (xs := ?xs) (ys := ?ys) ?h ?a ?b ?c ?_); (case h => walk_at "hp"); (case a => decide); (case b => exact Nat.le_of_ble_eq_true rfl); (case c => exact rfl))
  | (with_reducible refine rd_ret ?_)
  | (with_reducible refine rd_next ?_)
  | (with_reducible refine rd_drop ?_)
  | (with_reducible refine rd_ifS ?_)
  | (with_reducible refine rd_B ?_)
  | (with_reducible refine rd_not ?_)
  | (with_reducible refine rd_and ?_)
  | (with_reducible refine rd_or ?_)
  | (with_reducible refine rd_andV ?_)
  | (with_reducible refine rd_orV ?_)
  | (with_reducible refine rd_notV ?_)
  | (with_reducible refine rd_ifE ?_)
  | (with_reducible refine rd_lst ?_)
  | ((with_reducible refine rd_for1b ?h ?_); (case h => constructor <;> (repeat' split) <;> omega))
  | (with_reducible refine rd_one ?_)
  | (with_reducible refine rd_two ?_)
  | (with_reducible refine rd_int ?_)
  | (with_reducible refine rd_intB ?_)
  | (with_reducible refine rd_gcd ?_)
  | ((with_reducible refine rd_par (τ := ?t) ?e ?_); (case e => exact rfl))
  | (with_reducible refine rd_sub ?_)
  | (with_reducible refine rd_for1 ?_)
  | ((with_reducible refine rd_len (ys := ?ys) ?h ?_); (case h => walk_at "hp"))
  | ((with_reducible refine rd_lenTu (ys := ?ys) ?h ?_); (case h => walk_at "hp"))
  | ((with_reducible refine rd_repr (d := ?d) ?h ?a ?b ?c ?_); (case h => walk_at "dp"); (case a => walk_at "small"); (case b => walk_at "small"); (case c => simp only [PyData.depth, PyData.depthAll]; omega))
  | ((with_reducible refine rd_nsame ?h ?_); (case h => exact rfl))
  | ((with_reducible refine rd_same ?h ?_); (case h => exact rfl))
  | ((with_reducible refine rd_gtup (xs := ?xs) ?h ?a ?_); (case h => walk_at "hp"); (case a => exact rfl))
  | (with_reducible refine rd_gcons ?_)
  | (with_reducible refine rd_gnil ?_)
  | ((with_reducible refine rd_isiI (b := true) ?a ?_); (case a => decide +kernel))
  | ((with_reducible refine rd_isiI (b := false) ?a ?_); (case a => decide +kernel))
  | ((with_reducible refine rd_isiB (b := true) ?a ?_); (case a => decide +kernel))
  | ((with_reducible refine rd_isiB (b := false) ?a ?_); (case a => decide +kernel))
  | ((with_reducible refine rd_isiN (b := true) ?a ?_); (case a => decide +kernel))
  | ((with_reducible refine rd_isiN (b := false) ?a ?_); (case a => decide +kernel))
  | ((with_reducible refine rd_isiS (b := true) ?a ?_); (case a => decide +kernel))
  | ((with_reducible refine rd_isiS (b := false) ?a ?_); (case a => decide +kernel))
  | ((with_reducible refine rd_isiT (b := true) (xs := ?xs) ?h ?a ?_); (case a => decide +kernel); (case h => walk_at "hp"))
  | ((with_reducible refine rd_isiT (b := false) (xs := ?xs) ?h ?a ?_); (case a => decide +kernel); (case h => walk_at "hp"))
  | ((with_reducible refine rd_isiL (b := true) (xs := ?xs) ?h ?a ?_); (case a => decide +kernel); (case h => walk_at "hp"))
  | ((with_reducible refine rd_isiL (b := false) (xs := ?xs) ?h ?a ?_); (case a => decide +kernel); (case h => walk_at "hp"))
  | ((with_reducible refine rd_isi (t := ?t) (b := true) ?h ?a ?_); (case h => assumption); (case a => decide +kernel))
  | ((with_reducible refine rd_isi (t := ?t) (b := false) ?h ?a ?_); (case h => assumption); (case a => decide +kernel))
  | (with_reducible refine rd_chain ?_)
  | ((with_reducible refine rd_eqDs (d := ?d) ?h ?k ?s ?_); (case h => walk_at "dp"); (case k => walk_at "dp"); (case s => first | rfl | decide | simp [SeqAt.shaped]))
  | ((with_reducible refine rd_neDs (d := ?d) ?h ?k ?s ?_); (case h => walk_at "dp"); (case k => walk_at "dp"); (case s => first | rfl | decide | simp [SeqAt.shaped]))
  | ((with_reducible refine rd_setL (xs := ?xs) (ys := ?ys) (j := ?j) ?h ?a ?e ?_); (case h => walk_at "hp"); (case a => exact rfl); (case e => exact rfl))))
local macro_rules | `(tactic| walk_at "rdm1") => `(tactic| (first
  | ((with_reducible refine rd_md ?c ?_); (case c => first | omega | decide); intro r r0 r1)
  | walk_at "rd1"))
local macro_rules | `(tactic| walk_at "rdm") => `(tactic| (repeat walk_at "rdm1"))
local macro_rules | `(tactic| walk_at "rd") => `(tactic| (repeat walk_at "rd1"))

/-! ### is_int, is_ratio -/
def IsTy (K : PySem.W.Frag) (H : Hp) (v : V) (t : String) : Prop := TyX K H v (.type t) ∧ (t = "NoneType" ∨ t = "bool" ∨ t = "int" ∨ t = "str" ∨ t = "list" ∨ t = "tuple")
def sp_is_int (K : PySem.W.Frag) : Sp := fun vs H Q _ => ∃ v t, vs = [v] ∧ IsTy K H v t ∧ Q (.bl (decide (t = "int"))) H
theorem ar_is_int (K : PySem.W.Frag) : ∀ vs H Q E, sp_is_int K vs H Q E → vs.length = 1 := by
  intro vs H Q E h
  obtain ⟨v, t, rfl, _⟩ := h
  rfl
abbrev S_is_int : Stmt := top 2
abbrev N_is_int : List Str := ["thing"]
theorem sc_is_int : FnScope N_is_int ["thing"] (defScope S_is_int) := ⟨rfl, rfl, rfl, by decide +kernel, rfl, by decide +kernel, by decide +kernel⟩
theorem ok_is_int {P : Program} {w : World} {K : PySem.W.Frag} {mg : Str → Option Value} {base : Heap} {f : Addr} {fd : FuncData} (F : Fun K "is_int" "is_int" S_is_int f fd) (m_isinstance : mg "isinstance" = none) (m_bool : mg "bool" = none) (m_int : mg "int" = none) :
    FnG P w K mg base CX0 1 f fd ["thing"] (sp_is_int K) := by
  refine Fun_okG F sc_is_int (ar_is_int K) (fun cdv A outer s H vs Q E hg hr h => ?_)
  obtain ⟨v, t, rfl, ⟨ty, ht⟩, q⟩ := h
  refine ⟨_, (pss_one (ps_ret (pe_and (pe_callB (id := "isinstance") (isiK (K := K) rfl) (by rfl) m_isinstance (by decide +kernel) (pa_cons (pv 0) (pa_cons (pe_bltn (v := V.ty "int") (u := Value.type "int") (by rfl) m_int (by decide +kernel) rfl) pa_nil))) (pe_one (pe_not (pe_callB (id := "isinstance") (isiK (K := K) rfl) (by rfl) m_isinstance (by decide +kernel) (pa_cons (pv 0) (pa_cons (pe_bltn (v := V.ty "bool") (u := Value.type "bool") (by rfl) m_bool (by decide +kernel) rfl) pa_nil)))))))), ?_⟩
  rcases ht with rfl | rfl | rfl | rfl | rfl | rfl
  · walk_at "rd"
    refine iteF ?_
    exact q
  · walk_at "rd"
    refine iteT ?_
    walk_at "rd"
    exact q
  · walk_at "rd"
    refine iteT ?_
    walk_at "rd"
    exact q
  · walk_at "rd"
    refine iteF ?_
    exact q
  · walk_at "rd"
    refine iteF ?_
    exact q
  · walk_at "rd"
    refine iteF ?_
    exact q
inductive RatIs (K : PySem.W.Frag) (H : Hp) : V → Bool → Prop
  | yes {a : Addr} {x y : Int} (h : H a = some (.tup [.int x, .int y])) : RatIs K H (.ref a) (decide (0 < y) && decide (Int.gcd x y = 1))
  | len {a : Addr} {xs : List V} (h : H a = some (.tup xs)) (n : xs.length ≠ 2) : RatIs K H (.ref a) false
  | one {a : Addr} {u w : V} {t : String} (h : H a = some (.tup [u, w])) (ty : IsTy K H u t) (n : t ≠ "int") : RatIs K H (.ref a) false
  | two {a : Addr} {u w : V} {t : String} (h : H a = some (.tup [u, w])) (ty : IsTy K H u "int") (tw : IsTy K H w t) (n : t ≠ "int") : RatIs K H (.ref a) false
  | off {v : V} {t : String} (ty : IsTy K H v t) (n : t ≠ "tuple") : RatIs K H v false
def sp_is_ratio (K : PySem.W.Frag) : Sp := fun vs H Q _ => ∃ v b, vs = [v] ∧ RatIs K H v b ∧ Q (.bl b) H
theorem ar_is_ratio (K : PySem.W.Frag) : ∀ vs H Q E, sp_is_ratio K vs H Q E → vs.length = 1 := by
  intro vs H Q E h
  obtain ⟨v, b, rfl, _⟩ := h
  rfl
abbrev S_is_ratio : Stmt := top 3
abbrev N_is_ratio : List Str := ["thing", "top", "under"]
theorem sc_is_ratio : FnScope N_is_ratio ["thing"] (defScope S_is_ratio) := ⟨rfl, rfl, rfl, by decide +kernel, rfl, by decide +kernel, by decide +kernel⟩
theorem ok_is_ratio {P : Program} {w : World} {K : PySem.W.Frag} {mg : Str → Option Value} {base : Heap} {f : Addr} {fd : FuncData} (F : Fun K "is_ratio" "is_ratio" S_is_ratio f fd) {f_is_int : Addr} {fd_is_int : FuncData} (C_is_int : Cal P w K mg base "is_int" 1 f_is_int fd_is_int ["thing"] (sp_is_int K)) (c_gcd : mg "gcd" = some (.builtin "math.gcd")) (m_len : mg "len" = none) (m_isinstance : mg "isinstance" = none) (m_tuple : mg "tuple" = none) :
    FnG P w K mg base CX0 2 f fd ["thing"] (sp_is_ratio K) := by
  refine Fun_okG F sc_is_ratio (ar_is_ratio K) (fun cdv A outer s H vs Q E hg hr h => ?_)
  obtain ⟨v, b, rfl, hb, q⟩ := h
  refine ⟨_, (pss_cons (ps_if (pt_not (PW.pt (pw_and (pt_val (pe_callB (id := "isinstance") (isiK (K := K) rfl) (by rfl) m_isinstance (by decide +kernel) (pa_cons (pv 0) (pa_cons (pe_bltn (v := V.ty "tuple") (u := Value.type "tuple") (by rfl) m_tuple (by decide +kernel) rfl) pa_nil)))) (pw_and1 (pt_cmpR op_eq (pe_callB (id := "len") (lenK (K := K) rfl) (by rfl) m_len (by decide +kernel) (pa_cons (pv 0) pa_nil)) pe_int (nomark _)))))) (pss_one (ps_ret pe_bl)) pss_nil)
    (pss_cons (ps_asg (pv 0) (pg_tup rfl (pgs_cons (pg_name (i := 1) sc_is_ratio.nd rfl (Or.inl rfl)) (pgs_cons (pg_name (i := 2) sc_is_ratio.nd rfl (Or.inl rfl)) pgs_nil))))
    (pss_cons (ps_if (pt_not (PW.pt (pw_and (pt_val (pe_c C_is_int hg (hr.mono (by decide)) rfl (pa_cons (pv 1) pa_nil))) (pw_and1 (pt_val (pe_c C_is_int hg (hr.mono (by decide)) rfl (pa_cons (pv 2) pa_nil))))))) (pss_one (ps_ret pe_bl)) pss_nil)
    (pss_one (ps_ret (pe_and (pe_cmpR op_gt (pv 2) pe_int (nomark _)) (pe_one (pe_cmpR op_eq (pe_callBfun cr_gcd rfl c_gcd (pa_cons (pv 1) (pa_cons (pv 2) pa_nil))) pe_int (nomark _))))))))), ?_⟩
  cases hb with
  | @yes a x y h =>
    walk_at "rd"
    refine iteT ?_
    walk_at "rd"
    refine iteF ?_
    walk_at "rd"
    refine ⟨.int x, "int", rfl, ⟨.base (.int x), by simp⟩, ?_⟩
    walk_at "rd"
    refine iteT ?_
    walk_at "rd"
    refine ⟨.int y, "int", rfl, ⟨.base (.int y), by simp⟩, ?_⟩
    walk_at "rd"
    refine iteF ?_
    walk_at "rd"
    refine rd_if (fun c => ?_) (fun c => ?_)
    · walk_at "rd"
      have e : (decide (((Nat.gcd x.natAbs y.natAbs : Nat) : Int) = 1)) = (decide (0 < y) && decide (Int.gcd x y = 1)) := by
        rw [decide_eq_true c, Bool.true_and]
        exact decide_eq_decide.mpr (by show ((Int.gcd x y : Nat) : Int) = 1 ↔ _; omega)
      rw [e]
      exact q
    · rw [decide_eq_false c, Bool.false_and] at q
      exact q
  | @len a xs h n =>
    walk_at "rd"
    refine iteT ?_
    walk_at "rd"
    have e : decide ((xs.length : Int) = 2) = false := decide_eq_false (by omega)
    rw [e]
    refine iteT ?_
    walk_at "rd"
    exact q
  | @one a u w t h ty n =>
    walk_at "rd"
    refine iteT ?_
    walk_at "rd"
    refine iteF ?_
    walk_at "rd"
    refine ⟨u, t, rfl, ty, ?_⟩
    walk_at "rd"
    rw [decide_eq_false n]
    refine iteF ?_
    refine iteT ?_
    walk_at "rd"
    exact q
  | @two a u w t h ty tw n =>
    walk_at "rd"
    refine iteT ?_
    walk_at "rd"
    refine iteF ?_
    walk_at "rd"
    refine ⟨u, _, rfl, ty, ?_⟩
    walk_at "rd"
    refine iteT ?_
    walk_at "rd"
    refine ⟨w, t, rfl, tw, ?_⟩
    walk_at "rd"
    rw [decide_eq_false n]
    refine iteT ?_
    walk_at "rd"
    exact q
  | @off v t ty n =>
    obtain ⟨ty, ht⟩ := ty
    rcases ht with rfl | rfl | rfl | rfl | rfl | rfl
    all_goals first | (exact absurd rfl n) | skip
    all_goals walk_at "rd"
    all_goals refine iteF ?_
    all_goals refine iteT ?_
    all_goals walk_at "rd"
    all_goals exact q

/-! ### the drawing -/
theorem prime_at {n : Int} (h0 : 0 ≤ n) (h : n < 7) : ∃ p, atI [V.int 2147483647, V.int 2147483629, V.int 2147483587, V.int 2147483579, V.int 2147483563, V.int 2147483549, V.int 2147483543] n = some (.int p) ∧ 0 < p ∧ p ≤ 2147483647 := by
  obtain ⟨p, e, m⟩ := pick_int (ns := [2147483647, 2147483629, 2147483587, 2147483579, 2147483563, 2147483549, 2147483543]) h0 h
  refine ⟨p, e, ?_⟩
  simp only [List.mem_cons, List.not_mem_nil, or_false] at m
  omega
theorem rd_prime {K : PySem.W.Frag} {H : Hp} {t : Addr} {i : Int} {Q : VK} (h : H t = some (.tup [V.int 2147483647, V.int 2147483629, V.int 2147483587, V.int 2147483579, V.int 2147483563, V.int 2147483549, V.int 2147483543]))
    (h0 : 0 ≤ i) (h1 : i < 7) (q : ∀ p : Int, 0 < p → p ≤ 2147483647 → Q (.int p) H) : rIx K (.ref t) (.int i) H Q := by
  obtain ⟨p, e, p0, p1⟩ := prime_at h0 h1
  exact rd_sxT (SqT.of h) e (q p p0 p1)
def sp__law_bag (K : PySem.W.Frag) : Sp := fun vs H Q _ => ∃ (a : Addr) (ns : List Int) (n : Int), vs = [.ref a, .int n] ∧ Scr K H a (ns.map V.int) ∧ ns.length ≤ 63 ∧ 0 ≤ n ∧ n ≤ 62 ∧
  ∀ b J, H b = none → Same H J → Bag b J → Q (.ref b) J
theorem ar__law_bag (K : PySem.W.Frag) : ∀ vs H Q E, sp__law_bag K vs H Q E → vs.length = 2 := by
  intro vs H Q E h
  obtain ⟨a, ns, n, rfl, _⟩ := h
  rfl
abbrev S__law_bag : Stmt := top 5
abbrev N__law_bag : List Str := ["_law_script", "_law_at", "_law_primes", "_law_cell", "_law_large", "_law_mixed"]
theorem sc__law_bag : FnScope N__law_bag ["_law_script", "_law_at"] (defScope S__law_bag) := ⟨rfl, rfl, rfl, by decide +kernel, rfl, by decide +kernel, by decide +kernel⟩
theorem ok__law_bag {P : Program} {w : World} {K : PySem.W.Frag} {mg : Str → Option Value} {base : Heap} {f : Addr} {fd : FuncData} (F : Fun K "_law_bag" "_law_bag" S__law_bag f fd) (m_abs : mg "abs" = none) (m_len : mg "len" = none) :
    FnG P w K mg base CX0 1 f fd ["_law_script", "_law_at"] (sp__law_bag K) := by
  refine Fun_okG F sc__law_bag (ar__law_bag K) (fun cdv A outer s H vs Q E hg hr h => ?_)
  obtain ⟨a, ns, n, rfl, hS, hl, n0, n1, q⟩ := h
  refine ⟨_, (pss_cons (ps_set (i := 2) sc__law_bag.nd rfl (Or.inl rfl) (pe_tup (pa_cons pe_int (pa_cons pe_int (pa_cons pe_int (pa_cons pe_int (pa_cons pe_int (pa_cons pe_int (pa_cons pe_int pa_nil)))))))))
    (pss_cons (ps_set (i := 3) sc__law_bag.nd rfl (Or.inl rfl) (pe_ifExp (pt_cmpR op_lt (pv 1) (pe_callB (id := "len") (lenK (K := K) rfl) (by rfl) m_len (by decide +kernel) (pa_cons (pv 0) pa_nil)) (nomark _)) (pe_ix (ixK (K := K) rfl) (pv 0) (pv 1) (fun _ _ => rfl)) pe_int))
    (pss_cons (ps_set (i := 4) sc__law_bag.nd rfl (Or.inl rfl) (pe_ifExp (pt_cmpR op_ge (pe_callB (id := "abs") call_abs (by rfl) m_abs (by decide +kernel) (pa_cons (pv 3) pa_nil)) (pe_op op_pow pe_int pe_int) (nomark _)) (pe_callB (id := "abs") call_abs (by rfl) m_abs (by decide +kernel) (pa_cons (pv 3) pa_nil)) pe_int))
    (pss_cons (ps_set (i := 5) sc__law_bag.nd rfl (Or.inl rfl) (pe_op op_modN (pe_op op_pow (pe_op op_add (pe_op op_add (pe_op op_modN (pv 3) pe_int) (pe_op op_ml pe_int (pv 1))) pe_int) pe_int) (pe_ix (ixK (K := K) rfl) (pv 2) (pe_op op_modN (pv 1) pe_int) (fun _ _ => rfl))))
    (pss_one (ps_ret (pe_lst (pa_cons (pv 4) (pa_cons (pe_op op_add (pe_op op_modN (pe_op op_ml (pv 5) (pe_op op_add (pe_op op_add (pe_op op_dv (pv 5) pe_int) (pe_op op_ml pe_int (pv 1))) pe_int)) (pe_ix (ixK (K := K) rfl) (pv 2) (pe_op op_modN (pe_op op_add (pv 1) pe_int) pe_int) (fun _ _ => rfl))) pe_int) pa_nil))))))))), ?_⟩
  walk_at "rd"
  intro t nt
  have hS2 : Scr K (upd H t (.tup [V.int 2147483647, V.int 2147483629, V.int 2147483587, V.int 2147483579, V.int 2147483563, V.int 2147483549, V.int 2147483543])) a (ns.map V.int) := by walk_at "hp"
  walk_at "rd"
  refine rd_if (fun c => ?_) (fun c => ?_)
  · rw [List.length_map] at c
    obtain ⟨v, hv, _⟩ := pick_int (ns := ns) n0 c
    walk_at "rd"
    refine rd_sxL hS2.sq hv ?_
    walk_at "rd"
    refine rd_if (fun c2 => ?_) (fun c2 => ?_)
    all_goals walk_at "rdm"
    all_goals refine rd_prime (by walk_at "hp") (by omega) (by omega) (fun p1 p1a p1b => ?_)
    all_goals walk_at "rdm"
    all_goals refine rd_prime (by walk_at "hp") (by omega) (by omega) (fun p2 p2a p2b => ?_)
    all_goals walk_at "rdm"
    all_goals intro p np
    all_goals exact q _ _ ((same_new nt).free np) ((same_new nt).trans (same_new np)) ⟨_, _, upd_same⟩
  · walk_at "rd"
    refine rd_if (fun c2 => ?_) (fun c2 => ?_)
    all_goals walk_at "rdm"
    all_goals refine rd_prime (by walk_at "hp") (by omega) (by omega) (fun p1 p1a p1b => ?_)
    all_goals walk_at "rdm"
    all_goals refine rd_prime (by walk_at "hp") (by omega) (by omega) (fun p2 p2a p2b => ?_)
    all_goals walk_at "rdm"
    all_goals intro p np
    all_goals exact q _ _ ((same_new nt).free np) ((same_new nt).trans (same_new np)) ⟨_, _, upd_same⟩
def sp__law_take (K : PySem.W.Frag) : Sp := fun vs H Q _ => ∃ (b : Addr) (n : Int), vs = [.ref b, .int n] ∧ Bag b H ∧ 0 < n ∧ n.natAbs < 2 ^ 400 ∧ ∀ (r : Int) J, 0 ≤ r → r < n → Kp b H J → Bag b J → Q (.int r) J
theorem ar__law_take (K : PySem.W.Frag) : ∀ vs H Q E, sp__law_take K vs H Q E → vs.length = 2 := by
  intro vs H Q E h
  obtain ⟨b, n, rfl, _⟩ := h
  rfl
abbrev S__law_take : Stmt := top 6
abbrev N__law_take : List Str := ["_law_bag_here", "_law_size", "_law_digit"]
theorem sc__law_take : FnScope N__law_take ["_law_bag_here", "_law_size"] (defScope S__law_take) := ⟨rfl, rfl, rfl, by decide +kernel, rfl, by decide +kernel, by decide +kernel⟩
theorem ok__law_take {P : Program} {w : World} {K : PySem.W.Frag} {mg : Str → Option Value} {base : Heap} {f : Addr} {fd : FuncData} (F : Fun K "_law_take" "_law_take" S__law_take f fd) :
    FnG P w K mg base CX0 1 f fd ["_law_bag_here", "_law_size"] (sp__law_take K) := by
  refine Fun_okG F sc__law_take (ar__law_take K) (fun cdv A outer s H vs Q E hg hr h => ?_)
  obtain ⟨b, n, rfl, ⟨x, y, hb⟩, n0, n1, q⟩ := h
  refine ⟨_, (pss_cons (ps_if (pt_cmpR op_gt (pe_ix (ixK (K := K) rfl) (pv 0) pe_int (fun _ _ => rfl)) pe_int (nomark _)) (pss_cons (ps_set (i := 2) sc__law_take.nd rfl (Or.inl rfl) (pe_op op_modN (pe_ix (ixK (K := K) rfl) (pv 0) pe_int (fun _ _ => rfl)) (pv 1)))
    (pss_cons (ps_asg (pe_op op_dv (pe_ix (ixK (K := K) rfl) (pv 0) pe_int (fun _ _ => rfl)) (pv 1)) (pg_sub (pv 0) pe_int set_list))
    (pss_one (ps_ret (pv 2))))) pss_nil)
    (pss_cons (ps_asg (pe_op op_modN (pe_op op_ml (pe_ix (ixK (K := K) rfl) (pv 0) pe_int (fun _ _ => rfl)) pe_int) pe_int) (pg_sub (pv 0) pe_int set_list))
    (pss_one (ps_ret (pe_op op_modN (pe_op op_dv (pe_op op_modN (pe_op op_ml (pe_ix (ixK (K := K) rfl) (pv 0) pe_int (fun _ _ => rfl)) pe_int) pe_int) (pe_op op_pow pe_int pe_int)) (pv 1)))))), ?_⟩
  walk_at "rd"
  refine rd_if (fun c => ?_) (fun c => ?_)
  · walk_at "rd"
    exact q _ _ (fmod_rng n0).1 (fmod_rng n0).2 Kp.at ⟨_, _, upd_same⟩
  · walk_at "rd"
    exact q _ _ (fmod_rng n0).1 (fmod_rng n0).2 Kp.at ⟨_, _, upd_same⟩
def sp__law_part (K : PySem.W.Frag) : Sp := fun vs H Q _ => ∃ m n : Int, vs = [.int m, .int n] ∧ Q (.int (Int.gcd m n)) H
theorem ar__law_part (K : PySem.W.Frag) : ∀ vs H Q E, sp__law_part K vs H Q E → vs.length = 2 := by
  intro vs H Q E h
  obtain ⟨b, n, rfl, _⟩ := h
  rfl
abbrev S__law_part : Stmt := top 7
abbrev N__law_part : List Str := ["_law_one", "_law_other"]
theorem sc__law_part : FnScope N__law_part ["_law_one", "_law_other"] (defScope S__law_part) := ⟨rfl, rfl, rfl, by decide +kernel, rfl, by decide +kernel, by decide +kernel⟩
theorem ok__law_part {P : Program} {w : World} {K : PySem.W.Frag} {mg : Str → Option Value} {base : Heap} {f : Addr} {fd : FuncData} (F : Fun K "_law_part" "_law_part" S__law_part f fd) (m_abs : mg "abs" = none) :
    FnG P w K mg base CX0 1 f fd ["_law_one", "_law_other"] (sp__law_part K) := by
  refine Fun_okG F sc__law_part (ar__law_part K) (fun cdv A outer s H vs Q E hg hr h => ?_)
  obtain ⟨m, n, rfl, q⟩ := h
  refine ⟨_, (pss_cons (ps_while PassesOwn.never (pt_cmpR op_ne (pv 1) pe_int (nomark _)) (pss_one (ps_par (i := 0) (j := 1) rfl sc__law_part.nd rfl rfl (by decide) rfl rfl (pa_cons (pv 1) (pa_cons (pe_op op_modN (pv 0) (pv 1)) pa_nil)) (by rfl))))
    (pss_one (ps_ret (pe_callB (id := "abs") call_abs (by rfl) m_abs (by decide +kernel) (pa_cons (pv 0) pa_nil))))), ?_⟩
  walk_at "rd"
  refine while_by (fun σ' H' => ∃ x y : Int, σ' = [some (.int x), some (.int y)] ∧ H' = H ∧ Int.gcd x y = Int.gcd m n) (fun σ' _ => msr σ') ⟨m, n, rfl, rfl, rfl⟩ (fun σ' H' w => ?_) fun σ' H' R R' f h => ?_
  · obtain ⟨x, y, rfl, rfl, e⟩ := w
    walk_at "rd"
    refine rd_ifn (fun c => ?_) (fun c => ?_)
    · walk_at "rd"
      exact ⟨⟨_, _, rfl, rfl, by rw [gcd_turn]; exact e⟩, fmod_abs c⟩
    · subst c
      walk_at "rd"
      have e2 : (if x < 0 then -x else x) = ((Int.gcd m n : Nat) : Int) := by
        rw [← e, Int.gcd_zero_right]
        split <;> omega
      rw [e2]
      exact q
  · obtain ⟨v, h1, h2, k, h3, h4⟩ := h
    exact ⟨v, h1, h2, k, h3, f _ _ h4⟩
def sp__law_integer (K : PySem.W.Frag) : Sp := fun vs H Q _ => ∃ b, vs = [.ref b] ∧ Bag b H ∧ ∀ n J, Bd 330 n → Kp b H J → Bag b J → Q (.int n) J
theorem ar__law_integer (K : PySem.W.Frag) : ∀ vs H Q E, sp__law_integer K vs H Q E → vs.length = 1 := by
  intro vs H Q E h
  obtain ⟨b, rfl, _⟩ := h
  rfl
abbrev S__law_integer : Stmt := top 10
abbrev N__law_integer : List Str := ["_law_bag_here", "_law_most", "_law_number"]
theorem sc__law_integer : FnScope N__law_integer ["_law_bag_here"] (defScope S__law_integer) := ⟨rfl, rfl, rfl, by decide +kernel, rfl, by decide +kernel, by decide +kernel⟩
theorem ok__law_integer {P : Program} {w : World} {K : PySem.W.Frag} {mg : Str → Option Value} {base : Heap} {f : Addr} {fd : FuncData} (F : Fun K "_law_integer" "_law_integer" S__law_integer f fd) {f__law_take : Addr} {fd__law_take : FuncData} (C__law_take : Cal P w K mg base "_law_take" 1 f__law_take fd__law_take ["_law_bag_here", "_law_size"] (sp__law_take K)) :
    FnG P w K mg base CX0 2 f fd ["_law_bag_here"] (sp__law_integer K) := by
  refine Fun_okG F sc__law_integer (ar__law_integer K) (fun cdv A outer s H vs Q E hg hr h => ?_)
  obtain ⟨b, rfl, hb, q⟩ := h
  refine ⟨_, (pss_cons (ps_set (i := 1) sc__law_integer.nd rfl (Or.inl rfl) (pe_ix (ixK (K := K) rfl) (pe_lst (pa_cons pe_int (pa_cons pe_int (pa_cons (pe_op op_pow pe_int pe_int) (pa_cons (pe_op op_ml (pe_op op_pow pe_int pe_int) (pe_op op_pow pe_int pe_int)) pa_nil))))) (pe_c C__law_take hg (hr.mono (by decide)) rfl (pa_cons (pv 0) (pa_cons pe_int pa_nil))) (fun _ _ => rfl)))
    (pss_cons (ps_set (i := 2) sc__law_integer.nd rfl (Or.inl rfl) (pe_ix (ixK (K := K) rfl) (pe_lst (pa_cons (pe_c C__law_take hg (hr.mono (by decide)) rfl (pa_cons (pv 0) (pa_cons (pv 1) pa_nil))) (pa_cons (pe_op op_sub (pv 1) (pe_c C__law_take hg (hr.mono (by decide)) rfl (pa_cons (pv 0) (pa_cons pe_int pa_nil)))) (pa_cons (pe_c C__law_take hg (hr.mono (by decide)) rfl (pa_cons (pv 0) (pa_cons pe_int pa_nil))) pa_nil)))) (pe_c C__law_take hg (hr.mono (by decide)) rfl (pa_cons (pv 0) (pa_cons pe_int pa_nil))) (fun _ _ => rfl)))
    (pss_one (ps_ret (pe_op op_sub (pv 2) (pe_op op_ml (pe_op op_ml pe_int (pv 2)) (pe_c C__law_take hg (hr.mono (by decide)) rfl (pa_cons (pv 0) (pa_cons pe_int pa_nil))))))))), ?_⟩
  walk_at "rd"
  intro p1 np1
  walk_at "rd"
  refine ⟨b, 4, rfl, by walk_at "hp", by decide, by decide, fun r1 J1 r1a r1b k1 g1 => ?_⟩
  obtain ⟨v, hv, hm⟩ := pick (xs := [V.int 10, V.int 100, V.int (10 ^ Int.toNat 18), V.int (10 ^ Int.toNat 49 * 10 ^ Int.toNat 49)]) r1a r1b
  obtain ⟨m, rfl, m0, m1⟩ : ∃ m : Int, v = .int m ∧ 0 < m ∧ m.natAbs < 2 ^ 327 := by
    simp only [List.mem_cons, List.not_mem_nil, or_false] at hm
    rcases hm with rfl | rfl | rfl | rfl <;> exact ⟨_, rfl, by decide, by decide +kernel⟩
  refine rd_sxL (by walk_at "hp") hv ?_
  walk_at "rd"
  refine ⟨b, m, rfl, g1, m0, by omega, fun r2 J2 r2a r2b k2 g2 => ?_⟩
  walk_at "rd"
  refine ⟨b, 3, rfl, g2, by decide, by decide, fun r3 J3 r3a r3b k3 g3 => ?_⟩
  walk_at "rd"
  refine ⟨b, 4, rfl, g3, by decide, by decide, fun r4 J4 r4a r4b k4 g4 => ?_⟩
  walk_at "rd"
  intro p2 np2
  walk_at "rd"
  refine ⟨b, 3, rfl, by walk_at "hp", by decide, by decide, fun r5 J5 r5a r5b k5 g5 => ?_⟩
  obtain ⟨v, hv, hm⟩ := pick (xs := [V.int r2, V.int (m - r3), V.int r4]) r5a r5b
  obtain ⟨n, rfl, n1⟩ : ∃ n : Int, v = .int n ∧ n.natAbs < 2 ^ 327 := by
    simp only [List.mem_cons, List.not_mem_nil, or_false] at hm
    rcases hm with rfl | rfl | rfl <;> exact ⟨_, rfl, by omega⟩
  refine rd_sxL (by walk_at "hp") hv ?_
  walk_at "rd"
  refine ⟨b, 2, rfl, g5, by decide, by decide, fun r6 J6 r6a r6b k6 g6 => ?_⟩
  walk_at "rd"
  refine q _ _ ?_ (((((((Kp.new np1).trans k1).trans k2).trans k3).trans k4).trans (Kp.new np2)).trans (k5.trans k6)) g6
  unfold Bd
  rcases (show r6 = 0 ∨ r6 = 1 by omega) with rfl | rfl <;> omega

def sp__law_lowest (K : PySem.W.Frag) : Sp := fun vs H Q _ => ∃ t u : Int, vs = [.int t, .int u] ∧ u ≠ 0 ∧ Bd 8000 u ∧ ∀ x y p J, IsLow t u x y → H p = none → Same H J → J p = some (.tup [.int x, .int y]) → Q (.ref p) J
theorem ar__law_lowest (K : PySem.W.Frag) : ∀ vs H Q E, sp__law_lowest K vs H Q E → vs.length = 2 := by
  intro vs H Q E h
  obtain ⟨b, n, rfl, _⟩ := h
  rfl
abbrev S__law_lowest : Stmt := top 8
abbrev N__law_lowest : List Str := ["_law_top", "_law_under", "_law_part_here"]
theorem sc__law_lowest : FnScope N__law_lowest ["_law_top", "_law_under"] (defScope S__law_lowest) := ⟨rfl, rfl, rfl, by decide +kernel, rfl, by decide +kernel, by decide +kernel⟩
theorem ok__law_lowest {P : Program} {w : World} {K : PySem.W.Frag} {mg : Str → Option Value} {base : Heap} {f : Addr} {fd : FuncData} (F : Fun K "_law_lowest" "_law_lowest" S__law_lowest f fd) {f__law_part : Addr} {fd__law_part : FuncData} (C__law_part : Cal P w K mg base "_law_part" 1 f__law_part fd__law_part ["_law_one", "_law_other"] (sp__law_part K)) :
    FnG P w K mg base CX0 2 f fd ["_law_top", "_law_under"] (sp__law_lowest K) := by
  refine Fun_okG F sc__law_lowest (ar__law_lowest K) (fun cdv A outer s H vs Q E hg hr h => ?_)
  obtain ⟨t, u, rfl, u0, hu, q⟩ := h
  refine ⟨_, (pss_cons (ps_set (i := 2) sc__law_lowest.nd rfl (Or.inl rfl) (pe_c C__law_part hg (hr.mono (by decide)) rfl (pa_cons (pv 0) (pa_cons (pv 1) pa_nil))))
    (pss_cons (ps_if (pt_cmpR op_lt (pv 1) pe_int (nomark _)) (pss_one (ps_set (i := 2) sc__law_lowest.nd rfl (Or.inl rfl) (pe_un un_neg (pv 2)))) pss_nil)
    (pss_one (ps_ret (pe_tup (pa_cons (pe_op op_dv (pv 0) (pv 2)) (pa_cons (pe_op op_dv (pv 1) (pv 2)) pa_nil))))))), ?_⟩
  walk_at "rd"
  refine ⟨t, u, rfl, ?_⟩
  walk_at "rd"
  refine rd_if (fun c => ?_) (fun c => ?_)
  · walk_at "rd"
    obtain ⟨h1, h2, h3⟩ := low_at (t := t) u0 (s := -((Int.gcd t u : Nat) : Int)) (by rw [if_pos c])
    refine rd_I (rd_dvB _ h2 (hu.le h3)) ?_
    walk_at "rd"
    refine rd_I (rd_dvB _ h2 (hu.le h3)) ?_
    walk_at "rd"
    intro p np
    exact q _ _ _ _ h1 np (same_new np) upd_same
  · walk_at "rd"
    obtain ⟨h1, h2, h3⟩ := low_at (t := t) u0 (s := ((Int.gcd t u : Nat) : Int)) (by rw [if_neg c])
    refine rd_I (rd_dvB _ h2 (hu.le h3)) ?_
    walk_at "rd"
    refine rd_I (rd_dvB _ h2 (hu.le h3)) ?_
    walk_at "rd"
    intro p np
    exact q _ _ _ _ h1 np (same_new np) upd_same

local macro_rules | `(tactic| walk_at "hp_2") => `(tactic| (first
  | assumption
  | exact L2.upd_same
  | ((with_reducible refine SqT.of ?h); (case h => walk_at "hp_2"))
  | ((with_reducible refine SqL.of ?h); (case h => walk_at "hp_2"))
  | ((with_reducible refine Scr.sq ?h); (case h => walk_at "hp_2"))
  | ((with_reducible refine Bag.new ?h ?k); (case h => walk_at "hp_2"); (case k => assumption))
  | ((with_reducible refine Scr.new ?k ?h); (case k => assumption); (case h => walk_at "hp_2"))
  | ((with_reducible refine Scr.kp (b := ?bb) (H := ?hh) ?k ?g ?h); (case k => assumption); (case g => walk_at "hp_2"); (case h => walk_at "hp_2"))
  | ((with_reducible refine Bag.same (H := ?hh) ?k ?h); (case k => assumption); (case h => walk_at "hp_2"))
  | ((with_reducible refine Scr.same (H := ?hh) ?k ?h); (case k => assumption); (case h => walk_at "hp_2"))
  | ((with_reducible refine same_any (H := ?hh) ?k ?h); (case k => assumption); (case h => walk_at "hp_2"))
  | ((with_reducible refine new_any ?k ?h); (case k => assumption); (case h => walk_at "hp_2"))
  | ((with_reducible refine set_tup (ys := ?ys) ?k ?h); (case k => assumption); (case h => walk_at "hp_2"))
  | ((with_reducible refine Bag.put ?k ?h); (case k => assumption); (case h => walk_at "hp_2"))
  | ((with_reducible refine Kp.tup (b := ?bb) (H := ?hh) ?k ?g ?h); (case k => assumption); (case g => walk_at "hp_2"); (case h => walk_at "hp_2"))
  | ((with_reducible refine Pu.bag (l := ?ll) (H := ?hh) ?k ?n ?h); (case k => assumption); (case n => walk_at "hp_2"); (case h => walk_at "hp_2"))
  | ((with_reducible refine Pu.scr (l := ?ll) (H := ?hh) ?k ?h); (case k => assumption); (case h => walk_at "hp_2"))
  | ((with_reducible refine Pu.tup (l := ?ll) (H := ?hh) ?k ?h); (case k => assumption); (case h => walk_at "hp_2"))
  | ((with_reducible refine Pu.lst (l := ?ll) (H := ?hh) ?k ?n ?h); (case k => assumption); (case n => walk_at "hp_2"); (case h => walk_at "hp_2"))
  | ((with_reducible refine Kp.lst (b := ?bb) (H := ?hh) ?k ?g ?h); (case k => assumption); (case g => walk_at "hp_2"); (case h => walk_at "hp_2"))
  | ((with_reducible refine Bag.off (H := ?hh) ?h ?g); (case h => assumption); (case g => walk_at "hp_2"))
  | (with_reducible exact Kp.refl)
  | (with_reducible exact Kp.new (by assumption))))
local macro_rules | `(tactic| walk_at "dp_2") => `(tactic| (first
  | exact Dp.int _
  | exact Dp.bl _
  | exact Dp.non
  | exact Dp.str _
  | exact DpAll.nil
  | ((refine DpAll.cons (d := ?d) (ds := ?ds) ?h ?k); (case h => walk_at "dp_2"); (case k => walk_at "dp_2"))
  | ((refine Dp.lst (xs := ?xs) (ds := ?ds) ?h ?k); (case h => walk_at "hp_2"); (case k => walk_at "dp_2"))
  | ((refine Dp.tup (xs := ?xs) (ds := ?ds) ?h ?k); (case h => walk_at "hp_2"); (case k => walk_at "dp_2"))))
local macro_rules | `(tactic| walk_at "small_2") => `(tactic| first | decide +kernel | (simp only [sm, sms, sz, szs, Bool.and_true, Bool.and_eq_true, decide_eq_true_eq, and_true, true_and]; (first | done | omega | (repeat' constructor) <;> first | omega | decide +kernel)))
local macro_rules | `(tactic| walk_at "side_2") => `(tactic| (first
  | ((with_reducible show IntMulOk _ _); first | exact rd_mulB (by assumption) (by assumption) | (refine rd_mulok ?_; omega))
  | ((with_reducible show CDv _ _); exact rd_dvB _ (Int.ne_of_gt (by assumption)) (by assumption))
  | ((with_reducible show CDv _ _); refine rd_dvI _ ?_ ?_ <;> first | assumption | omega | decide)
  | ((with_reducible show CPow _ _); exact ⟨by decide, by decide, by first | decide | omega⟩)
  | omega
  | assumption
  | decide
  | (refine rd_mulB (m := 400) (n := 400) (Bd.lit ?_) (Bd.lit ?_) <;> decide +kernel)))
local macro_rules | `(tactic| walk_at "rd1_2") => `(tactic| (first
  | ((with_reducible refine rd_var (v := ?v) ?h ?_); (case h => exact rfl))
  | (with_reducible refine rd_c ?_)
  | (with_reducible refine rd_op ?_)
  | (with_reducible refine rd_cons ?_)
  | (with_reducible refine rd_nil ?_)
  | ((with_reducible refine rd_sxT (xs := ?xs) (v := ?v) ?h ?a ?_); (case h => walk_at "hp_2"); (case a => exact rfl))
  | ((with_reducible refine rd_sxL (xs := ?xs) (v := ?v) ?h ?a ?_); (case h => walk_at "hp_2"); (case a => exact rfl))
  | (with_reducible refine rd_I0 ?_)
  | ((with_reducible refine rd_I ?c ?_); (case c => walk_at "side_2"))
  | ((with_reducible refine rd_name (τ := ?t) ?e ?_); (case e => exact rfl))
  | (with_reducible refine rd_seq ?_)
  | (with_reducible refine rd_asg ?_)
  | (with_reducible refine rd_call ?_)
  | (with_reducible refine rd_CB ?_)
  | (with_reducible refine rd_tupK ?_)
  | ((with_reducible refine rd_kT ?h ?_); (case h => exact rfl); intro p J np sJ eJ)
  | ((with_reducible refine rd_new ?h ?_); (case h => exact rfl))
  | (with_reducible refine rd_test ?_)
  | (with_reducible refine rd_bl ?_)
  | (with_reducible refine rd_U ?_)
  | (with_reducible refine rd_un ?_)
  | (with_reducible refine rd_neI ?_)
  | (with_reducible refine rd_eqI ?_)
  | (with_reducible refine rd_tpar ?_)
  | (with_reducible refine rd_lc ?_)
  | (with_reducible refine rd_iTup ?_)
  | (with_reducible refine rd_iLst ?_)
  | (with_reducible refine rd_iR1 ?_)
  | (with_reducible refine rd_BM ?_)
  | ((with_reducible refine rd_iTupA (xs := ?xs) ?h ?_); (case h => walk_at "hp_2"))
  | ((with_reducible refine rd_iLstA (xs := ?xs) ?h ?_); (case h => walk_at "hp_2"))
  | ((with_reducible refine rd_tyl (xs := ?xs) ?h ?_); (case h => walk_at "hp_2"))
  | ((with_reducible refine rd_appK (xs := ?xs) ?h ?a ?_); (case h => walk_at "hp_2"); (case a => exact Nat.le_of_ble_eq_true rfl); intro J pJ eJ)
  | ((with_reducible refine rd_catK (xs := ?xs) (zs := ?zs) ?h ?k ?a ?_); (case h => walk_at "hp_2"); (case k => walk_at "hp_2"); (case a => exact Nat.le_of_ble_eq_true rfl); intro p J np sJ eJ)
  | ((with_reducible refine rd_repK (xs := ?xs) (ys := ?ys) ?h ?a ?b ?c ?_); (case h => walk_at "hp_2"); (case a => decide); (case b => exact Nat.le_of_ble_eq_true rfl); (case c => exact rfl); intro p J np sJ eJ)
  | (with_reducible refine rd_ret ?_)
  | (with_reducible refine rd_next ?_)
  | (with_reducible refine rd_drop ?_)
  | (with_reducible refine rd_ifS ?_)
  | (with_reducible refine rd_B ?_)
  | (with_reducible refine rd_not ?_)
  | (with_reducible refine rd_and ?_)
  | (with_reducible refine rd_or ?_)
  | (with_reducible refine rd_andV ?_)
  | (with_reducible refine rd_orV ?_)
  | (with_reducible refine rd_notV ?_)
  | (with_reducible refine rd_ifE ?_)
  | (with_reducible refine rd_lstK ?_)
  | ((with_reducible refine rd_kL ?h ?_); (case h => exact rfl); intro p J np sJ eJ)
  | ((with_reducible refine rd_for1b ?h ?_); (case h => constructor <;> (repeat' split) <;> omega))
  | (with_reducible refine rd_one ?_)
  | (with_reducible refine rd_two ?_)
  | (with_reducible refine rd_int ?_)
  | (with_reducible refine rd_intB ?_)
  | (with_reducible refine rd_gcd ?_)
  | ((with_reducible refine rd_par (τ := ?t) ?e ?_); (case e => exact rfl))
  | (with_reducible refine rd_sub ?_)
  | (with_reducible refine rd_for1 ?_)
  | ((with_reducible refine rd_len (ys := ?ys) ?h ?_); (case h => walk_at "hp_2"))
  | ((with_reducible refine rd_lenTu (ys := ?ys) ?h ?_); (case h => walk_at "hp_2"))
  | ((with_reducible refine rd_repr (d := ?d) ?h ?a ?b ?c ?_); (case h => walk_at "dp_2"); (case a => walk_at "small_2"); (case b => walk_at "small_2"); (case c => simp only [PyData.depth, PyData.depthAll]; omega))
  | ((with_reducible refine rd_nsame ?h ?_); (case h => exact rfl))
  | ((with_reducible refine rd_same ?h ?_); (case h => exact rfl))
  | ((with_reducible refine rd_gtup (xs := ?xs) ?h ?a ?_); (case h => walk_at "hp_2"); (case a => exact rfl))
  | (with_reducible refine rd_gcons ?_)
  | (with_reducible refine rd_gnil ?_)
  | ((with_reducible refine rd_isiI (b := true) ?a ?_); (case a => decide +kernel))
  | ((with_reducible refine rd_isiI (b := false) ?a ?_); (case a => decide +kernel))
  | ((with_reducible refine rd_isiB (b := true) ?a ?_); (case a => decide +kernel))
  | ((with_reducible refine rd_isiB (b := false) ?a ?_); (case a => decide +kernel))
  | ((with_reducible refine rd_isiN (b := true) ?a ?_); (case a => decide +kernel))
  | ((with_reducible refine rd_isiN (b := false) ?a ?_); (case a => decide +kernel))
  | ((with_reducible refine rd_isiS (b := true) ?a ?_); (case a => decide +kernel))
  | ((with_reducible refine rd_isiS (b := false) ?a ?_); (case a => decide +kernel))
  | ((with_reducible refine rd_isiT (b := true) (xs := ?xs) ?h ?a ?_); (case a => decide +kernel); (case h => walk_at "hp_2"))
  | ((with_reducible refine rd_isiT (b := false) (xs := ?xs) ?h ?a ?_); (case a => decide +kernel); (case h => walk_at "hp_2"))
  | ((with_reducible refine rd_isiL (b := true) (xs := ?xs) ?h ?a ?_); (case a => decide +kernel); (case h => walk_at "hp_2"))
  | ((with_reducible refine rd_isiL (b := false) (xs := ?xs) ?h ?a ?_); (case a => decide +kernel); (case h => walk_at "hp_2"))
  | ((with_reducible refine rd_isi (t := ?t) (b := true) ?h ?a ?_); (case h => assumption); (case a => decide +kernel))
  | ((with_reducible refine rd_isi (t := ?t) (b := false) ?h ?a ?_); (case h => assumption); (case a => decide +kernel))
  | (with_reducible refine rd_chain ?_)
  | ((with_reducible refine rd_eqDs (d := ?d) ?h ?k ?s ?_); (case h => walk_at "dp_2"); (case k => walk_at "dp_2"); (case s => first | rfl | decide | simp [SeqAt.shaped]))
  | ((with_reducible refine rd_neDs (d := ?d) ?h ?k ?s ?_); (case h => walk_at "dp_2"); (case k => walk_at "dp_2"); (case s => first | rfl | decide | simp [SeqAt.shaped]))
  | ((with_reducible refine rd_setL (xs := ?xs) (ys := ?ys) (j := ?j) ?h ?a ?e ?_); (case h => walk_at "hp_2"); (case a => exact rfl); (case e => exact rfl))))
local macro_rules | `(tactic| walk_at "rdm1_2") => `(tactic| (first
  | ((with_reducible refine rd_md ?c ?_); (case c => first | omega | decide); intro r r0 r1)
  | walk_at "rd1_2"))
local macro_rules | `(tactic| walk_at "rdm_2") => `(tactic| (repeat walk_at "rdm1_2"))
local macro_rules | `(tactic| walk_at "rd_2") => `(tactic| (repeat walk_at "rd1_2"))
local macro_rules | `(tactic| walk_at "kp_2") => `(tactic| (first
  | exact Kp.refl
  | assumption
  | ((refine Kp.trans (J := ?m) ?a ?b); (case b => first | assumption | exact Kp.of (by assumption)); (case a => walk_at "kp_2"))))

/-! ### what the law makes -/
/-- a part that is no integer -/
inductive Odd (b : Addr) (H : Hp) : V → Prop
  | non : Odd b H .non
  | bl (k : Bool) : Odd b H (.bl k)
  | str (z : Str) : Odd b H (.str z)
  | tup {a : Addr} {xs : List V} (h : H a = some (.tup xs)) : Odd b H (.ref a)
  | lst {a : Addr} {xs : List V} (n : a ≠ b) (h : H a = some (.lst xs)) : Odd b H (.ref a)
inductive Pt (b : Addr) (H : Hp) : V → Prop
  | int (i : Int) : Pt b H (.int i)
  | odd {v : V} (h : Odd b H v) : Pt b H v
/-- a thing, and whether it is a ratio -/
inductive Thg (b : Addr) (H : Hp) : V → Bool → Prop
  | yes {a : Addr} {x y : Int} (h : H a = some (.tup [.int x, .int y])) : Thg b H (.ref a) (decide (0 < y) && decide (Int.gcd x y = 1))
  | len {a : Addr} {xs : List V} (h : H a = some (.tup xs)) (n : xs.length ≠ 2) : Thg b H (.ref a) false
  | one {a : Addr} {u w : V} (h : H a = some (.tup [u, w])) (k : Odd b H u) (l : Pt b H w) : Thg b H (.ref a) false
  | two {a : Addr} {x : Int} {w : V} (h : H a = some (.tup [.int x, w])) (k : Odd b H w) : Thg b H (.ref a) false
  | non : Thg b H .non false
  | bl (k : Bool) : Thg b H (.bl k) false
  | str (z : Str) : Thg b H (.str z) false
  | int (i : Int) : Thg b H (.int i) false
  | lst {a : Addr} {xs : List V} (n : a ≠ b) (h : H a = some (.lst xs)) : Thg b H (.ref a) false
def Stay (b : Addr) (H J : Hp) : Prop := (∀ a xs, H a = some (.tup xs) → J a = some (.tup xs)) ∧ ∀ a xs, a ≠ b → H a = some (.lst xs) → ∃ ys, J a = some (.lst ys)
theorem Stay.trans {b : Addr} {H J M : Hp} (h : Stay b H J) (k : Stay b J M) : Stay b H M := ⟨fun a xs e => k.1 a xs (h.1 a xs e), fun a xs n e => let ⟨ys, q⟩ := h.2 a xs n e; k.2 a ys n q⟩
theorem Stay.kp {b : Addr} {H J : Hp} (k : Kp b H J) (g : Bag b H) : Stay b H J := ⟨fun a xs e => k.tup g e, fun a xs n e => ⟨xs, k a _ n e⟩⟩
theorem Stay.new {b p : Addr} {H : Hp} {o : HO} (h : H p = none) : Stay b H (upd H p o) := ⟨fun a xs e => new_any h e, fun a xs n e => ⟨xs, new_any h e⟩⟩
theorem Stay.put {b p : Addr} {H : Hp} {xs ys : List V} (h : H p = some (.lst xs)) : Stay b H (upd H p (.lst ys)) := ⟨fun a zs e => set_tup h e, fun a zs n e => by
  by_cases z : a = p
  · subst z
    exact ⟨ys, upd_same⟩
  · exact ⟨zs, by rw [upd_ne z]; exact e⟩⟩
theorem Odd.mono {b : Addr} {H J : Hp} {v : V} (s : Stay b H J) (h : Odd b H v) : Odd b J v := by
  cases h with
  | non => exact .non
  | bl k => exact .bl k
  | str z => exact .str z
  | tup h => exact .tup (s.1 _ _ h)
  | lst n h => exact let ⟨ys, q⟩ := s.2 _ _ n h; .lst n q
theorem Pt.mono {b : Addr} {H J : Hp} {v : V} (s : Stay b H J) (h : Pt b H v) : Pt b J v := by
  cases h with
  | int i => exact .int i
  | odd h => exact .odd (h.mono s)
theorem Thg.mono {b : Addr} {H J : Hp} {v : V} {c : Bool} (s : Stay b H J) (h : Thg b H v c) : Thg b J v c := by
  cases h with
  | yes h => exact .yes (s.1 _ _ h)
  | len h n => exact .len (s.1 _ _ h) n
  | one h k l => exact .one (s.1 _ _ h) (k.mono s) (l.mono s)
  | two h k => exact .two (s.1 _ _ h) (k.mono s)
  | non => exact .non
  | bl k => exact .bl k
  | str z => exact .str z
  | int i => exact .int i
  | lst n h => exact let ⟨ys, q⟩ := s.2 _ _ n h; .lst n q
theorem Odd.ty {K : PySem.W.Frag} {b : Addr} {H : Hp} {v : V} (h : Odd b H v) : ∃ t, IsTy K H v t ∧ t ≠ "int" := by
  cases h with
  | non => exact ⟨_, ⟨.base .non, by simp⟩, by decide⟩
  | bl k => exact ⟨_, ⟨.base (.bl k), by simp⟩, by decide⟩
  | str z => exact ⟨_, ⟨.base (.str z), by simp⟩, by decide⟩
  | tup h => exact ⟨_, ⟨.base (.tup h), by simp⟩, by decide⟩
  | lst n h => exact ⟨_, ⟨.base (.lst h), by simp⟩, by decide⟩
theorem Thg.rat {K : PySem.W.Frag} {b : Addr} {H : Hp} {v : V} {c : Bool} (h : Thg b H v c) : RatIs K H v c := by
  cases h with
  | yes h => exact .yes h
  | len h n => exact .len h n
  | one h k l => exact let ⟨t, ty, n⟩ := k.ty; .one h ty n
  | two h k => exact let ⟨t, ty, n⟩ := k.ty; .two h ⟨.base (.int _), by simp⟩ ty n
  | non => exact .off ⟨.base .non, by simp⟩ (by decide)
  | bl k => exact .off ⟨.base (.bl k), by simp⟩ (by decide)
  | str z => exact .off ⟨.base (.str z), by simp⟩ (by decide)
  | int i => exact .off ⟨.base (.int i), by simp⟩ (by decide)
  | lst n h => exact .off ⟨.base (.lst h), by simp⟩ (by decide)
theorem Thg.of1 {b a : Addr} {H : Hp} {o : V} {u : Int} (h : H a = some (.tup [o, .int u])) (p : Pt b H o) : ∃ c, Thg b H (.ref a) c := by
  cases p with
  | int i => exact ⟨_, .yes h⟩
  | odd k => exact ⟨_, .one h k (.int u)⟩
theorem Thg.of2 {b a : Addr} {H : Hp} {o : V} {u : Int} (h : H a = some (.tup [.int u, o])) (p : Pt b H o) : ∃ c, Thg b H (.ref a) c := by
  cases p with
  | int i => exact ⟨_, .yes h⟩
  | odd k => exact ⟨_, .two h k⟩
theorem Stay.refl {b : Addr} {H : Hp} : Stay b H H := ⟨fun _ _ e => e, fun _ xs _ e => ⟨xs, e⟩⟩
theorem Stay.same {b : Addr} {H J : Hp} (s : Same H J) : Stay b H J := ⟨fun _ _ e => s _ _ e, fun _ xs _ e => ⟨xs, s _ _ e⟩⟩
theorem Stay.pu {b l : Addr} {H J : Hp} (k : Pu l H J) : Stay b H J := ⟨fun _ _ e => k.tup e, fun a xs n e => by
  by_cases z : a = l
  · subst z
    exact k.2.2
  · exact ⟨xs, k.lst z e⟩⟩
local macro_rules | `(tactic| walk_at "stay_2") => `(tactic| (first
  | exact Stay.refl
  | assumption
  | ((refine Stay.trans (J := ?m) ?a ?b); (case b => first | exact Stay.same (by assumption) | exact Stay.pu (by assumption) | exact Stay.kp (by assumption) (by walk_at "hp_2")); (case a => walk_at "stay_2"))))
local macro_rules | `(tactic| walk_at "odd_2") => `(tactic| (first
  | exact Odd.non
  | exact Odd.bl _
  | exact Odd.str _
  | assumption
  | ((refine Odd.tup (xs := ?xs) ?h); (case h => walk_at "hp_2"))
  | ((refine Odd.lst (xs := ?xs) ?n ?h); (case n => walk_at "hp_2"); (case h => walk_at "hp_2"))))
local macro_rules | `(tactic| walk_at "pt_2") => `(tactic| (first
  | exact Pt.int _
  | assumption
  | ((refine Pt.odd ?o); (case o => walk_at "odd_2"))))
local macro_rules | `(tactic| walk_at "thg_2") => `(tactic| (first
  | exact ⟨_, Thg.non⟩
  | exact ⟨_, Thg.bl _⟩
  | exact ⟨_, Thg.str _⟩
  | exact ⟨_, Thg.int _⟩
  | ((refine ⟨_, Thg.yes (x := ?x) (y := ?y) ?h⟩); (case h => walk_at "hp_2"))
  | ((refine Thg.of1 (o := ?o) (u := ?u) ?h ?p); (case h => walk_at "hp_2"); (case p => assumption))
  | ((refine Thg.of2 (o := ?o) (u := ?u) ?h ?p); (case h => walk_at "hp_2"); (case p => assumption))
  | ((refine ⟨_, Thg.two (x := ?x) (w := ?w) ?h ?k⟩); (case h => walk_at "hp_2"); (case k => walk_at "odd_2"))
  | ((refine ⟨_, Thg.one (u := ?u) (w := ?w) ?h ?k ?l⟩); (case h => walk_at "hp_2"); (case k => walk_at "odd_2"); (case l => walk_at "pt_2"))
  | ((refine ⟨_, Thg.len (xs := ?xs) ?h ?n⟩); (case h => walk_at "hp_2"); (case n => simp))
  | ((refine ⟨_, Thg.lst (xs := ?xs) ?n ?h⟩); (case n => walk_at "hp_2"); (case h => walk_at "hp_2"))))
def sp__law_odd (K : PySem.W.Frag) : Sp := fun vs H Q _ => ∃ b, vs = [.ref b] ∧ Bag b H ∧ ∀ v J, Pt b J v → (∃ c, Thg b J v c) → Kp b H J → Bag b J → Q v J
theorem ar__law_odd (K : PySem.W.Frag) : ∀ vs H Q E, sp__law_odd K vs H Q E → vs.length = 1 := by
  intro vs H Q E h
  obtain ⟨b, rfl, _⟩ := h
  rfl
abbrev S__law_odd : Stmt := top 9
abbrev N__law_odd : List Str := ["_law_bag_here", "_law_some"]
theorem sc__law_odd : FnScope N__law_odd ["_law_bag_here"] (defScope S__law_odd) := ⟨rfl, rfl, rfl, by decide +kernel, rfl, by decide +kernel, by decide +kernel⟩
theorem ok__law_odd {P : Program} {w : World} {K : PySem.W.Frag} {mg : Str → Option Value} {base : Heap} {f : Addr} {fd : FuncData} (F : Fun K "_law_odd" "_law_odd" S__law_odd f fd) {f__law_take : Addr} {fd__law_take : FuncData} (C__law_take : Cal P w K mg base "_law_take" 1 f__law_take fd__law_take ["_law_bag_here", "_law_size"] (sp__law_take K)) :
    FnG P w K mg base CX0 2 f fd ["_law_bag_here"] (sp__law_odd K) := by
  refine Fun_okG F sc__law_odd (ar__law_odd K) (fun cdv A outer s H vs Q E hg hr h => ?_)
  obtain ⟨b, rfl, hb, q⟩ := h
  refine ⟨_, (pss_cons (ps_set (i := 1) sc__law_odd.nd rfl (Or.inl rfl) (pe_lst (pa_cons pe_non (pa_cons pe_bl (pa_cons pe_bl (pa_cons pe_int (pa_cons pe_int (pa_cons (pe_un un_neg pe_int) (pa_cons pe_str (pa_cons pe_str (pa_cons pe_str (pa_cons (pe_tup pa_nil) (pa_cons (pe_lst pa_nil) (pa_cons (pe_tup (pa_cons pe_int pa_nil)) (pa_cons (pe_lst (pa_cons pe_int (pa_cons pe_int pa_nil))) (pa_cons (pe_tup (pa_cons pe_int (pa_cons pe_int (pa_cons pe_int pa_nil)))) (pa_cons (pe_tup (pa_cons (pe_tup (pa_cons pe_int (pa_cons pe_int pa_nil))) (pa_cons pe_int pa_nil))) (pa_cons (pe_lst (pa_cons (pe_tup (pa_cons pe_int (pa_cons pe_int pa_nil))) pa_nil)) pa_nil))))))))))))))))))
    (pss_one (ps_ret (pe_ix (ixK (K := K) rfl) (pv 1) (pe_c C__law_take hg (hr.mono (by decide)) rfl (pa_cons (pv 0) (pa_cons pe_int pa_nil))) (fun _ _ => rfl))))), ?_⟩
  walk_at "rd_2"
  refine ⟨b, 16, rfl, by walk_at "hp_2", by decide, by decide, fun r1 J1 r1a r1b k1 g1 => ?_⟩
  refine rd_pick (xs := ?xs) ?h r1a ?l fun v hv => ?_
  case h => walk_at "hp_2"
  case l => exact r1b
  simp only [List.mem_cons, List.not_mem_nil, or_false] at hv
  rcases hv with rfl | rfl | rfl | rfl | rfl | rfl | rfl | rfl | rfl | rfl | rfl | rfl | rfl | rfl | rfl | rfl
  all_goals exact q _ _ (by walk_at "pt_2") (by walk_at "thg_2") (by walk_at "kp_2") g1
def isI : V → Bool
  | .int _ => true
  | _ => false
theorem Odd.isI {b : Addr} {H : Hp} {v : V} (h : Odd b H v) : isI v = false := by cases h <;> rfl
/-- isinstance(part, int) and not isinstance(part, bool) -/
theorem part_int {K : PySem.W.Frag} {b : Addr} {H : Hp} {σ : L2.St} {i0 : Nat} {v : V} {R : VK} (hx : σ[i0]? = some (some v)) (h : Pt b H v) (q : R (.bl (isI v)) H) :
    tAndV (tCB (rIsi K) (tCons (tVar i0) (tCons (tC (V.ty "int")) tNil))) (tNotV (tCB (rIsi K) (tCons (tVar i0) (tCons (tC (V.ty "bool")) tNil)))) σ H R := by
  refine rd_andV (rd_CB (rd_cons (rd_var hx (rd_cons (rd_c (rd_nil ?_))))))
  cases h with
  | int i =>
    refine rd_isiI (b := true) (by decide +kernel) (rd_bl (iteT ?_))
    refine rd_notV (rd_CB (rd_cons (rd_var hx (rd_cons (rd_c (rd_nil ?_))))))
    exact rd_isiI (b := false) (by decide +kernel) (rd_bl q)
  | odd h =>
    cases h with
    | non => exact rd_isiN (b := false) (by decide +kernel) (rd_bl (iteF q))
    | bl k =>
      refine rd_isiB (b := true) (by decide +kernel) (rd_bl (iteT ?_))
      refine rd_notV (rd_CB (rd_cons (rd_var hx (rd_cons (rd_c (rd_nil ?_))))))
      exact rd_isiB (b := true) (by decide +kernel) (rd_bl q)
    | str z => exact rd_isiS (b := false) (by decide +kernel) (rd_bl (iteF q))
    | tup e => exact rd_isiT (b := false) e (by decide +kernel) (rd_bl (iteF q))
    | lst n e => exact rd_isiL (b := false) e (by decide +kernel) (rd_bl (iteF q))
def sp__law_is_ratio (K : PySem.W.Frag) : Sp := fun vs H Q _ => ∃ v c b, vs = [v] ∧ Bag b H ∧ Thg b H v c ∧ ∀ J, Same H J → Q (.bl c) J
theorem ar__law_is_ratio (K : PySem.W.Frag) : ∀ vs H Q E, sp__law_is_ratio K vs H Q E → vs.length = 1 := by
  intro vs H Q E h
  obtain ⟨v, c, b, rfl, _⟩ := h
  rfl
abbrev S__law_is_ratio : Stmt := top 11
abbrev N__law_is_ratio : List Str := ["_law_thing_here", "_law_part_here"]
theorem sc__law_is_ratio : FnScope N__law_is_ratio ["_law_thing_here"] (defScope S__law_is_ratio) := ⟨rfl, rfl, rfl, by decide +kernel, rfl, by decide +kernel, by decide +kernel⟩
theorem ok__law_is_ratio {P : Program} {w : World} {K : PySem.W.Frag} {mg : Str → Option Value} {base : Heap} {f : Addr} {fd : FuncData} (F : Fun K "_law_is_ratio" "_law_is_ratio" S__law_is_ratio f fd) {f__law_part : Addr} {fd__law_part : FuncData} (C__law_part : Cal P w K mg base "_law_part" 1 f__law_part fd__law_part ["_law_one", "_law_other"] (sp__law_part K)) (m_all : mg "all" = none) (m_isinstance : mg "isinstance" = none) (m_bool : mg "bool" = none) (m_int : mg "int" = none) (m_len : mg "len" = none) (m_tuple : mg "tuple" = none) :
    FnG P w K mg base CX0 2 f fd ["_law_thing_here"] (sp__law_is_ratio K) := by
  refine Fun_okG F sc__law_is_ratio (ar__law_is_ratio K) (fun cdv A outer s H vs Q E hg hr h => ?_)
  obtain ⟨v, c, b, rfl, hb, th, q⟩ := h
  refine ⟨_, (pss_cons (ps_if (PW.pt (pw_or (pt_not (pt_val (pe_callB (id := "isinstance") (isiK (K := K) rfl) (by rfl) m_isinstance (by decide +kernel) (pa_cons (pv 0) (pa_cons (pe_bltn (v := V.ty "tuple") (u := Value.type "tuple") (by rfl) m_tuple (by decide +kernel) rfl) pa_nil))))) (pw_or1 (pt_cmpR op_ne (pe_callB (id := "len") (lenK (K := K) rfl) (by rfl) m_len (by decide +kernel) (pa_cons (pv 0) pa_nil)) pe_int (nomark _))))) (pss_one (ps_ret pe_bl)) pss_nil)
    (pss_cons (ps_if (pt_not (pt_val (pe_callB (id := "all") (allK (K := K) rfl rfl) (by rfl) m_all (by decide +kernel) (pa_cons (pe_lc (own := [("_law_part_here", 1)]) rfl sc__law_is_ratio.nd (piT (K := K) rfl (pv 0)) (blkOk_by (own := [("_law_part_here", 1)]) (N := N__law_is_ratio) (sc := defScope S__law_is_ratio) (by decide +kernel)) (fun _ _ _ _ _ => (pg_name (i := 1) sc__law_is_ratio.nd rfl (Or.inl rfl))) (fun _ _ _ _ _ => pts_nil) (fun _ _ _ _ _ => (pe_and (pe_callB (id := "isinstance") (isiK (K := K) rfl) (by rfl) m_isinstance (by decide +kernel) (pa_cons (pv 1) (pa_cons (pe_bltn (v := V.ty "int") (u := Value.type "int") (by rfl) m_int (by decide +kernel) rfl) pa_nil))) (pe_one (pe_not (pe_callB (id := "isinstance") (isiK (K := K) rfl) (by rfl) m_isinstance (by decide +kernel) (pa_cons (pv 1) (pa_cons (pe_bltn (v := V.ty "bool") (u := Value.type "bool") (by rfl) m_bool (by decide +kernel) rfl) pa_nil)))))))) pa_nil)))) (pss_one (ps_ret pe_bl)) pss_nil)
    (pss_one (ps_ret (pe_and (pe_cmpR op_gt (pe_ix (ixK (K := K) rfl) (pv 0) pe_int (fun _ _ => rfl)) pe_int (nomark _)) (pe_one (pe_cmpR op_eq (pe_c C__law_part hg (hr.mono (by decide)) rfl (pa_cons (pe_ix (ixK (K := K) rfl) (pv 0) pe_int (fun _ _ => rfl)) (pa_cons (pe_ix (ixK (K := K) rfl) (pv 0) pe_int (fun _ _ => rfl)) pa_nil))) pe_int (nomark _)))))))), ?_⟩
  cases th with
  | @yes a x y h =>
    walk_at "rd_2"
    refine iteF ?_
    walk_at "rd_2"
    refine iteF ?_
    walk_at "rd_2"
    intro D nD
    refine lc_mapT (fun v => .bl (isI v)) h (Nat.le_of_ble_eq_true rfl) nD (fun v hv l R r => ?_) ?_
    · simp only [List.mem_cons, List.not_mem_nil, or_false] at hv
      rcases hv with rfl | rfl
      all_goals walk_at "rd_2"
      all_goals refine iteT ?_
      all_goals walk_at "rd_2"
      all_goals exact r
    · walk_at "rd_2"
      refine rd_all (bs := [true, true]) (SqL.of upd_same) ?_
      walk_at "rd_2"
      refine iteF ?_
      walk_at "rd_2"
      have sD : Same H (upd H D (.lst [.bl true, .bl true])) := same_new nD
      refine rd_if (fun c => ?_) (fun c => ?_)
      · walk_at "rd_2"
        refine ⟨x, y, rfl, ?_⟩
        walk_at "rd_2"
        have e : (decide (((Int.gcd x y : Nat) : Int) = 1)) = (decide (0 < y) && decide (Int.gcd x y = 1)) := by
          rw [decide_eq_true c, Bool.true_and]
          exact decide_eq_decide.mpr (by omega)
        rw [e]
        exact q _ sD
      · rw [decide_eq_false c, Bool.false_and] at q
        exact q _ sD
  | @len a xs h n =>
    walk_at "rd_2"
    refine iteF ?_
    walk_at "rd_2"
    rw [decide_eq_false (show ¬ (xs.length : Int) = 2 by omega)]
    refine iteT ?_
    walk_at "rd_2"
    exact q _ (Same.refl H)
  | @one a u w h k l =>
    walk_at "rd_2"
    refine iteF ?_
    walk_at "rd_2"
    refine iteF ?_
    walk_at "rd_2"
    intro D nD
    have sD : ∀ l, Same H (upd H D (.lst l)) := fun l => same_new nD
    refine lc_mapT (fun v => .bl (isI v)) h (Nat.le_of_ble_eq_true rfl) nD (fun v hv l R r => ?_) ?_
    · have pv' : Pt b H v := by
        simp only [List.mem_cons, List.not_mem_nil, or_false] at hv
        rcases hv with rfl | rfl
        · exact .odd k
        · assumption
      have pv := pv'.mono (Stay.new (o := .lst l) nD)
      exact part_int rfl pv r
    · walk_at "rd_2"
      refine rd_all (bs := [isI u, isI w]) (SqL.of upd_same) ?_
      rw [show ([isI u, isI w].all id) = false by simp [k.isI]]
      walk_at "rd_2"
      refine iteT ?_
      walk_at "rd_2"
      exact q _ (sD _)
  | @two a x w h k =>
    walk_at "rd_2"
    refine iteF ?_
    walk_at "rd_2"
    refine iteF ?_
    walk_at "rd_2"
    intro D nD
    have sD : ∀ l, Same H (upd H D (.lst l)) := fun l => same_new nD
    refine lc_mapT (fun v => .bl (isI v)) h (Nat.le_of_ble_eq_true rfl) nD (fun v hv l R r => ?_) ?_
    · have pv' : Pt b H v := by
        simp only [List.mem_cons, List.not_mem_nil, or_false] at hv
        rcases hv with rfl | rfl
        · exact .int _
        · exact .odd k
      have pv := pv'.mono (Stay.new (o := .lst l) nD)
      exact part_int rfl pv r
    · walk_at "rd_2"
      refine rd_all (bs := [true, isI w]) (SqL.of upd_same) ?_
      rw [show ([true, isI w].all id) = false by simp [k.isI]]
      walk_at "rd_2"
      refine iteT ?_
      walk_at "rd_2"
      exact q _ (sD _)
  | non =>
    walk_at "rd_2"
    refine iteT ?_
    refine iteT ?_
    walk_at "rd_2"
    exact q _ (Same.refl H)
  | bl k =>
    walk_at "rd_2"
    refine iteT ?_
    refine iteT ?_
    walk_at "rd_2"
    exact q _ (Same.refl H)
  | str z =>
    walk_at "rd_2"
    refine iteT ?_
    refine iteT ?_
    walk_at "rd_2"
    exact q _ (Same.refl H)
  | int i =>
    walk_at "rd_2"
    refine iteT ?_
    refine iteT ?_
    walk_at "rd_2"
    exact q _ (Same.refl H)
  | @lst a xs n h =>
    walk_at "rd_2"
    refine iteT ?_
    refine iteT ?_
    walk_at "rd_2"
    exact q _ (Same.refl H)

def sp__law_thing (K : PySem.W.Frag) : Sp := fun vs H Q _ => ∃ b, vs = [.ref b] ∧ Bag b H ∧ ∀ v J, (∃ c, Thg b J v c) → Stay b H J → (∀ a xs, Scr K H a xs → Scr K J a xs) → Bag b J → Q v J
theorem ar__law_thing (K : PySem.W.Frag) : ∀ vs H Q E, sp__law_thing K vs H Q E → vs.length = 1 := by
  intro vs H Q E h
  obtain ⟨b, rfl, _⟩ := h
  rfl
abbrev S__law_thing : Stmt := top 12
abbrev N__law_thing : List Str := ["_law_bag_here", "_law_top", "_law_under", "_law_odd_here", "_law_factor", "_law_near", "_law_some"]
theorem sc__law_thing : FnScope N__law_thing ["_law_bag_here"] (defScope S__law_thing) := ⟨rfl, rfl, rfl, by decide +kernel, rfl, by decide +kernel, by decide +kernel⟩
theorem ok__law_thing {P : Program} {w : World} {K : PySem.W.Frag} {mg : Str → Option Value} {base : Heap} {f : Addr} {fd : FuncData} (F : Fun K "_law_thing" "_law_thing" S__law_thing f fd) {f__law_take : Addr} {fd__law_take : FuncData} (C__law_take : Cal P w K mg base "_law_take" 1 f__law_take fd__law_take ["_law_bag_here", "_law_size"] (sp__law_take K)) {f__law_lowest : Addr} {fd__law_lowest : FuncData} (C__law_lowest : Cal P w K mg base "_law_lowest" 2 f__law_lowest fd__law_lowest ["_law_top", "_law_under"] (sp__law_lowest K)) {f__law_odd : Addr} {fd__law_odd : FuncData} (C__law_odd : Cal P w K mg base "_law_odd" 2 f__law_odd fd__law_odd ["_law_bag_here"] (sp__law_odd K)) {f__law_integer : Addr} {fd__law_integer : FuncData} (C__law_integer : Cal P w K mg base "_law_integer" 2 f__law_integer fd__law_integer ["_law_bag_here"] (sp__law_integer K)) (m_abs : mg "abs" = none) :
    FnG P w K mg base CX0 3 f fd ["_law_bag_here"] (sp__law_thing K) := by
  refine Fun_okG F sc__law_thing (ar__law_thing K) (fun cdv A outer s H vs Q E hg hr h => ?_)
  obtain ⟨b, rfl, hb, q⟩ := h
  refine ⟨_, (pss_cons (ps_par (i := 1) (j := 2) rfl sc__law_thing.nd rfl rfl (by decide) rfl rfl (pa_cons (pe_c C__law_integer hg (hr.mono (by decide)) rfl (pa_cons (pv 0) pa_nil)) (pa_cons (pe_c C__law_integer hg (hr.mono (by decide)) rfl (pa_cons (pv 0) pa_nil)) pa_nil)) (by rfl))
    (pss_cons (ps_par (i := 3) (j := 4) rfl sc__law_thing.nd rfl rfl (by decide) rfl rfl (pa_cons (pe_c C__law_odd hg (hr.mono (by decide)) rfl (pa_cons (pv 0) pa_nil)) (pa_cons (pe_op op_add pe_int (pe_c C__law_take hg (hr.mono (by decide)) rfl (pa_cons (pv 0) (pa_cons pe_int pa_nil)))) pa_nil)) (by rfl))
    (pss_cons (ps_set (i := 5) sc__law_thing.nd rfl (Or.inl rfl) (pe_op op_add (pe_callB (id := "abs") call_abs (by rfl) m_abs (by decide +kernel) (pa_cons (pv 2) pa_nil)) pe_int))
    (pss_cons (ps_set (i := 6) sc__law_thing.nd rfl (Or.inl rfl) (pe_lst (pa_cons (pe_tup (pa_cons (pv 1) (pa_cons (pv 2) pa_nil))) (pa_cons (pe_tup (pa_cons (pv 1) (pa_cons (pv 5) pa_nil))) pa_nil))))
    (pss_cons (ps_expr (pe_bm PySem.F.plainAttrs_list PySem.F.slot_list_append PySem.F.type_list_append mt_append (pv 6) (pa_cons (pe_c C__law_lowest hg (hr.mono (by decide)) rfl (pa_cons (pv 1) (pa_cons (pv 5) pa_nil))) pa_nil)))
    (pss_cons (ps_set (i := 6) sc__law_thing.nd rfl (Or.inl rfl) (pe_op op_cat (pv 6) (pe_lst (pa_cons (pe_tup (pa_cons (pv 3) (pa_cons (pv 2) pa_nil))) (pa_cons (pe_tup (pa_cons (pv 1) (pa_cons (pv 3) pa_nil))) pa_nil)))))
    (pss_cons (ps_set (i := 6) sc__law_thing.nd rfl (Or.inl rfl) (pe_op op_cat (pv 6) (pe_lst (pa_cons (pe_tup (pa_cons pe_int (pa_cons (pv 4) pa_nil))) (pa_cons (pe_tup (pa_cons (pv 4) (pa_cons (pv 4) pa_nil))) (pa_cons (pe_tup (pa_cons (pe_op op_ml (pv 1) (pv 4)) (pa_cons (pv 4) pa_nil))) pa_nil))))))
    (pss_cons (ps_set (i := 6) sc__law_thing.nd rfl (Or.inl rfl) (pe_op op_cat (pv 6) (pe_lst (pa_cons (pe_lst (pa_cons (pv 1) (pa_cons pe_int pa_nil))) (pa_cons (pe_tup (pa_cons (pv 1) (pa_cons pe_int (pa_cons pe_int pa_nil)))) (pa_cons (pe_tup (pa_cons (pv 1) pa_nil)) (pa_cons (pv 3) pa_nil)))))))
    (pss_cons (ps_set (i := 6) sc__law_thing.nd rfl (Or.inl rfl) (pe_op op_cat (pv 6) (pe_lst (pa_cons (pe_tup (pa_cons (pv 1) (pa_cons pe_int pa_nil))) (pa_cons (pe_tup (pa_cons (pv 1) (pa_cons (pe_un un_neg pe_int) pa_nil))) (pa_cons (pe_tup (pa_cons pe_bl (pa_cons pe_int pa_nil))) (pa_cons (pe_tup (pa_cons pe_int (pa_cons pe_bl pa_nil))) (pa_cons (pe_tup (pa_cons pe_int (pa_cons pe_int pa_nil))) (pa_cons (pe_tup (pa_cons (pv 1) (pa_cons pe_int pa_nil))) pa_nil)))))))))
    (pss_one (ps_ret (pe_ix (ixK (K := K) rfl) (pv 6) (pe_c C__law_take hg (hr.mono (by decide)) rfl (pa_cons (pv 0) (pa_cons pe_int pa_nil))) (fun _ _ => rfl))))))))))))), ?_⟩
  walk_at "rd_2"
  refine ⟨b, rfl, hb, fun t J1 bt k1 g1 => ?_⟩
  walk_at "rd_2"
  refine ⟨b, rfl, g1, fun u J2 bu k2 g2 => ?_⟩
  walk_at "rd_2"
  refine ⟨b, rfl, g2, fun o J3 po to k3 g3 => ?_⟩
  obtain ⟨c, to⟩ := to
  walk_at "rd_2"
  refine ⟨b, 12, rfl, by walk_at "hp_2", by decide, by decide, fun f J4 f0 f1 k4 g4 => ?_⟩
  walk_at "rd_2"
  refine ⟨_, _, rfl, by split <;> omega, ?_, fun x y z5 J5 low n5 s5 e5 => ?_⟩
  · unfold Bd at *
    split <;> omega
  have l0 := low.1
  have lg := low.2.1
  walk_at "rd_2"
  refine ⟨b, 18, rfl, by walk_at "hp_2", by decide, by decide, fun r J9 r0 r1 k9 g9 => ?_⟩
  have st : Stay b J3 J9 := by walk_at "stay_2"
  have po9 := po.mono st
  have to9 : ∃ c, Thg b J9 o c := ⟨c, to.mono st⟩
  have sh : Stay b H J9 := by walk_at "stay_2"
  have sc : ∀ a xs, Scr K H a xs → Scr K J9 a xs := by
    intro a xs h
    walk_at "hp_2"
  refine rd_pick (xs := ?xs) ?h r0 ?l fun v hv => ?_
  case h => walk_at "hp_2"
  case l => exact r1
  simp only [List.mem_append, List.mem_cons, List.not_mem_nil, or_false, or_assoc] at hv
  rcases hv with rfl | rfl | rfl | rfl | rfl | rfl | rfl | rfl | rfl | rfl | rfl | rfl | rfl | rfl | rfl | rfl | rfl | rfl
  all_goals refine q _ _ ?_ sh sc g9
  all_goals first | assumption | walk_at "thg_2"

local macro_rules | `(tactic| walk_at "stay_2") => `(tactic| (first
  | exact Stay.refl
  | assumption
  | ((refine Stay.trans (J := ?m) ?a ?b); (case b => first | exact Stay.same (by assumption) | exact Stay.pu (by assumption) | exact Stay.kp (by assumption) (by walk_at "hp_2")); (case a => walk_at "stay_2"))))
def sp_law (K : PySem.W.Frag) : Sp := fun vs H Q _ => ∃ (a : Addr) (ns : List Int), vs = [.ref a] ∧ Scr K H a (ns.map V.int) ∧ ns.length ≤ 63 ∧ ∀ H', Q (.bl true) H'
theorem ar_law (K : PySem.W.Frag) : ∀ vs H Q E, sp_law K vs H Q E → vs.length = 1 := by
  intro vs H Q E h
  obtain ⟨a, ns, rfl, _⟩ := h
  rfl
abbrev S_law : Stmt := top 13
abbrev N_law : List Str := ["_law_script", "_law_k", "_law_bag_here", "_law_turn", "_law_thing_here", "_law_again"]
theorem sc_law : FnScope N_law ["_law_script"] (defScope S_law) := ⟨rfl, rfl, rfl, by decide +kernel, rfl, by decide +kernel, by decide +kernel⟩
theorem ok_law {P : Program} {w : World} {K : PySem.W.Frag} {mg : Str → Option Value} {base : Heap} {f : Addr} {fd : FuncData} (F : Fun K "law" "law" S_law f fd) {f_is_ratio : Addr} {fd_is_ratio : FuncData} (C_is_ratio : Cal P w K mg base "is_ratio" 2 f_is_ratio fd_is_ratio ["thing"] (sp_is_ratio K)) {f__law_is_ratio : Addr} {fd__law_is_ratio : FuncData} (C__law_is_ratio : Cal P w K mg base "_law_is_ratio" 2 f__law_is_ratio fd__law_is_ratio ["_law_thing_here"] (sp__law_is_ratio K)) {f__law_thing : Addr} {fd__law_thing : FuncData} (C__law_thing : Cal P w K mg base "_law_thing" 3 f__law_thing fd__law_thing ["_law_bag_here"] (sp__law_thing K)) {f__law_bag : Addr} {fd__law_bag : FuncData} (C__law_bag : Cal P w K mg base "_law_bag" 1 f__law_bag fd__law_bag ["_law_script", "_law_at"] (sp__law_bag K)) (m_range : mg "range" = none) (m_max : mg "max" = none) (m_min : mg "min" = none) (m_len : mg "len" = none) (m_isinstance : mg "isinstance" = none) (m_bool : mg "bool" = none) :
    FnG P w K mg base CX0 4 f fd ["_law_script"] (sp_law K) := by
  refine Fun_okG F sc_law (ar_law K) (fun cdv A outer s H vs Q E hg hr h => ?_)
  obtain ⟨a, ns, rfl, hS, hl, q⟩ := h
  refine ⟨_, (pss_cons (ps_for PassesOwn.never rfl (pi_range1 rfl m_range (pa_cons (pe_callB (id := "max") (call_max2 rfl) (by rfl) m_max (by decide +kernel) (pa_cons pe_int (pa_cons (pe_callB (id := "min") (call_min2 rfl) (by rfl) m_min (by decide +kernel) (pa_cons pe_int (pa_cons (pe_callB (id := "len") (lenK (K := K) rfl) (by rfl) m_len (by decide +kernel) (pa_cons (pv 0) pa_nil)) pa_nil))) pa_nil))) pa_nil)) (pg_name (i := 1) sc_law.nd rfl (Or.inl rfl)) (pss_cons (ps_set (i := 2) sc_law.nd rfl (Or.inl rfl) (pe_c C__law_bag hg (hr.mono (by decide)) rfl (pa_cons (pv 0) (pa_cons (pv 1) pa_nil))))
    (pss_one (ps_for PassesOwn.never rfl (pi_range1 rfl m_range (pa_cons pe_int pa_nil)) (pg_name (i := 3) sc_law.nd rfl (Or.inl rfl)) (pss_cons (ps_set (i := 4) sc_law.nd rfl (Or.inr rfl) (pe_c C__law_thing hg (hr.mono (by decide)) rfl (pa_cons (pv 2) pa_nil)))
    (pss_cons (ps_if (pt_cmpR (neK (K := K) rfl (room_u hr)) (pe_lc (own := [("_law_again", 5)]) rfl sc_law.nd (pi_range1 rfl m_range (pa_cons pe_int pa_nil)) (blkOk_by (own := [("_law_again", 5)]) (N := N_law) (sc := defScope S_law) (by decide +kernel)) (fun _ _ _ _ _ => (pg_name (i := 5) sc_law.nd rfl (Or.inl rfl))) (fun _ _ _ _ _ => pts_nil) (fun _ _ _ _ _ => (pe_c C_is_ratio hg (hr.mono (by decide)) rfl (pa_cons (pv 4) pa_nil)))) (pe_op op_rep (pe_lst (pa_cons (pe_c C__law_is_ratio hg (hr.mono (by decide)) rfl (pa_cons (pv 4) pa_nil)) pa_nil)) pe_int) (nomark _)) (pss_one (ps_ret pe_bl)) pss_nil)
    (pss_one (ps_if (pt_not (pt_val (pe_callB (id := "isinstance") (isiK (K := K) rfl) (by rfl) m_isinstance (by decide +kernel) (pa_cons (pe_c C_is_ratio hg (hr.mono (by decide)) rfl (pa_cons (pv 4) pa_nil)) (pa_cons (pe_bltn (v := V.ty "bool") (u := Value.type "bool") (by rfl) m_bool (by decide +kernel) rfl) pa_nil))))) (pss_one (ps_ret pe_bl)) pss_nil))))))))
    (pss_one (ps_ret (pe_and (pe_c C_is_ratio hg (hr.mono (by decide)) rfl (pa_cons (pe_tup (pa_cons pe_int (pa_cons pe_int pa_nil))) pa_nil)) (pe_and (pe_not (pe_c C_is_ratio hg (hr.mono (by decide)) rfl (pa_cons (pe_tup (pa_cons pe_int (pa_cons pe_int pa_nil))) pa_nil))) (pe_one (pe_not (pe_c C_is_ratio hg (hr.mono (by decide)) rfl (pa_cons (pe_tup (pa_cons pe_int (pa_cons (pe_un un_neg pe_int) pa_nil))) pa_nil))))))))), ?_⟩
  walk_at "rd_2"
  refine lp_rng (fun _ σ' H' => Scr K H' a (ns.map V.int) ∧ ∃ o1 o2 o3 o4 o5, σ' = [some (.ref a), o1, o2, o3, o4, o5]) ⟨hS, none, none, none, none, none, rfl⟩ (fun i σ1 H1 hi w => ?_) (fun σ1 H1 w => ?_)
  · obtain ⟨hS1, o1, o2, o3, o4, o5, rfl⟩ := w
    have hi2 : i < 8 ∨ i < 2 := by
      rw [List.length_map] at hi
      split at hi <;> split at hi <;> omega
    walk_at "rd_2"
    refine ⟨a, ns, _, rfl, hS1, hl, by omega, by omega, fun b J0 nb s0 g0 => ?_⟩
    have hS0 : Scr K J0 a (ns.map V.int) := hS1.same s0
    walk_at "rd_2"
    refine lp_rng (fun _ σ' H' => Scr K H' a (ns.map V.int) ∧ Bag b H' ∧ ∃ o3 o4 o5, σ' = [some (.ref a), some (.int (0 + (i : Int))), some (.ref b), o3, o4, o5]) ⟨hS0, g0, o3, o4, o5, rfl⟩ (fun j σ2 H2 hj w => ?_) (fun σ2 H2 w => ?_)
    · obtain ⟨hS2, g2, o3, o4, o5, rfl⟩ := w
      clear hi hi2 hS1 hS0 hj hl s0 g0 hS
      walk_at "rd_2"
      refine ⟨b, rfl, g2, fun v J th st sc g3 => ?_⟩
      obtain ⟨c, th⟩ := th
      have hS3 := sc _ _ hS2
      walk_at "rd_2"
      intro D nD
      refine lc_mapR (fun _ => V.bl c) (by decide) nD (fun i hi l R r => ?_) ?_
      · walk_at "rd_2"
        exact ⟨v, c, rfl, (th.mono (Stay.new nD)).rat, r⟩
      rw [show (List.range (Int.toNat 2)).map (fun _ => V.bl c) = [.bl c, .bl c] from rfl]
      have sD : Same J (upd J D (.lst [.bl c, .bl c])) := same_new nD
      have eD : (upd J D (.lst [.bl c, .bl c])) D = some (.lst [.bl c, .bl c]) := upd_same
      have th4 := th.mono (Stay.same sD)
      have g4 : Bag b (upd J D (.lst [.bl c, .bl c])) := g3.same sD
      have hS4 : Scr K (upd J D (.lst [.bl c, .bl c])) a (ns.map V.int) := hS3.same sD
      generalize upd J D (.lst [.bl c, .bl c]) = J4 at *
      walk_at "rd_2"
      refine ⟨v, c, b, rfl, g4, th4, fun J5 s5 => ?_⟩
      have eD5 : J5 D = some (.lst [.bl c, .bl c]) := s5 _ _ eD
      have th5 := th4.mono (Stay.same s5)
      have g5 : Bag b J5 := g4.same s5
      have hS5 : Scr K J5 a (ns.map V.int) := hS4.same s5
      walk_at "rd_2"
      refine iteF ?_
      walk_at "rd_2"
      refine ⟨v, c, rfl, (th5.mono (by walk_at "stay_2")).rat, ?_⟩
      walk_at "rd_2"
      refine iteF ?_
      walk_at "rd_2"
      exact ⟨by walk_at "hp_2", by walk_at "hp_2", _, _, _, rfl⟩
    · obtain ⟨hS2, g2, o3, o4, o5, rfl⟩ := w
      exact ⟨hS2, _, _, _, _, _, rfl⟩
  · obtain ⟨hS1, o1, o2, o3, o4, o5, rfl⟩ := w
    walk_at "rd_2"
    refine ⟨_, _, rfl, .yes (by assumption), ?_⟩
    rw [show (decide ((0 : Int) < 1) && decide (Int.gcd 0 1 = 1)) = true from by decide]
    walk_at "rd_2"
    refine iteT ?_
    walk_at "rd_2"
    refine ⟨_, _, rfl, .yes (by assumption), ?_⟩
    rw [show (decide ((0 : Int) < 2) && decide (Int.gcd 0 2 = 1)) = false from by decide]
    walk_at "rd_2"
    refine iteT ?_
    walk_at "rd_2"
    refine ⟨_, _, rfl, .yes (by assumption), ?_⟩
    rw [show (decide ((0 : Int) < -1) && decide (Int.gcd 0 (-1) = 1)) = false from by decide]
    walk_at "rd_2"
    exact q _

theorem all_mk {l : PySem.W.OpenLaw} {w : World} {K : PySem.W.Frag} {h : Heap} {mg : Str → Option Value} {fa : Addr} (X : K.In h) (G : h.Ns mainGlobals mg) (hfa : mg "law" = some (.ref fa))
    {f0 : Addr} {od0 an0 : Option Addr} {sl0 : Array (Option Value)} {oc0 kV0 dc0 pm0 cd0 ct0 : Value}
    (a0 : PySem.W.nsIn K mainGlobals "is_int" = some (some (.ref f0))) (l0 : K.lookup f0 = some ⟨oc0, od0, .func (PySem.W.fnOf "is_int" "is_int" (defArgs S_is_int) (defBody S_is_int) (defScope S_is_int) .none kV0 dc0 pm0 an0 cd0 ct0), sl0⟩) (c0 : PySem.W.codeIn K cd0 "is_int" = true) (k0 : PySem.W.keepIn K (.ref f0) = true)
    {f1 : Addr} {od1 an1 : Option Addr} {sl1 : Array (Option Value)} {oc1 kV1 dc1 pm1 cd1 ct1 : Value}
    (a1 : PySem.W.nsIn K mainGlobals "is_ratio" = some (some (.ref f1))) (l1 : K.lookup f1 = some ⟨oc1, od1, .func (PySem.W.fnOf "is_ratio" "is_ratio" (defArgs S_is_ratio) (defBody S_is_ratio) (defScope S_is_ratio) .none kV1 dc1 pm1 an1 cd1 ct1), sl1⟩) (c1 : PySem.W.codeIn K cd1 "is_ratio" = true) (k1 : PySem.W.keepIn K (.ref f1) = true)
    {f2 : Addr} {od2 an2 : Option Addr} {sl2 : Array (Option Value)} {oc2 kV2 dc2 pm2 cd2 ct2 : Value}
    (a2 : PySem.W.nsIn K mainGlobals "_law_bag" = some (some (.ref f2))) (l2 : K.lookup f2 = some ⟨oc2, od2, .func (PySem.W.fnOf "_law_bag" "_law_bag" (defArgs S__law_bag) (defBody S__law_bag) (defScope S__law_bag) .none kV2 dc2 pm2 an2 cd2 ct2), sl2⟩) (c2 : PySem.W.codeIn K cd2 "_law_bag" = true) (k2 : PySem.W.keepIn K (.ref f2) = true)
    {f3 : Addr} {od3 an3 : Option Addr} {sl3 : Array (Option Value)} {oc3 kV3 dc3 pm3 cd3 ct3 : Value}
    (a3 : PySem.W.nsIn K mainGlobals "_law_take" = some (some (.ref f3))) (l3 : K.lookup f3 = some ⟨oc3, od3, .func (PySem.W.fnOf "_law_take" "_law_take" (defArgs S__law_take) (defBody S__law_take) (defScope S__law_take) .none kV3 dc3 pm3 an3 cd3 ct3), sl3⟩) (c3 : PySem.W.codeIn K cd3 "_law_take" = true) (k3 : PySem.W.keepIn K (.ref f3) = true)
    {f4 : Addr} {od4 an4 : Option Addr} {sl4 : Array (Option Value)} {oc4 kV4 dc4 pm4 cd4 ct4 : Value}
    (a4 : PySem.W.nsIn K mainGlobals "_law_part" = some (some (.ref f4))) (l4 : K.lookup f4 = some ⟨oc4, od4, .func (PySem.W.fnOf "_law_part" "_law_part" (defArgs S__law_part) (defBody S__law_part) (defScope S__law_part) .none kV4 dc4 pm4 an4 cd4 ct4), sl4⟩) (c4 : PySem.W.codeIn K cd4 "_law_part" = true) (k4 : PySem.W.keepIn K (.ref f4) = true)
    {f5 : Addr} {od5 an5 : Option Addr} {sl5 : Array (Option Value)} {oc5 kV5 dc5 pm5 cd5 ct5 : Value}
    (a5 : PySem.W.nsIn K mainGlobals "_law_integer" = some (some (.ref f5))) (l5 : K.lookup f5 = some ⟨oc5, od5, .func (PySem.W.fnOf "_law_integer" "_law_integer" (defArgs S__law_integer) (defBody S__law_integer) (defScope S__law_integer) .none kV5 dc5 pm5 an5 cd5 ct5), sl5⟩) (c5 : PySem.W.codeIn K cd5 "_law_integer" = true) (k5 : PySem.W.keepIn K (.ref f5) = true)
    {f6 : Addr} {od6 an6 : Option Addr} {sl6 : Array (Option Value)} {oc6 kV6 dc6 pm6 cd6 ct6 : Value}
    (a6 : PySem.W.nsIn K mainGlobals "_law_lowest" = some (some (.ref f6))) (l6 : K.lookup f6 = some ⟨oc6, od6, .func (PySem.W.fnOf "_law_lowest" "_law_lowest" (defArgs S__law_lowest) (defBody S__law_lowest) (defScope S__law_lowest) .none kV6 dc6 pm6 an6 cd6 ct6), sl6⟩) (c6 : PySem.W.codeIn K cd6 "_law_lowest" = true) (k6 : PySem.W.keepIn K (.ref f6) = true)
    {f7 : Addr} {od7 an7 : Option Addr} {sl7 : Array (Option Value)} {oc7 kV7 dc7 pm7 cd7 ct7 : Value}
    (a7 : PySem.W.nsIn K mainGlobals "_law_odd" = some (some (.ref f7))) (l7 : K.lookup f7 = some ⟨oc7, od7, .func (PySem.W.fnOf "_law_odd" "_law_odd" (defArgs S__law_odd) (defBody S__law_odd) (defScope S__law_odd) .none kV7 dc7 pm7 an7 cd7 ct7), sl7⟩) (c7 : PySem.W.codeIn K cd7 "_law_odd" = true) (k7 : PySem.W.keepIn K (.ref f7) = true)
    {f8 : Addr} {od8 an8 : Option Addr} {sl8 : Array (Option Value)} {oc8 kV8 dc8 pm8 cd8 ct8 : Value}
    (a8 : PySem.W.nsIn K mainGlobals "_law_is_ratio" = some (some (.ref f8))) (l8 : K.lookup f8 = some ⟨oc8, od8, .func (PySem.W.fnOf "_law_is_ratio" "_law_is_ratio" (defArgs S__law_is_ratio) (defBody S__law_is_ratio) (defScope S__law_is_ratio) .none kV8 dc8 pm8 an8 cd8 ct8), sl8⟩) (c8 : PySem.W.codeIn K cd8 "_law_is_ratio" = true) (k8 : PySem.W.keepIn K (.ref f8) = true)
    {f9 : Addr} {od9 an9 : Option Addr} {sl9 : Array (Option Value)} {oc9 kV9 dc9 pm9 cd9 ct9 : Value}
    (a9 : PySem.W.nsIn K mainGlobals "_law_thing" = some (some (.ref f9))) (l9 : K.lookup f9 = some ⟨oc9, od9, .func (PySem.W.fnOf "_law_thing" "_law_thing" (defArgs S__law_thing) (defBody S__law_thing) (defScope S__law_thing) .none kV9 dc9 pm9 an9 cd9 ct9), sl9⟩) (c9 : PySem.W.codeIn K cd9 "_law_thing" = true) (k9 : PySem.W.keepIn K (.ref f9) = true)
    {f10 : Addr} {od10 an10 : Option Addr} {sl10 : Array (Option Value)} {oc10 kV10 dc10 pm10 cd10 ct10 : Value}
    (a10 : PySem.W.nsIn K mainGlobals "law" = some (some (.ref f10))) (l10 : K.lookup f10 = some ⟨oc10, od10, .func (PySem.W.fnOf "law" "law" (defArgs S_law) (defBody S_law) (defScope S_law) .none kV10 dc10 pm10 an10 cd10 ct10), sl10⟩) (c10 : PySem.W.codeIn K cd10 "law" = true) (k10 : PySem.W.keepIn K (.ref f10) = true)
    (g0 : PySem.W.nsIn K mainGlobals "gcd" = some (some (.builtin "math.gcd")))
    (z0 : PySem.W.nsIn K mainGlobals "isinstance" = some none)
    (z1 : PySem.W.nsIn K mainGlobals "bool" = some none)
    (z2 : PySem.W.nsIn K mainGlobals "int" = some none)
    (z3 : PySem.W.nsIn K mainGlobals "len" = some none)
    (z4 : PySem.W.nsIn K mainGlobals "tuple" = some none)
    (z5 : PySem.W.nsIn K mainGlobals "abs" = some none)
    (z6 : PySem.W.nsIn K mainGlobals "all" = some none)
    (z7 : PySem.W.nsIn K mainGlobals "range" = some none)
    (z8 : PySem.W.nsIn K mainGlobals "max" = some none)
    (z9 : PySem.W.nsIn K mainGlobals "min" = some none)
    : ∃ fd : FuncData, (∀ (s : Shared) (v : Value), BindsTo s fd ⟨[v], []⟩ [("_law_script", v)]) ∧ ∀ base : Heap, K.In base → base.Ns mainGlobals mg → FnG l.prog w K mg base CX0 4 fa fd ["_law_script"] (sp_law K) := by
  have e := hfa.symm.trans (PySem.W.mg_of X G a10)
  cases e
  have F0 := fun_mk (st := S_is_int) l0 c0 k0
  have b0 := F0.binds (ps := ["thing"]) fun _ _ _ _ _ _ us hl => match us, hl with | [_], _ => rfl
  have F1 := fun_mk (st := S_is_ratio) l1 c1 k1
  have b1 := F1.binds (ps := ["thing"]) fun _ _ _ _ _ _ us hl => match us, hl with | [_], _ => rfl
  have F2 := fun_mk (st := S__law_bag) l2 c2 k2
  have b2 := F2.binds (ps := ["_law_script", "_law_at"]) fun _ _ _ _ _ _ us hl => match us, hl with | [_, _], _ => rfl
  have F3 := fun_mk (st := S__law_take) l3 c3 k3
  have b3 := F3.binds (ps := ["_law_bag_here", "_law_size"]) fun _ _ _ _ _ _ us hl => match us, hl with | [_, _], _ => rfl
  have F4 := fun_mk (st := S__law_part) l4 c4 k4
  have b4 := F4.binds (ps := ["_law_one", "_law_other"]) fun _ _ _ _ _ _ us hl => match us, hl with | [_, _], _ => rfl
  have F5 := fun_mk (st := S__law_integer) l5 c5 k5
  have b5 := F5.binds (ps := ["_law_bag_here"]) fun _ _ _ _ _ _ us hl => match us, hl with | [_], _ => rfl
  have F6 := fun_mk (st := S__law_lowest) l6 c6 k6
  have b6 := F6.binds (ps := ["_law_top", "_law_under"]) fun _ _ _ _ _ _ us hl => match us, hl with | [_, _], _ => rfl
  have F7 := fun_mk (st := S__law_odd) l7 c7 k7
  have b7 := F7.binds (ps := ["_law_bag_here"]) fun _ _ _ _ _ _ us hl => match us, hl with | [_], _ => rfl
  have F8 := fun_mk (st := S__law_is_ratio) l8 c8 k8
  have b8 := F8.binds (ps := ["_law_thing_here"]) fun _ _ _ _ _ _ us hl => match us, hl with | [_], _ => rfl
  have F9 := fun_mk (st := S__law_thing) l9 c9 k9
  have b9 := F9.binds (ps := ["_law_bag_here"]) fun _ _ _ _ _ _ us hl => match us, hl with | [_], _ => rfl
  have F10 := fun_mk (st := S_law) l10 c10 k10
  have c_gcd := PySem.W.mg_of X G g0
  have m_isinstance := PySem.W.mg_none_of X G z0
  have m_bool := PySem.W.mg_none_of X G z1
  have m_int := PySem.W.mg_none_of X G z2
  have m_len := PySem.W.mg_none_of X G z3
  have m_tuple := PySem.W.mg_none_of X G z4
  have m_abs := PySem.W.mg_none_of X G z5
  have m_all := PySem.W.mg_none_of X G z6
  have m_range := PySem.W.mg_none_of X G z7
  have m_max := PySem.W.mg_none_of X G z8
  have m_min := PySem.W.mg_none_of X G z9
  refine ⟨PySem.W.fnOf "law" "law" (defArgs S_law) (defBody S_law) (defScope S_law) .none kV10 dc10 pm10 an10 cd10 ct10, fun s v => .of_eq rfl, fun base _ _ => ?_⟩
  have C_is_int : Cal l.prog w K mg base "is_int" 1 f0 _ ["thing"] (sp_is_int K) := ⟨ok_is_int F0 m_isinstance m_bool m_int, b0, k0, PySem.W.mg_of X G a0⟩
  have C_is_ratio : Cal l.prog w K mg base "is_ratio" 2 f1 _ ["thing"] (sp_is_ratio K) := ⟨ok_is_ratio F1 C_is_int c_gcd m_len m_isinstance m_tuple, b1, k1, PySem.W.mg_of X G a1⟩
  have C__law_bag : Cal l.prog w K mg base "_law_bag" 1 f2 _ ["_law_script", "_law_at"] (sp__law_bag K) := ⟨ok__law_bag F2 m_abs m_len, b2, k2, PySem.W.mg_of X G a2⟩
  have C__law_take : Cal l.prog w K mg base "_law_take" 1 f3 _ ["_law_bag_here", "_law_size"] (sp__law_take K) := ⟨ok__law_take F3, b3, k3, PySem.W.mg_of X G a3⟩
  have C__law_part : Cal l.prog w K mg base "_law_part" 1 f4 _ ["_law_one", "_law_other"] (sp__law_part K) := ⟨ok__law_part F4 m_abs, b4, k4, PySem.W.mg_of X G a4⟩
  have C__law_integer : Cal l.prog w K mg base "_law_integer" 2 f5 _ ["_law_bag_here"] (sp__law_integer K) := ⟨ok__law_integer F5 C__law_take, b5, k5, PySem.W.mg_of X G a5⟩
  have C__law_lowest : Cal l.prog w K mg base "_law_lowest" 2 f6 _ ["_law_top", "_law_under"] (sp__law_lowest K) := ⟨ok__law_lowest F6 C__law_part, b6, k6, PySem.W.mg_of X G a6⟩
  have C__law_odd : Cal l.prog w K mg base "_law_odd" 2 f7 _ ["_law_bag_here"] (sp__law_odd K) := ⟨ok__law_odd F7 C__law_take, b7, k7, PySem.W.mg_of X G a7⟩
  have C__law_is_ratio : Cal l.prog w K mg base "_law_is_ratio" 2 f8 _ ["_law_thing_here"] (sp__law_is_ratio K) := ⟨ok__law_is_ratio F8 C__law_part m_all m_isinstance m_bool m_int m_len m_tuple, b8, k8, PySem.W.mg_of X G a8⟩
  have C__law_thing : Cal l.prog w K mg base "_law_thing" 3 f9 _ ["_law_bag_here"] (sp__law_thing K) := ⟨ok__law_thing F9 C__law_take C__law_lowest C__law_odd C__law_integer m_abs, b9, k9, PySem.W.mg_of X G a9⟩
  exact ok_law F10 C_is_ratio C__law_is_ratio C__law_thing C__law_bag m_range m_max m_min m_len m_isinstance m_bool
theorem walk {l : PySem.W.OpenLaw} {q : Program} {loose : List Str} {XP : (Str → Option Value) → Heap → Prop} {YP : World → Heap → Prop} {d : DefRec} {K : Params → PySem.W.Frag} (hn : l.most = some 63) (hdf : d.params.defaults = [])
    (hY : ∀ (w : World) (h : Heap), YP w h → (K w.params).In h)
    (F : ∀ (w : World) (mg : Str → Option Value) (fa : Addr) (h : Heap), (K w.params).In h → h.Ns mainGlobals mg → mg d.name = some (.ref fa) →
      ∃ fd : FuncData, (∀ (s : Shared) (u : Value), BindsTo s fd ⟨[u], []⟩ [("_law_script", u)]) ∧ ∀ base : Heap, (K w.params).In base → base.Ns mainGlobals mg → FnG l.prog w (K w.params) mg base CX0 4 fa fd ["_law_script"] (sp_law (K w.params))) :
    PySem.W.WalkO q loose XP YP l.row.toRowW d [] (fun f vs => PySem.call f vs) :=
  walk_g (n := 63) (k := 4) (x := "_law_script") (CX := fun _ => CX0) (sp := fun w => sp_law (K w.params)) hn (by decide) hdf ⟨rfl, by decide, by decide⟩ hY F (fun _ _ a ns hl _ o hS => ⟨a, ns, rfl, Scr.of o hS, hl, fun _ => rfl⟩) fun _ _ _ _ _ z => z
end Ob
open PySem PySem.W PyProof.Rows
set_option maxRecDepth 100000 in
set_option maxHeartbeats 0 in
theorem PySem.Challenge.cw_onecut_k01_ratios_known_holds : PySem.Challenge.rw_onecut_k01_ratios_known.Holds := by
  w_on; o_law; k_head; (case hw => w_witness2)
  k_fill
  refine Ob.walk (l := PySem.Challenge.rw_onecut_k01_ratios_known) rfl rfl (fun w h Y => PySem.W.kIn_of Y) ?F
  case F =>
    intro w mg fa h KX G hmg
    refine' Ob.all_mk KX G hmg ?a0 ?l0 ?c0 ?k0 ?a1 ?l1 ?c1 ?k1 ?a2 ?l2 ?c2 ?k2 ?a3 ?l3 ?c3 ?k3 ?a4 ?l4 ?c4 ?k4 ?a5 ?l5 ?c5 ?k5 ?a6 ?l6 ?c6 ?k6 ?a7 ?l7 ?c7 ?k7 ?a8 ?l8 ?c8 ?k8 ?a9 ?l9 ?c9 ?k9 ?a10 ?l10 ?c10 ?k10 ?g0 ?z0 ?z1 ?z2 ?z3 ?z4 ?z5 ?z6 ?z7 ?z8 ?z9
    (case a0 => k_is)
    (case l0 => k_is)
    (case c0 => k_is)
    (case k0 => k_is)
    (case a1 => k_is)
    (case l1 => k_is)
    (case c1 => k_is)
    (case k1 => k_is)
    (case a2 => k_is)
    (case l2 => k_is)
    (case c2 => k_is)
    (case k2 => k_is)
    (case a3 => k_is)
    (case l3 => k_is)
    (case c3 => k_is)
    (case k3 => k_is)
    (case a4 => k_is)
    (case l4 => k_is)
    (case c4 => k_is)
    (case k4 => k_is)
    (case a5 => k_is)
    (case l5 => k_is)
    (case c5 => k_is)
    (case k5 => k_is)
    (case a6 => k_is)
    (case l6 => k_is)
    (case c6 => k_is)
    (case k6 => k_is)
    (case a7 => k_is)
    (case l7 => k_is)
    (case c7 => k_is)
    (case k7 => k_is)
    (case a8 => k_is)
    (case l8 => k_is)
    (case c8 => k_is)
    (case k8 => k_is)
    (case a9 => k_is)
    (case l9 => k_is)
    (case c9 => k_is)
    (case k9 => k_is)
    (case a10 => k_is)
    (case l10 => k_is)
    (case c10 => k_is)
    (case k10 => k_is)
    (case g0 => k_is)
    (case z0 => k_is)
    (case z1 => k_is)
    (case z2 => k_is)
    (case z3 => k_is)
    (case z4 => k_is)
    (case z5 => k_is)
    (case z6 => k_is)
    (case z7 => k_is)
    (case z8 => k_is)
    (case z9 => k_is)

