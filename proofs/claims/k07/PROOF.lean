import PyProof.Rows.All
import Wide.All
import OpenK.AllK
import Wide.FinOn
import HandS.ForMost
import HandS.Wide
import HandS.Gcd
import HandS.EndBits
import HandS.IsInst
import HandS.Flow
import HandS.Flt
import HandS.FStrTup
import HandS.Style
import HandS.RaiseMore
import HandS.Rev
import HandS.NoneIn
import KE.DatumOrd
import HandS.SortKw
import HandS.Steps
import HandS.Conv
import KE.GoesMore
import HandS.WideBits
import PySem.Challenge.RW_onecut_k07_sets_of_cuts_known
set_option Elab.async false
set_option linter.all false
set_option maxRecDepth 100000
set_option exponentiation.threshold 10000
set_option maxHeartbeats 4000000
/-! Defs that may show data by repr: a promise that is asked only where nothing is being shown. -/
namespace Ob
open PySem PySem.Spec PyProof.Rows L2
structure FnG (P : Program) (w : World) (K : PySem.W.Frag) (mg : Str → Option Value) (base : Heap) (CX : CXT) (k : Nat) (f : Addr) (fd : FuncData) (ps : List Str) (sp : Sp) : Prop where
  ar : ∀ vs H Q E, sp vs H Q E → vs.length = ps.length
  go : ∀ (A : Around) (outer : List Env) (s : Shared) (H : Hp) (args : Args) (us : List Value) (vs : List V) (Q : VK) (E : XK), A.guards = some [] → Room k A → Env0 P w K mg base A outer s H →
    BindsTo s fd args (ps.zip us) → Vals vs us → sp vs H Q E → codeAny (model P w) A (.call (.ref f) args) (CR CX outer P w H s Q E) s
section
variable {P : Program} {w : World} {K : PySem.W.Frag} {mg : Str → Option Value} {base : Heap} {CX : CXT}
theorem FnG.up {j k : Nat} {f : Addr} {fd : FuncData} {ps : List Str} {sp : Sp} (F : FnG P w K mg base CX j f fd ps sp) (h : j ≤ k) : FnG P w K mg base CX k f fd ps sp :=
  ⟨F.ar, fun A o s H args us vs Q E hg hr => F.go A o s H args us vs Q E hg (hr.mono h)⟩
/-- a def of the text by its body -/
theorem Fun_okG {x qual : Str} {st : Stmt} {f : Addr} {fd : FuncData} {N ps : List Str} {k : Nat} {sp : Sp} (F : Fun K x qual st f fd) (S : FnScope N ps (defScope st)) (ar : ∀ vs H Q E, sp vs H Q E → vs.length = ps.length)
    (body : ∀ (c : Value) (A : Around) (outer : List Env) (s : Shared) (H : Hp) (vs : List V) (Q : VK) (E : XK), A.guards = some [] → Room k (A.deeper (envOfC qual (defScope st) s.heap.objs.size f c)) → sp vs H Q E →
      ∃ t, PSs (cxOf CX P w K mg base N qual (defScope st) f c A outer s H E).nox (defBody st) t ∧ t { nx := fun _ J => Q .non J, rt := Q } (start N vs) H) : FnG P w K mg base CX (k + 1) f fd ps sp := by
  obtain ⟨oc, od, kV, doc, pm, an, c, ct, osl, rfl, look, code⟩ := F.ex
  refine ⟨ar, fun A outer s H args us vs Q E hg hr e0 bnd rv hs => ?_⟩
  have count := ar _ _ _ _ hs
  have kept : ∀ b o, base.get? b = some o → s.heap.get? b = some o := fun b o e => (e0.bs b o e).1
  have inK : K.In s.heap := e0.mod.kin.keeps kept
  refine codeAny_call_function hr.depth (inK _ _ look) rfl S.co S.gen rfl (PySem.W.codeRec_of inK code) (bnd _ _ _ _ ?_)
  refine wpAny_newFunctionEnv_cells S.kind (fun y hy => (S.par y.1 (List.of_mem_zip (show (y.1, y.2) ∈ ps.zip us from hy)).1).imp id fun q => ⟨q, PySem.W.cellsFrom_some _ _ _ (.inl q)⟩) fun env he s1 x => ?_
  subst he
  obtain ⟨t, ht, hq⟩ := body c A outer s H vs Q E hg (hr.deeper _) hs
  have I : Inv (cxOf CX P w K mg base N qual (defScope st) f c A outer s H E) [] (start N vs) H s1 := inv_start S hr.hd e0 count rv x
  refine ⟨(e0.mod.nolimit.keeps kept).keeps x.toInCall.keep, codeAny_func (wpAny_mono (ht.nox.run [] s1 (start N vs) H _ I hq) (fun fl s' z => ?_) fun e s' z => z)⟩
  cases fl with
  | next => exact (let ⟨σ', J, I', q⟩ := z; ⟨V.non, J, I'.os, I'.bare, I'.base, I'.hok, rfl, q⟩)
  | ret u => exact (let ⟨v, σ', J, I', r', q⟩ := z; ⟨v, J, I'.os, I'.bare, I'.base, I'.hok, r', q⟩)
  | brk => exact (let ⟨_, _, _, q⟩ := z; False.elim q)
  | cont => exact (let ⟨_, _, _, q⟩ := z; False.elim q)
end
section
variable {X : Cx} {CX : CXT} {k : Nat} {f : Addr} {fd : FuncData} {ps : List Str} {sp : Sp} {ds : List Value} {dvs : List V} {E : XK}
theorem run_g {pins : List (Addr × Obj)} {σ : L2.St} {H : Hp} {s : Shared} {Q : VK} {us : List Value} {vs : List V} (F : FnG X.prog X.w X.K X.mg X.base CX k f fd ps sp) (hg : X.A.guards = some []) (hr : Room k X.A) (hb : Binds X.K fd ps ds) (hd : Vals dvs ds) (hx : Passes CX X E)
    (I : Inv X pins σ H s) (rv : Vals vs us) (hs : sp (vs ++ dvs) H Q E) : wpAny (model X.prog X.w) X.A (call (.ref f) us) (EP X pins σ Q) X.xe s := by
  have all := rv.append hd
  refine wpAny_call (codeAny_mono (F.go X.A X.stack s H ⟨us, []⟩ (us ++ ds) (vs ++ dvs) Q E hg hr I.env0 (hb s us I.kIn (all.length ▸ F.ar _ _ _ _ hs)) all hs) fun r s' z => ?_)
  match r, z with
  | .error e, z => exact hx pins σ H s e s' I z
  | .ok (.ret u), z => exact I.after z
variable {x : Str} {e : Expr} {es : List Expr} {t : TA} {p pos : Pos}
/-- f(e, ..) -/
theorem pe_g (F : FnG X.prog X.w X.K X.mg X.base CX k f fd ps sp) (hg : X.A.guards = some []) (hr : Room k X.A) (gl : Gl X x) (hm : X.mg x = some (.ref f)) (hk : PySem.W.keepIn X.K (.ref f) = true) (hb : Binds X.K fd ps ds) (hd : Vals dvs ds) (hx : Passes CX X E)
    (ha : PA X (e :: es) t) (hdb : (x == ("__debug__" : Str)) = false := by decide) (he : starEach (e :: es) X.env = (false, eval e X.env) :: starEach es X.env := by rfl) (hpl : (backTo pos (starEach es X.env)).any (·.1) = false := by rfl) :
    PE X (.Call (.Name x p) (e :: es) [] pos) (tCall sp dvs E t) :=
  ⟨fun pins s σ H Q I h => wpAny_Call_Name_kw (ld_glob I gl hm (PySem.W.callWith_K (h₀ := X.base) I.ok.mod.kin hk (thn (ha.run pos pins s σ H _ I h) fun us s1 z => let ⟨vs, J, I1, rv, q⟩ := z; ⟨I1.kIn, run_g F hg hr hb hd hx I1 rv q⟩) he hpl) hdb)⟩
end
/-! ### the law's call -/
section
variable {P : Program} {w : World} {K : PySem.W.Frag} {mg mb : Str → Option Value} {CX : CXT} {k : Nat} {fa a : Addr} {fd : FuncData} {x : Str} {sp : Sp} {s₁ : Shared} {vs : List Value} {ns : List Int}
def LawEnd (s₁ : Shared) : Result → Shared → Prop := fun r s' => r = .ok (.ret (.bool true)) ∧ OldK s₁.heap s'.heap ∧ s'.os = s₁.os ∧ AllBare s'.gens
/-- H tracks at most the script, locked -/
theorem law_at (H : Hp) (inK : K.In s₁.heap) (hns : s₁.heap.Ns mainGlobals mg) (hb : s₁.heap.Ns builtinsNs mb) (hbb : ∀ x : Str, x ≠ "__name__" → mb x = bootBuiltins x) (hlim : s₁.heap.NoLimit) (hg : s₁.gens = #[])
    (ha : s₁.heap.get? a = some { cls := .type "list", data := .seq vs.toArray }) (hr : Room k callerA)
    (F : ∀ base : Heap, K.In base → base.Ns mainGlobals mg → FnG P w K mg base CX k fa fd [x] sp) (hbind : ∀ (s : Shared) (u : Value), BindsTo s fd ⟨[u], []⟩ [(x, u)])
    (hs : sp [.ref a] H (fun v _ => v = .bl true) fun _ _ _ => False) (hCX : ∀ e s', CX [] H s₁ (fun _ _ _ => False) e s' → False)
    (hO : Only H) (ok : HOk P w H s₁.heap) (only : ∀ b, H b ≠ none → b = a) (free : H a ≠ none → K.lookup a = none) : codeAny (model P w) callerA (.call (.ref fa) ⟨[.ref a], []⟩) (LawEnd s₁) s₁ := by
  have out : ∀ {b o}, s₁.heap.get? b = some o → ((H b ≠ none → b = a) → H b ≠ none → False) → (hidT s₁.heap H).get? b = some o := fun {b o} e no => hidT_get e (Classical.byContradiction fun n => no (only b) n)
  have names : ∀ {b m}, s₁.heap.Ns b m → (hidT s₁.heap H).Ns b m := fun {b m} z => let ⟨o, es, ep, e, d, r⟩ := z; ⟨o, es, ep, out e (fun g n => by
    obtain rfl := g n
    cases ha.symm.trans e
    cases d), d, r⟩
  have written : K.In (hidT s₁.heap H) := fun b o e => out (inK b o e) fun g n => by
    obtain rfl := g n
    cases (free n).symm.trans e
  have env : Env0 P w K mg (hidT s₁.heap H) callerA [] s₁ H :=
    ⟨rfl, ⟨written, names hns, ⟨mb, names hb, hbb⟩, let ⟨m, p, q⟩ := hlim; ⟨m, names p, q⟩⟩, fun _ _ e => of_hidT e, Nat.le_of_eq (hidT_size _ _), trivial, (fun _ z => absurd z (by simp [frs])), ok, AllBare.of_eq hg⟩
  refine codeAny_mono ((F _ written (names hns)).go callerA [] s₁ H ⟨[.ref a], []⟩ [.ref a] [.ref a] _ _ rfl hr env (hbind s₁ (.ref a)) (.cons rfl .nil) hs) fun r s' z => ?_
  match r, z with
  | .error e, z => exact (hCX e s' z).elim
  | .ok (.ret u), z =>
    obtain ⟨v, J, os, bare, un, ok', rel, rfl⟩ := z
    obtain rfl : u = Value.bool true := rel
    refine ⟨rfl, OldK.of_keep fun b o e => ?_, os, bare⟩
    rcases hO b with n | ⟨ob, xs, n⟩
    · exact un.keep b o e n (fun z => absurd z (by simp [frs])) (by simp)
    · have h1 := (ok b _ n).1
      cases e.symm.trans h1
      exact (ok' b _ (un.frzs b _ _ n)).1
theorem law_g (inK : K.In s₁.heap) (hns : s₁.heap.Ns mainGlobals mg) (hb : s₁.heap.Ns builtinsNs mb) (hbb : ∀ x : Str, x ≠ "__name__" → mb x = bootBuiltins x) (hlim : s₁.heap.NoLimit) (hg : s₁.gens = #[])
    (ha : s₁.heap.get? a = some { cls := .type "list", data := .seq vs.toArray }) (hi : IntsAre vs ns) (hl : ns.length ≤ sizeLine) (hr : Room k callerA)
    (F : ∀ base : Heap, K.In base → base.Ns mainGlobals mg → FnG P w K mg base CX k fa fd [x] sp) (hbind : ∀ (s : Shared) (u : Value), BindsTo s fd ⟨[u], []⟩ [(x, u)])
    (hs : ∀ H : Hp, Only H → SqL K H a (ns.map V.int) → sp [.ref a] H (fun v _ => v = .bl true) fun _ _ _ => False)
    (hCX : ∀ H e s', CX [] H s₁ (fun _ _ _ => False) e s' → False) : codeAny (model P w) callerA (.call (.ref fa) ⟨[.ref a], []⟩) (LawEnd s₁) s₁ := by
  have rv := vals_ints hi
  have many : vs.length = ns.length := by have := hi.length; omega
  have put : ∀ H : Hp, Only H → SqL K H a (ns.map V.int) → HOk P w H s₁.heap → (∀ b, H b ≠ none → b = a) → (H a ≠ none → K.lookup a = none) → codeAny (model P w) callerA (.call (.ref fa) ⟨[.ref a], []⟩) (LawEnd s₁) s₁ :=
    fun H o q ok g f => law_at H inK hns hb hbb hlim hg ha hr F hbind (hs H o q) (hCX H) o ok g f
  cases kl : K.lookup a with
  | some o =>
    cases ha.symm.trans (inK a o kl)
    exact put (fun _ => none) (fun _ => .inl rfl) (.inr ⟨_, vs.toArray, _, kl, rfl, rfl, rfl, by rw [List.size_toArray, many]; exact hl, by simpa using rv⟩) (fun _ _ z => by cases z) (fun _ z => absurd rfl z) fun z => absurd rfl z
  | none =>
    have at_a : ∀ {b : Addr}, b = a → (fun b => if b = a then some (HO.frz { cls := .type "list", data := .seq vs.toArray } (.lst (ns.map V.int))) else none) b = some (HO.frz { cls := .type "list", data := .seq vs.toArray } (.lst (ns.map V.int))) := fun e => if_pos e
    have off_a : ∀ {b : Addr}, b ≠ a → (fun b => if b = a then some (HO.frz { cls := .type "list", data := .seq vs.toArray } (.lst (ns.map V.int))) else none) b = none := fun e => if_neg e
    refine put _ (fun b => ?_) (.inl (.inr ⟨_, at_a rfl⟩)) (fun b u z => ?_) (fun b z => Classical.byContradiction fun n => z (off_a n)) fun _ => kl
    · by_cases e : b = a
      · exact .inr ⟨_, _, at_a e⟩
      · exact .inl (off_a e)
    · by_cases e : b = a
      · cases (at_a e).symm.trans z
        subst e
        exact ⟨ha, by rw [List.length_map]; exact hl, vs, _, rv, ha⟩
      · cases (off_a e).symm.trans z
end
theorem walk_g {l : PySem.W.OpenLaw} {n k : Nat} {q : Program} {loose : List Str} {XP : (Str → Option Value) → Heap → Prop} {YP : World → Heap → Prop} {d : DefRec} {K : Params → PySem.W.Frag} {CX : World → CXT} {sp : World → Sp} {x : Str}
    (hn : l.most = some n) (hn2 : n ≤ sizeLine) (hdf : d.params.defaults = []) (hr : Room k callerA) (hY : ∀ (w : World) (h : Heap), YP w h → (K w.params).In h)
    (F : ∀ (w : World) (mg : Str → Option Value) (fa : Addr) (h : Heap), (K w.params).In h → h.Ns mainGlobals mg → mg d.name = some (.ref fa) → ∃ fd : FuncData, (∀ (s : Shared) (u : Value), BindsTo s fd ⟨[u], []⟩ [(x, u)]) ∧
      ∀ base : Heap, (K w.params).In base → base.Ns mainGlobals mg → FnG l.prog w (K w.params) mg base (CX w) k fa fd [x] (sp w))
    (hs : ∀ (w : World) (H : Hp) (a : Addr) (ns : List Int), ns.length ≤ n → (∀ z ∈ ns, Builtin.Int.intBits z ≤ 1048576) → Only H → SqL (K w.params) H a (ns.map V.int) → sp w [.ref a] H (fun v _ => v = .bl true) fun _ _ _ => False)
    (hCX : ∀ (w : World) (H : Hp) (s : Shared) (e : Value) (s' : Shared), CX w [] H s (fun _ _ _ => False) e s' → False) : PySem.W.WalkO q loose XP YP l.row.toRowW d [] (fun f vs => PySem.call f vs) :=
  Att.attach_callB hn hdf fun w s₀ s₁ mg mb fa o pm cd doc a vs ns G Y ho hd hcd hmg hobj hints hlen hbits hg =>
    let ⟨_, hb, hF⟩ := F w mg fa _ (hY w _ Y) G.T.g hmg
    law_g (hY w _ Y) G.T.g G.T.b G.T.builtins G.T.nolimit hg hobj hints (Nat.le_trans hlen hn2) hr hF hb (fun H o z => hs w H a ns hlen hbits o z) fun H e s' => hCX w H s₁ e s'
end Ob
namespace Ob
open PySem PySem.Spec PyProof.Rows L2
/-! ### repr of data -/
mutual
def sz : PyData → Nat
  | .none => 4
  | .bool _ => 5
  | .int i => i.natAbs.log2 + 2
  | .str _ => 0
  | .list xs => szs xs + 2
  | .tuple xs => szs xs + 2
  | .dict _ => 0
def szs : List PyData → Nat
  | [] => 0
  | x :: xs => sz x + 2 + szs xs
end
mutual
/-- no texts, no dicts; ints below 1,900 bits -/
def sm : PyData → Bool
  | .none => true
  | .bool _ => true
  | .int i => decide (i.natAbs.log2 < 1900)
  | .str _ => false
  | .list xs => sms xs
  | .tuple xs => sms xs
  | .dict _ => false
def sms : List PyData → Bool
  | [] => true
  | x :: xs => sm x && sms xs
end
theorem list_le (ts : List Str) : (listText ts).length ≤ piled ts + 2 := by
  cases ts with
  | nil => decide +kernel
  | cons t r =>
    have h := textFrom_length_pos r 1 (("[" : Str) ++ (if (0 : Nat) > 0 then ", " else "" : String) ++ t) (Nat.succ_pos 0)
    have e : ((("[" : Str) ++ (if (0 : Nat) > 0 then ", " else "" : String) ++ t)).length = 1 + t.length := by rw [strLen_append, strLen_append] <;> rfl
    have e2 : (listText (t :: r)).length = (textFrom 1 (("[" : Str) ++ (if (0 : Nat) > 0 then ", " else "" : String) ++ t) r).length + 1 := strLen_append _ _
    rw [e2, h, e, piled_cons]
    omega
mutual
theorem shown_le : ∀ d : PyData, sm d = true → d.shown.length ≤ sz d ∧ d.showable = true ∧ d.hasDict = false
  | .none, _ => ⟨by decide +kernel, by simp [PyData.showable], by simp [PyData.hasDict]⟩
  | .bool b, _ => ⟨by cases b <;> decide +kernel, by simp [PyData.showable], by simp [PyData.hasDict]⟩
  | .int i, h => by
    have h1 : i.natAbs.log2 < 1900 := by simpa [sm] using h
    refine ⟨?_, by simp [PyData.showable]; omega, by simp [PyData.hasDict]⟩
    have e := int_text_length_le (a := i) (k := i.natAbs.log2 + 1) (by omega) (by omega)
    have e3 : (PyData.int i).shown = Str.ofString (toString i) := by simp only [PyData.shown]
    rw [e3, PySem.ofString_length, sz]
    omega
  | .str _, h => by simp [sm] at h
  | .dict _, h => by simp [sm] at h
  | .list xs, h => by
    have q := showns_le xs (by simpa [sm] using h)
    refine ⟨?_, by simp [PyData.showable, q.2.1], by simp [PyData.hasDict, q.2.2]⟩
    have e := list_le (PyData.shownAll xs)
    simp only [PyData.shown, sz]
    omega
  | .tuple xs, h => by
    have q := showns_le xs (by simpa [sm] using h)
    refine ⟨?_, by simp [PyData.showable, q.2.1], by simp [PyData.hasDict, q.2.2]⟩
    have e := fmt_text (PyData.shownAll xs)
    simp only [PyData.shown, sz]
    omega
theorem showns_le : ∀ xs : List PyData, sms xs = true → piled (PyData.shownAll xs) ≤ szs xs ∧ PyData.showableAll xs = true ∧ PyData.hasDictAll xs = false
  | [], _ => ⟨Nat.zero_le _, by simp [PyData.showableAll], by simp [PyData.hasDictAll]⟩
  | x :: xs, h => by
    have h2 : sm x = true ∧ sms xs = true := by simpa [sms] using h
    have p := shown_le x h2.1
    have q := showns_le xs h2.2
    refine ⟨?_, by simp [PyData.showableAll, p.2.1, q.2.1], by simp [PyData.hasDictAll, p.2.2, q.2.2]⟩
    have e : PyData.shownAll (x :: xs) = x.shown :: PyData.shownAll xs := by simp only [PyData.shownAll]
    rw [e, piled_cons, szs]
    omega
end
def rRepr (K : PySem.W.Frag) : List V → Hp → VK → Prop := fun xs H Q => ∃ (a : Addr) (d : PyData), xs = [.ref a] ∧ Dp K H (.ref a) d ∧ sm d = true ∧ sz d ≤ 1000000 ∧ d.depth ≤ 50 ∧ Q (.str d.shown) H
section
variable {X : Cx}
theorem cr_repr (hg : X.A.guards = some []) (hu : X.A.units + 64 < cLine) : CallR X (.builtin "repr") (rRepr X.K) := by
  intro pins s σ H xs us Q I r h
  obtain ⟨a, d, rfl, hd, hs, hz, hp, q⟩ := h
  obtain ⟨u, rfl, ru⟩ := vals1 r
  cases ru
  obtain ⟨as, rd⟩ := Dp.reads I d _ _ hd rfl
  obtain ⟨h1, h2, h3⟩ := shown_le d hs
  have hk : ∀ b o, s.heap.get? b = some o → s.heap.get? b = some o := fun _ _ e => e
  refine repr_of_reads' rd h2 (PyData.noDict_hsm h3) hg (by omega) hk (fun h' u tk k => ⟨.str _, H, I.kept k, ⟨_, rfl⟩, q⟩) (Nat.le_trans h1 (Nat.le_trans hz (by decide)))
/-- // by any number but 0 below 2 ^ 9000 -/
def CDv (_ j : Int) : Prop := j ≠ 0 ∧ j.natAbs < 2 ^ 9000
theorem op_dv : OpR X (binaryOp .FloorDiv) (rI CDv fun i j => .int (i.fdiv j)) := opI fun _ _ _ _ _ _ _ hc q => floordiv_int hc.1 q (.inl (PyProof.noPylong_of_log2 (PySem.Flt.log2_lt_of (by decide) hc.2)))
end
/-! ### bounds by powers of two -/
def Bd (n : Nat) (x : Int) : Prop := x.natAbs < 2 ^ n
theorem Bd.mono {m n : Nat} {x : Int} (h : Bd m x) (k : m ≤ n) : Bd n x := Nat.lt_of_lt_of_le h (Nat.pow_le_pow_right (by decide) k)
theorem Bd.mul {m n : Nat} {x y : Int} (h : Bd m x) (k : Bd n y) : Bd (m + n) (x * y) := wide_lt h k
theorem Bd.neg {n : Nat} {x : Int} (h : Bd n x) : Bd n (-x) := by unfold Bd; rw [Int.natAbs_neg]; exact h
theorem Bd.of_neg {n : Nat} {x : Int} (h : Bd n (-x)) : Bd n x := by unfold Bd at h; rw [Int.natAbs_neg] at h; exact h
theorem Bd.add {n : Nat} {x y : Int} (h : Bd n x) (k : Bd n y) : Bd (n + 1) (x + y) := by
  unfold Bd at *
  have e : 2 ^ (n + 1) = 2 ^ n + 2 ^ n := by rw [Nat.pow_succ]; omega
  have := Int.natAbs_add_le x y
  omega
theorem Bd.sub {n : Nat} {x y : Int} (h : Bd n x) (k : Bd n y) : Bd (n + 1) (x - y) := by
  have q := h.add k.neg
  rwa [← Int.sub_eq_add_neg] at q
theorem Bd.log {n : Nat} {x : Int} (h : Bd n x) (h0 : 0 < n := by decide) : x.natAbs.log2 < n := PySem.Flt.log2_lt_of h0 h
theorem Bd.le {n : Nat} {x y : Int} (h : Bd n y) (k : x.natAbs ≤ y.natAbs) : Bd n x := Nat.lt_of_le_of_lt k h
theorem Bd.lit {n : Nat} {x : Int} (h : decide (x.natAbs < 2 ^ n) = true) : Bd n x := by unfold Bd; exact of_decide_eq_true h
theorem Bd.cmul {m n : Nat} {x y : Int} (h : Bd m x) (k : Bd n y) (h0 : 0 < m := by decide) (h1 : 0 < n := by decide) (hs : m + n ≤ 1000000 := by decide) : CMulW x y := wide_mul h k h0 h1 hs
end Ob
namespace Ob
open PySem PySem.Spec PyProof.Rows L2
/-! ### readings, one step each -/
def rLen (K : PySem.W.Frag) : List V → Hp → VK → Prop := fun xs H Q => ∃ p ys, xs = [.ref p] ∧ (SqL K H p ys ∨ SqT K H p ys) ∧ Q (.int ys.length) H
section
variable {K : PySem.W.Frag} {σ : L2.St} {H : Hp} {D : Ends} {te ta tb : TE} {tt uu : TT} {tr : TA} {tl : TA} {Q : VK} {R : Bool → Hp → Prop} {T : List V → Hp → Prop} {v : V} {s1 s2 : TS}
theorem rd_var {i : Nat} (h : σ[i]? = some (some v)) (q : Q v H) : tVar i σ H Q := ⟨v, h, q⟩
theorem rd_c (q : Q v H) : tC v σ H Q := q
theorem rd_nil (q : T [] H) : tNil σ H T := q
theorem rd_cons (q : ta σ H fun x H1 => tl σ H1 fun xs H2 => T (x :: xs) H2) : tCons ta tl σ H T := q
theorem rd_op {r : R2} (q : ta σ H fun x H1 => tb σ H1 fun y H2 => r x y H2 Q) : tOp r ta tb σ H Q := q
theorem rd_un {r : V → Hp → VK → Prop} (q : ta σ H fun x H1 => r x H1 Q) : tUn r ta σ H Q := q
theorem rd_I0 {g : Int → Int → V} {i j : Int} (q : Q (g i j) H) : rI0 g (.int i) (.int j) H Q := ⟨i, j, rfl, rfl, q⟩
theorem rd_I {C : Int → Int → Prop} {g : Int → Int → V} {i j : Int} (c : C i j) (q : Q (g i j) H) : rI C g (.int i) (.int j) H Q := ⟨i, j, rfl, rfl, c, q⟩
theorem rd_U {g : Int → V} {i : Int} (q : Q (g i) H) : rU g (.int i) H Q := ⟨i, rfl, q⟩
theorem rd_eq {x y : V} (h : scal x y = true) (q : Q (.bl (decide (x = y))) H) : rEq x y H Q := ⟨h, q⟩
theorem rd_ne {x y : V} (h : scal x y = true) (q : Q (.bl (!decide (x = y))) H) : rNe x y H Q := ⟨h, q⟩
theorem rd_eqI {i j : Int} (q : Q (.bl (decide (i = j))) H) : rEq (.int i) (.int j) H Q := ⟨rfl, by
  have e : decide (V.int i = V.int j) = decide (i = j) := by
    by_cases h : i = j
    · rw [decide_eq_true h, decide_eq_true (by rw [h])]
    · rw [decide_eq_false h, decide_eq_false fun z => h (V.int.inj z)]
  rw [e]
  exact q⟩
theorem rd_neI {i j : Int} (q : Q (.bl (!decide (i = j))) H) : rNe (.int i) (.int j) H Q := ⟨rfl, by
  have e : decide (V.int i = V.int j) = decide (i = j) := by
    by_cases h : i = j
    · rw [decide_eq_true h, decide_eq_true (by rw [h])]
    · rw [decide_eq_false h, decide_eq_false fun z => h (V.int.inj z)]
  rw [e]
  exact q⟩
theorem rd_same {x : V} (h : scal x x = true) (q : Q (.bl true) H) : rEq x x H Q := ⟨h, by rw [decide_eq_true rfl]; exact q⟩
theorem rd_nsame {x : V} (h : scal x x = true) (q : Q (.bl false) H) : rNe x x H Q := ⟨h, by rw [decide_eq_true rfl]; exact q⟩
theorem rd_test (q : te σ H fun x H' => ∃ k, x = .bl k ∧ R k H') : tTest te σ H R := q
theorem rd_B (q : te σ H fun x H' => ∃ k, x = .bl k ∧ R k H') : tB te σ H R := q
theorem rd_bl {c : Bool} {R : Bool → Prop} (q : R c) : ∃ k, V.bl c = V.bl k ∧ R k := ⟨c, rfl, q⟩
theorem rd_not (q : tt σ H fun c H1 => R (!c) H1) : tNot tt σ H R := q
theorem rd_and (q : tt σ H fun c H1 => if c = true then uu σ H1 R else R false H1) : tAnd tt uu σ H R := q
theorem rd_or (q : tt σ H fun c H1 => if c = true then R true H1 else uu σ H1 R) : tOr tt uu σ H R := q
theorem rd_andV (q : ta σ H fun x H1 => ∃ c, x = .bl c ∧ if c = true then tb σ H1 Q else Q (.bl false) H1) : tAndV ta tb σ H Q := q
theorem rd_orV (q : ta σ H fun x H1 => ∃ c, x = .bl c ∧ if c = true then Q (.bl true) H1 else tb σ H1 Q) : tOrV ta tb σ H Q := q
theorem rd_notV (q : ta σ H fun x H1 => ∃ c, x = .bl c ∧ Q (.bl (!c)) H1) : tNotV ta σ H Q := q
theorem rd_ifE (q : tt σ H fun c H1 => if c = true then ta σ H1 Q else tb σ H1 Q) : tIf tt ta tb σ H Q := q
theorem rd_tup (q : tl σ H fun xs H1 => xs.length ≤ sizeLine ∧ ∀ p, H1 p = none → Q (.ref p) (upd H1 p (.tup xs))) : tTup tl σ H Q := q
theorem rd_lst (q : tl σ H fun xs H1 => xs.length ≤ sizeLine ∧ ∀ p, H1 p = none → Q (.ref p) (upd H1 p (.lst xs))) : tLst tl σ H Q := q
theorem rd_new {xs : List V} {A : Prop} (h : Nat.ble xs.length 1000 = true) (q : A) : xs.length ≤ sizeLine ∧ A := ⟨Nat.le_of_lt (small1000 (Nat.le_of_ble_eq_true h)), q⟩
def kT (Q : VK) (xs : List V) (H : Hp) : Prop := xs.length ≤ sizeLine ∧ ∀ p, H p = none → Q (.ref p) (upd H p (.tup xs))
def kL (Q : VK) (xs : List V) (H : Hp) : Prop := xs.length ≤ sizeLine ∧ ∀ p, H p = none → Q (.ref p) (upd H p (.lst xs))
theorem rd_tupK (q : tl σ H fun xs H1 => kT Q xs H1) : tTup tl σ H Q := q
theorem rd_lstK (q : tl σ H fun xs H1 => kL Q xs H1) : tLst tl σ H Q := q
theorem rd_kT {xs : List V} (h : Nat.ble xs.length 1000 = true) (q : ∀ p J, H p = none → Same H J → J p = some (.tup xs) → Q (.ref p) J) : kT Q xs H :=
  ⟨Nat.le_of_lt (small1000 (Nat.le_of_ble_eq_true h)), fun p np => q p _ np (fun a u e => by rw [upd_ne (ne_of_none e np)]; exact e) upd_same⟩
theorem rd_kL {xs : List V} (h : Nat.ble xs.length 1000 = true) (q : ∀ p J, H p = none → Same H J → J p = some (.lst xs) → Q (.ref p) J) : kL Q xs H :=
  ⟨Nat.le_of_lt (small1000 (Nat.le_of_ble_eq_true h)), fun p np => q p _ np (fun a u e => by rw [upd_ne (ne_of_none e np)]; exact e) upd_same⟩
theorem rd_call {sp : Sp} {dvs : List V} {E : XK} (q : tl σ H fun vs H1 => sp (vs ++ dvs) H1 Q E) : tCall sp dvs E tl σ H Q := q
theorem rd_CB {r : List V → Hp → VK → Prop} (q : tl σ H fun vs H1 => r vs H1 Q) : tCB r tl σ H Q := q
theorem rd_one {i : Int} {R : Int → Prop} (q : R i) : ∃ j, [V.int i] = [V.int j] ∧ R j := ⟨i, rfl, q⟩
theorem rd_two {i j : Int} {R : Int → Int → Prop} (q : R i j) : ∃ k l, [V.int i, V.int j] = [V.int k, V.int l] ∧ R k l := ⟨i, j, rfl, q⟩
theorem rd_int {i : Int} {R : Int → Prop} {S : Bool → Prop} (q : R i) : (∃ j, [V.int i] = [V.int j] ∧ R j) ∨ ∃ k, [V.int i] = [V.bl k] ∧ S k := .inl ⟨i, rfl, q⟩
theorem rd_intB {b : Bool} {R : Int → Prop} {S : Bool → Prop} (q : S b) : (∃ j, [V.bl b] = [V.int j] ∧ R j) ∨ ∃ k, [V.bl b] = [V.bl k] ∧ S k := .inr ⟨b, rfl, q⟩
theorem rd_ixL {p : Addr} {xs : List V} {i : Int} (h : SqL K H p xs) (ha : atI xs i = some v) (q : Q v H) : rIxL K (.ref p) (.int i) H Q := ⟨p, xs, i, v, rfl, rfl, h, ha, q⟩
theorem rd_ixT {p : Addr} {xs : List V} {i : Int} (h : SqT K H p xs) (ha : atI xs i = some v) (q : Q v H) : rIxT K (.ref p) (.int i) H Q := ⟨p, xs, i, v, rfl, rfl, h, ha, q⟩
theorem rd_sxL {p : Addr} {xs : List V} {i : Int} (h : SqL K H p xs) (ha : atI xs i = some v) (q : Q v H) : rIx K (.ref p) (.int i) H Q := .inl ⟨p, xs, i, v, rfl, rfl, h, ha, q⟩
theorem rd_sxT {p : Addr} {xs : List V} {i : Int} (h : SqT K H p xs) (ha : atI xs i = some v) (q : Q v H) : rIx K (.ref p) (.int i) H Q := .inr (.inl ⟨p, xs, i, v, rfl, rfl, h, ha, q⟩)
theorem fmod_rng {x n : Int} (h : 0 < n) : 0 ≤ x.fmod n ∧ x.fmod n < n := by
  rw [Int.fmod_eq_emod_of_nonneg x (by omega)]
  exact ⟨Int.emod_nonneg x (by omega), Int.emod_lt_of_pos x h⟩
/-- a rest of which only the bounds matter -/
theorem rd_md {i j : Int} (c : 0 < j) (q : ∀ r, 0 ≤ r → r < j → Q (.int r) H) : rI (fun _ j => j ≠ 0) (fun i j => V.int (i.fmod j)) (.int i) (.int j) H Q :=
  ⟨i, j, rfl, rfl, by omega, q _ (fmod_rng c).1 (fmod_rng c).2⟩
def Lp (J : It) (g : TG) (tb : TS) (D : Ends) (σ : L2.St) (H : Hp) : Prop := ∃ W : Nat → Nat → L2.St → Hp → Prop, (∃ m, W 0 m σ H) ∧ ∀ i m σ H, W i m σ H →
  (J.stop i H ∧ D.nx σ H) ∨ (J.go i H ∧ ∃ N : L2.St → Hp → Prop, (∀ σ' H', N σ' H' → ∃ m', m' < m ∧ W (i + 1) m' σ' H') ∧ ∀ x H', J.yld i H x H' → g x σ H' fun σ2 H2 => tb { D with nx := N, ct := N, bk := D.nx } σ2 H2)
theorem rd_for1 {ta : TA} {g : TG} {tb : TS} (q : ta σ H fun vs H1 => ∃ j : Int, vs = [.int j] ∧ -(2 ^ 62) ≤ j ∧ j < 2 ^ 62 ∧ Lp (Itr 0 j.toNat) g tb D σ H1) : tFor (iRng1 ta) g tb D σ H := q
theorem rd_for1b {j : Int} {R : Int → Prop} (h : -(2 ^ 62) ≤ j ∧ j < 2 ^ 62) (q : R j) : ∃ k : Int, [V.int j] = [V.int k] ∧ -(2 ^ 62) ≤ k ∧ k < 2 ^ 62 ∧ R k := ⟨j, rfl, h.1, h.2, q⟩
theorem lp_rng {lo : Int} {n : Nat} {g : TG} {tb : TS} (Pv : Nat → L2.St → Hp → Prop) (h0 : Pv 0 σ H) (hs : ∀ i σ H, i < n → Pv i σ H → g (.int (lo + i)) σ H fun σ2 H2 => tb { D with nx := Pv (i + 1), ct := Pv (i + 1), bk := D.nx } σ2 H2)
    (hd : ∀ σ H, Pv n σ H → D.nx σ H) : Lp (Itr lo n) g tb D σ H := for_range Pv h0 hs hd
theorem rd_len {a : Addr} {ys : List V} (h : SqL K H a ys) (q : Q (.int ys.length) H) : rLen K [.ref a] H Q := ⟨a, ys, rfl, .inl h, q⟩
theorem rd_lenTu {a : Addr} {ys : List V} (h : SqT K H a ys) (q : Q (.int ys.length) H) : rLen K [.ref a] H Q := ⟨a, ys, rfl, .inr h, q⟩
theorem rd_lenL {a : Addr} {ys : List V} {R : List V → Prop} (h : SqL K H a ys) (q : R ys) : ∃ p zs, [V.ref a] = [V.ref p] ∧ (SqL K H p zs ∨ SqT K H p zs) ∧ R zs := ⟨a, ys, rfl, .inl h, q⟩
theorem rd_lenT {a : Addr} {ys : List V} {R : List V → Prop} (h : SqT K H a ys) (q : R ys) : ∃ p zs, [V.ref a] = [V.ref p] ∧ (SqL K H p zs ∨ SqT K H p zs) ∧ R zs := ⟨a, ys, rfl, .inr h, q⟩
theorem rd_repr {a : Addr} {d : PyData} (h : Dp K H (.ref a) d) (h1 : sm d = true) (h2 : sz d ≤ 1000000) (h3 : d.depth ≤ 50) (q : Q (.str d.shown) H) : rRepr K [.ref a] H Q := ⟨a, d, rfl, h, h1, h2, h3, q⟩
theorem rd_gtup {a : Addr} {xs : List V} {n : Nat} {t : TGs} {F : L2.St → Hp → Prop} (h : SqT K H a xs) (hn : xs.length = n) (q : t xs σ H F) : gTup K n t (.ref a) σ H F := ⟨a, xs, rfl, h, hn, q⟩
theorem rd_gcons {t : TG} {u : TGs} {w : V} {r : List V} {F : L2.St → Hp → Prop} (q : t w σ H fun σ' H' => u r σ' H' F) : gCons t u (w :: r) σ H F := ⟨w, r, rfl, q⟩
theorem rd_gnil {F : L2.St → Hp → Prop} (q : F σ H) : gNil [] σ H F := ⟨rfl, q⟩
theorem rd_isi {x : V} {n t : String} {b : Bool} (ty : TyX K H x (.type t)) (h : kitB t n = some b) (q : Q (.bl b) H) : rIsi K [x, .ty n] H Q := ⟨x, .ty n, _, _, b, rfl, .ty n, ty, kit_ty h, q⟩
theorem rd_isiI {i : Int} {n : String} {b : Bool} (h : kitB "int" n = some b) (q : Q (.bl b) H) : rIsi K [.int i, .ty n] H Q := rd_isi (.base (.int i)) h q
theorem rd_isiB {i : Bool} {n : String} {b : Bool} (h : kitB "bool" n = some b) (q : Q (.bl b) H) : rIsi K [.bl i, .ty n] H Q := rd_isi (.base (.bl i)) h q
theorem rd_isiN {n : String} {b : Bool} (h : kitB "NoneType" n = some b) (q : Q (.bl b) H) : rIsi K [.non, .ty n] H Q := rd_isi (.base .non) h q
theorem rd_isiS {i : Str} {n : String} {b : Bool} (h : kitB "str" n = some b) (q : Q (.bl b) H) : rIsi K [.str i, .ty n] H Q := rd_isi (.base (.str i)) h q
theorem rd_isiT {a : Addr} {xs : List V} {n : String} {b : Bool} (e : H a = some (.tup xs)) (h : kitB "tuple" n = some b) (q : Q (.bl b) H) : rIsi K [.ref a, .ty n] H Q := rd_isi (.base (.tup e)) h q
theorem rd_isiL {a : Addr} {xs : List V} {n : String} {b : Bool} (e : H a = some (.lst xs)) (h : kitB "list" n = some b) (q : Q (.bl b) H) : rIsi K [.ref a, .ty n] H Q := rd_isi (.base (.lst e)) h q
theorem rd_chain {r r' : R2} {tc : TE} (q : ta σ H fun x H1 => tb σ H1 fun y H2 => r x y H2 fun z H3 => ∃ k, z = .bl k ∧ if k = true then tc σ H3 fun w H4 => r' y w H4 Q else Q (.bl false) H3) : tChain r r' ta tb tc σ H Q := q
theorem rd_eqDs {x y : V} {d : PyData} (h : Dp K H x d) (k : Dp K H y d) (s : SeqAt.shaped d = true) (q : Q (.bl true) H) : rEqD K x y H Q := ⟨d, d, h, k, s, s, by rw [SeqAt.eqv_refl d (SeqAt.canLay_of_shaped s)]; exact q⟩
theorem rd_neDs {x y : V} {d : PyData} (h : Dp K H x d) (k : Dp K H y d) (s : SeqAt.shaped d = true) (q : Q (.bl false) H) : rNeD K x y H Q := ⟨d, d, h, k, s, s, by rw [SeqAt.eqv_refl d (SeqAt.canLay_of_shaped s)]; exact q⟩
theorem rd_cat {l b : Addr} {xs zs : List V} (h : H l = some (.lst xs)) (k : H b = some (.lst zs)) (hz : xs.length + zs.length ≤ 1000) (q : ∀ p, H p = none → Q (.ref p) (upd H p (.lst (xs ++ zs)))) : rCat (.ref l) (.ref b) H Q :=
  ⟨l, b, xs, zs, rfl, rfl, h, k, Nat.le_of_lt (small1000 hz), q⟩
theorem rd_rep {l : Addr} {k : Int} {xs ys : List V} (h : H l = some (.lst xs)) (h0 : 0 ≤ k ∧ k ≤ 1000) (hz : xs.length * k.toNat ≤ 1000) (e : (List.replicate k.toNat xs).flatten = ys) (q : ∀ p, H p = none → Q (.ref p) (upd H p (.lst ys))) : rRep (.ref l) (.int k) H Q := by
  subst e
  exact ⟨l, k, xs, rfl, rfl, h, by omega, by omega, Nat.le_of_lt (small1000 hz), q⟩
theorem rd_append {T : String} {l : Addr} {xs : List V} (h : H l = some (.lst xs)) (q : tl σ H fun vs H1 => rAppend (.ref l) vs H1 Q) : (fun (x : V) (H1 : Hp) => tyV K "list" x H1 ∧ tl σ H1 fun vs H2 => rAppend x vs H2 Q) (.ref l) H := ⟨.inl ⟨rfl, _, SqL.of h⟩, q⟩
theorem rd_BM {T : String} {r : V → List V → Hp → VK → Prop} (q : te σ H fun x H1 => tyV K T x H1 ∧ tl σ H1 fun vs H2 => r x vs H2 Q) : tBM K T r te tl σ H Q := q
theorem rd_tyl {l : Addr} {xs : List V} {A : Prop} (h : H l = some (.lst xs)) (q : A) : tyV K "list" (.ref l) H ∧ A := ⟨.inl ⟨rfl, _, SqL.of h⟩, q⟩
theorem rd_app {l : Addr} {y : V} {xs : List V} (h : H l = some (.lst xs)) (hz : xs.length ≤ 1000) (q : Q .non (upd H l (.lst (xs ++ [y])))) : rAppend (.ref l) [y] H Q := ⟨l, xs, y, rfl, rfl, h, small1000 hz, q⟩
/-- what a comprehension's loop is to reach -/
def Lc (J : It) (g : TG) (tt : TT) (te : TE) (vs : List Nat) (σ : L2.St) (Qd : Hp → Prop) (H1 : Hp) (D : Addr) : Prop := ∃ W : Nat → Nat → Hp → Prop, (∃ m, W 0 m (upd H1 D (.lst []))) ∧ ∀ i m H, W i m H →
  (J.stop i H ∧ Qd H) ∨ (J.go i H ∧ ∃ Nx : Hp → Prop, (∀ H', Nx H' → ∃ m', m' < m ∧ W (i + 1) m' H') ∧ ∀ x H', J.yld i H x H' → g x (wipe σ vs) H' fun σ2 H2 => wipe σ2 vs = wipe σ vs ∧ tt σ2 H2 fun b H3 =>
    if b = true then te σ2 H3 fun y H4 => ∃ acc, H4 D = some (.lst acc) ∧ acc.length < sizeLine ∧ Nx (upd H4 D (.lst (acc ++ [y]))) else Nx H3)
theorem rd_lc {wi : TI} {g : TG} {vs : List Nat} (q : wi σ H fun J H1 => ∀ D, H1 D = none → Lc J g tt te vs σ (fun H' => Q (.ref D) H') H1 D) : tLc wi g tt te vs σ H Q := q
theorem rd_iTup {R : It → Hp → Prop} (q : te σ H fun x H1 => ∃ a, x = .ref a ∧ (∃ xs, SqT K H1 a xs) ∧ R (Itt K a) H1) : iTup K te σ H R := q
theorem rd_iTupA {a : Addr} {xs : List V} {R : Addr → Prop} (h : SqT K H a xs) (q : R a) : ∃ p, V.ref a = .ref p ∧ (∃ xs, SqT K H p xs) ∧ R p := ⟨a, rfl, ⟨xs, h⟩, q⟩
theorem rd_iLst {R : It → Hp → Prop} (q : te σ H fun x H1 => ∃ a, x = .ref a ∧ (∃ xs, SqL K H1 a xs) ∧ R (Itl K a) H1) : iList K te σ H R := q
theorem rd_iLstA {a : Addr} {xs : List V} {R : Addr → Prop} (h : SqL K H a xs) (q : R a) : ∃ p, V.ref a = .ref p ∧ (∃ xs, SqL K H p xs) ∧ R p := ⟨a, rfl, ⟨xs, h⟩, q⟩
theorem rd_iR1 {ta : TA} {R : It → Hp → Prop} (q : ta σ H fun vs H1 => ∃ j : Int, vs = [.int j] ∧ -(2 ^ 62) ≤ j ∧ j < 2 ^ 62 ∧ R (Itr 0 j.toNat) H1) : iRng1 ta σ H R := q
theorem upd_upd {D : Addr} {x y : HO} : upd (upd H D x) D y = upd H D y := by
  funext b
  unfold upd
  split <;> rfl
/-- [f(x) for x in t], t a tuple, f's heap as it was -/
theorem lc_mapT {a D : Addr} {xs : List V} (f : V → V) {i0 : Nat} {Qd : Hp → Prop} (hT : H a = some (.tup xs)) (hl : xs.length ≤ 1000) (hD : H D = none)
    (he : ∀ x, x ∈ xs → ∀ (l : List V) (R : VK), R (f x) (upd H D (.lst l)) → te ((σ.set i0 none).set i0 (some x)) (upd H D (.lst l)) R) (hd : Qd (upd H D (.lst (xs.map f)))) : Lc (Itt K a) (gName i0) tYes te [i0] σ Qd H D := by
  have ne : a ≠ D := ne_of_none hT hD
  refine lc_tup (xs := xs) (fun i J => i ≤ xs.length ∧ J = upd H D (.lst ((xs.take i).map f))) ⟨Nat.zero_le _, by rw [List.take_zero]; rfl⟩ (fun i J _ w => by
    rw [w.2]
    exact SqT.of (by rw [upd_ne ne]; exact hT)) (fun i x J hx w => ?_) fun J w => ?_
  · obtain ⟨hi, rfl⟩ := w
    have lt : i < xs.length := (List.getElem?_eq_some_iff.mp hx).1
    refine ⟨?_, ?_⟩
    · show ((σ.set i0 none).set i0 (some x)).set i0 none = σ.set i0 none
      rw [List.set_set, List.set_set]
    · show te _ _ _
      refine he x (List.mem_of_getElem? hx) _ _ ⟨_, upd_same, ?_, ?_, ?_⟩
      · rw [List.length_map, List.length_take]
        exact small1000 (by omega)
      · omega
      · rw [upd_upd]
        have e : (xs.take (i + 1)).map f = (xs.take i).map f ++ [f x] := by rw [List.take_add_one, hx, List.map_append]; rfl
        rw [e]
  · rw [List.take_length] at w
    rw [w.2]
    exact hd
/-- [f for _ in range(n)] -/
theorem lc_mapR {D : Addr} {n : Nat} (f : Nat → V) {i0 : Nat} {Qd : Hp → Prop} (hl : n ≤ 1000) (hD : H D = none)
    (he : ∀ i, i < n → ∀ (l : List V) (R : VK), R (f i) (upd H D (.lst l)) → te ((σ.set i0 none).set i0 (some (.int (0 + (i : Int))))) (upd H D (.lst l)) R) (hd : Qd (upd H D (.lst ((List.range n).map f)))) : Lc (Itr 0 n) (gName i0) tYes te [i0] σ Qd H D := by
  refine lc_range (fun i J => J = upd H D (.lst ((List.range i).map f))) rfl (fun i J hi w => ?_) fun J w => ?_
  · subst w
    refine ⟨?_, ?_⟩
    · show ((σ.set i0 none).set i0 _).set i0 none = σ.set i0 none
      rw [List.set_set, List.set_set]
    · show te _ _ _
      refine he i hi _ _ ⟨_, upd_same, ?_, ?_⟩
      · rw [List.length_map, List.length_range]
        exact small1000 (by omega)
      · rw [upd_upd, List.range_succ, List.map_append]
        rfl
  · subst w
    exact hd
theorem rd_all {a : Addr} {bs : List Bool} (h : SqL K H a (bs.map V.bl)) (q : Q (.bl (bs.all id)) H) : rAll K [.ref a] H Q := ⟨a, bs, rfl, h, q⟩
theorem rd_any {a : Addr} {bs : List Bool} (h : SqL K H a (bs.map V.bl)) (q : Q (.bl (bs.any id)) H) : rAny K [.ref a] H Q := ⟨a, bs, rfl, h, q⟩
theorem rd_gcd {i j : Int} (q : Q (.int ((Nat.gcd i.natAbs j.natAbs : Nat) : Int)) H) : rGcd [.int i, .int j] H Q := ⟨i, j, rfl, q⟩
theorem rd_seq (q : s1 { D with nx := s2 D } σ H) : tSeq s1 s2 D σ H := q
theorem rd_next (q : D.nx σ H) : tNext D σ H := q
theorem rd_ret (q : te σ H D.rt) : tRet te D σ H := q
theorem rd_drop (q : te σ H fun _ H1 => D.nx σ H1) : tDrop te D σ H := q
theorem rd_asg {g : TG} (q : te σ H fun x H1 => g x σ H1 D.nx) : tAsg te g D σ H := q
theorem rd_name {i : Nat} {F : L2.St → Hp → Prop} {τ : L2.St} (e : σ.set i (some v) = τ) (q : F τ H) : gName i v σ H F := by subst e; exact q
theorem rd_sub {to ti : TE} {t : TSet} {F : L2.St → Hp → Prop} (q : to σ H fun o H1 => ti σ H1 fun i H2 => t o i v H2 fun H3 => F σ H3) : gSub to ti t v σ H F := q
theorem rd_setL {p : Addr} {xs ys : List V} {k : Int} {j : Nat} {F : Hp → Prop} (h : H p = some (.lst xs)) (hj : ixN xs.length k = some j) (e : xs.set j v = ys) (q : F (upd H p (.lst ys))) : rSetL (.ref p) (.int k) v H F := by
  subst e
  exact ⟨p, xs, k, j, rfl, rfl, h, hj, q⟩
theorem rd_ifS (q : tt σ H fun b H1 => if b = true then s1 D σ H1 else s2 D σ H1) : tIfS tt s1 s2 D σ H := q
theorem rd_par {i j : Nat} {x y : V} {τ : L2.St} (e : (σ.set i (some x)).set j (some y) = τ) (q : D.nx τ H) : ∃ v w, [x, y] = [v, w] ∧ D.nx ((σ.set i (some v)).set j (some w)) H := by
  subst e
  exact ⟨x, y, rfl, q⟩
theorem rd_tpar {i j : Nat} (q : tl σ H fun vs H1 => ∃ v w, vs = [v, w] ∧ D.nx ((σ.set i (some v)).set j (some w)) H1) : tPar i j tl D σ H := q
theorem rd_if {P : Prop} [Decidable P] {A B : Prop} (h1 : P → A) (h2 : ¬ P → B) : if decide P = true then A else B := ite2 (fun c => h1 (of_decide_eq_true c)) fun c => h2 fun z => c (decide_eq_true z)
theorem rd_ifn {P : Prop} [Decidable P] {A B : Prop} (h1 : ¬ P → A) (h2 : P → B) : if (!decide P) = true then A else B :=
  ite2 (fun c => h1 (by simpa using c)) fun c => h2 (by simpa using c)
theorem rd_mulok {i j : Int} (h : (-(2 ^ 64) < i ∧ i < 2 ^ 64) ∨ (-(2 ^ 64) < j ∧ j < 2 ^ 64)) : IntMulOk i j := CMul.ok h
theorem rd_mulB {m n : Nat} {i j : Int} (h : Bd m i) (k : Bd n j) (h0 : 0 < m := by decide) (h1 : 0 < n := by decide) (hs : m + n ≤ 1000000 := by decide) : IntMulOk i j := (h.cmul k h0 h1 hs).ok
theorem rd_dvI {j : Int} (i : Int) (h : j ≠ 0) (k : j.natAbs < 2 ^ 400) : CDv i j := ⟨h, Nat.lt_of_lt_of_le k (Nat.pow_le_pow_right (by decide) (by decide))⟩
theorem rd_dvB {n : Nat} {j : Int} (i : Int) (h : j ≠ 0) (k : Bd n j) (hn : n ≤ 9000 := by decide) : CDv i j := ⟨h, k.mono hn⟩
end
section
variable {X : Cx}
theorem op_ml : OpR X (binaryOp .Mult) (rI IntMulOk fun i j => .int (i * j)) := opI fun _ _ _ _ _ _ _ hc q => mul_int q hc
end
structure Cal (P : Program) (w : World) (K : PySem.W.Frag) (mg : Str → Option Value) (base : Heap) (x : Str) (k : Nat) (f : Addr) (fd : FuncData) (ps : List Str) (sp : Sp) : Prop where
  g : FnG P w K mg base CX0 k f fd ps sp
  b : Binds K fd ps []
  kp : PySem.W.keepIn K (.ref f) = true
  m : mg x = some (.ref f)
theorem pe_c {X : Cx} {k : Nat} {f : Addr} {fd : FuncData} {ps : List Str} {sp : Sp} {x : Str} {e : Expr} {es : List Expr} {t : TA} {p pos : Pos} (C : Cal X.prog X.w X.K X.mg X.base x k f fd ps sp) (hg : X.A.guards = some []) (hr : Room k X.A) (gl : Gl X x)
    (ha : PA X (e :: es) t) (hdb : (x == ("__debug__" : Str)) = false := by decide) (he : starEach (e :: es) X.env = (false, eval e X.env) :: starEach es X.env := by rfl) (hpl : (backTo pos (starEach es X.env)).any (·.1) = false := by rfl) :
    PE X (.Call (.Name x p) (e :: es) [] pos) (tCall sp [] E0 t) := pe_g C.g hg hr gl C.m C.kp C.b .nil pass0 ha hdb he hpl
theorem room_u {k : Nat} {A : Around} (h : Room k A) : A.units + 64 < cLine := h.units
section
variable {X : Cx} {K : PySem.W.Frag}
theorem ixK (h : X.K = K) : IxR X (rIx K) := h ▸ ix_seq
theorem lenK (h : X.K = K) : CallR X (.builtin "len") (rLen K) := h ▸ call_len_seq
theorem isiK (h : X.K = K) : CallR X (.builtin "isinstance") (rIsi K) := h ▸ call_isi
theorem reprK (h : X.K = K) (hg : X.A.guards = some []) (hu : X.A.units + 64 < cLine) : CallR X (.builtin "repr") (rRepr K) := h ▸ cr_repr hg hu
theorem allK (h : X.K = K) (hc : X.calm = true) : CallR X (.builtin "all") (rAll K) := h ▸ cr_all hc
theorem anyK (h : X.K = K) (hc : X.calm = true) : CallR X (.builtin "any") (rAny K) := h ▸ cr_any hc
theorem sumK (h : X.K = K) (hc : X.calm = true) : CallR X (.builtin "sum") (rSum K) := h ▸ cr_sum hc
theorem eqK (h : X.K = K) (hu : X.A.units + 64 < cLine) : OpR X (compareOp .Eq) (rEqD K) := h ▸ op_eqD hu
theorem neK (h : X.K = K) (hu : X.A.units + 64 < cLine) : OpR X (compareOp .NotEq) (rNeD K) := h ▸ op_neD hu
theorem inK (h : X.K = K) : OpR X (compareOp .In) (rIn K false) := h ▸ op_in_seq
theorem niK (h : X.K = K) : OpR X (compareOp .NotIn) (rIn K true) := h ▸ op_notIn_seq
theorem slK (h : X.K = K) : SlR X (rSlL K) := h ▸ sl_list
theorem piL (h : X.K = K) {tg l : Expr} {tl : TE} (hl : PE X l tl) : PI X tg l (iList K tl) := h ▸ pi_list hl
theorem piT (h : X.K = K) {tg l : Expr} {tl : TE} (hl : PE X l tl) : PI X tg l (iTup K tl) := h ▸ pi_tup hl
end
/-! ### what stays -/
/-- all but what stands at b stays as it is -/
def Kp (b : Addr) (H J : Hp) : Prop := ∀ a o, a ≠ b → H a = some o → J a = some o
def Bag (b : Addr) (H : Hp) : Prop := ∃ x y : Int, H b = some (.lst [.int x, .int y])
def Scr (K : PySem.W.Frag) (H : Hp) (a : Addr) (xs : List V) : Prop := (∃ o, H a = some (.frz o (.lst xs))) ∨ SqL K (fun _ => none) a xs
section
variable {K : PySem.W.Frag} {H J M : Hp} {a b p : Addr} {xs ys : List V} {o : HO}
theorem Kp.refl : Kp b H H := fun _ _ _ e => e
theorem Kp.trans (h : Kp b H J) (k : Kp b J M) : Kp b H M := fun a o n e => k a o n (h a o n e)
theorem Kp.new (h : H p = none) : Kp b H (upd H p o) := fun a u _ e => by rw [upd_ne (ne_of_none e h)]; exact e
theorem Kp.at : Kp b H (upd H b o) := fun a u n e => by rw [upd_ne n]; exact e
theorem Kp.tup (h : Kp b H J) (g : Bag b H) (e : H a = some (.tup xs)) : J a = some (.tup xs) := h a _ (fun z => by
  obtain ⟨x, y, q⟩ := g
  subst z
  cases e.symm.trans q) e
theorem Kp.lst (h : Kp b H J) (n : a ≠ b) (e : H a = some (.lst xs)) : J a = some (.lst xs) := h a _ n e
theorem Bag.new (g : Bag b H) (h : H p = none) : Bag b (upd H p o) := by
  obtain ⟨x, y, q⟩ := g
  exact ⟨x, y, by rw [upd_ne (ne_of_none q h)]; exact q⟩
theorem Bag.ne (g : Bag b H) (h : H p = none) : p ≠ b := fun z => by
  obtain ⟨x, y, q⟩ := g
  subst z
  cases h.symm.trans q
theorem Bag.off (h : H p = none) (g : Bag b H) : p ≠ b := g.ne h
theorem Kp.free (k : Kp b H J) (g : Bag b J) (h : J p = none) : H p = none := by
  cases e : H p with
  | none => rfl
  | some o => cases h.symm.trans (k p o (g.ne h) e)
theorem set_tup (h : H p = some (.lst ys)) (e : H a = some (.tup xs)) : upd H p o a = some (.tup xs) := by
  rw [upd_ne (fun z => by subst z; cases h.symm.trans e)]
  exact e
theorem set_lst (n : a ≠ p) (e : H a = some (.lst xs)) : upd H p o a = some (.lst xs) := by rw [upd_ne n]; exact e
theorem Bag.put (n : p ≠ b) (g : Bag b H) : Bag b (upd H p o) := by
  obtain ⟨x, y, q⟩ := g
  exact ⟨x, y, by rw [upd_ne (fun z => n z.symm)]; exact q⟩
theorem new_tup (h : H p = none) (e : H a = some (.tup xs)) : upd H p o a = some (.tup xs) := by rw [upd_ne (ne_of_none e h)]; exact e
theorem new_any {u : HO} (h : H p = none) (e : H a = some u) : upd H p o a = some u := by rw [upd_ne (ne_of_none e h)]; exact e
theorem Scr.sq (h : Scr K H a xs) : SqL K H a xs := by
  rcases h with ⟨o, e⟩ | (e | e)
  · exact .inl (.inr ⟨o, e⟩)
  · rcases e with e | ⟨_, e⟩ <;> cases e
  · exact .inr e
theorem Scr.kp (h : Kp b H J) (g : Bag b H) (e : Scr K H a xs) : Scr K J a xs := by
  rcases e with ⟨o, e⟩ | e
  · refine .inl ⟨o, h a _ (fun z => ?_) e⟩
    obtain ⟨x, y, q⟩ := g
    subst z
    cases e.symm.trans q
  · exact .inr e
theorem Scr.new (h : H p = none) (e : Scr K H a xs) : Scr K (upd H p o) a xs := by
  rcases e with ⟨u, e⟩ | e
  · exact .inl ⟨u, new_any h e⟩
  · exact .inr e
theorem Scr.of (o : Only H) (h : SqL K H a xs) : Scr K H a xs := by
  rcases h with (e | e) | e
  · rcases o a with z | ⟨_, _, z⟩
    · cases e.symm.trans z
    · cases e.symm.trans z
  · exact .inl e
  · exact .inr (.inr e)
theorem same_any {u : HO} (h : Same H J) (e : H a = some u) : J a = some u := h a u e
theorem Bag.same (h : Same H J) (g : Bag b H) : Bag b J := by
  obtain ⟨x, y, q⟩ := g
  exact ⟨x, y, h _ _ q⟩
theorem Scr.same (h : Same H J) (e : Scr K H a xs) : Scr K J a xs := by
  rcases e with ⟨o, e⟩ | e
  · exact .inl ⟨o, h _ _ e⟩
  · exact .inr e
theorem rd_pick {K : PySem.W.Frag} {Q : VK} {r : Int} (h : H p = some (.lst xs)) (h0 : 0 ≤ r) (h1 : r < xs.length) (q : ∀ v, v ∈ xs → Q v H) : rIx K (.ref p) (.int r) H Q := by
  have l1 : r.toNat < xs.length := by omega
  have e : r = ((r.toNat : Nat) : Int) := by omega
  have z := atI_nat (xs := xs) (List.getElem?_eq_getElem l1)
  rw [← e] at z
  exact rd_sxL (SqL.of h) z (q _ (List.getElem_mem l1))
/-- a new object is not the bag -/
theorem Bag.nw (np : H p = none) (g : Bag b H) : p ≠ b := g.ne np
theorem same_new (h : H p = none) : Same H (upd H p o) := fun a u e => by rw [upd_ne (ne_of_none e h)]; exact e
/-- the list at l has been changed, all else is as it was -/
def Pu (l : Addr) (H J : Hp) : Prop := Kp l H J ∧ (∃ ys, H l = some (.lst ys)) ∧ ∃ zs, J l = some (.lst zs)
theorem Pu.tup {l : Addr} (k : Pu l H J) (e : H a = some (.tup xs)) : J a = some (.tup xs) := k.1 a _ (fun z => by
  obtain ⟨ys, q⟩ := k.2.1
  subst z
  cases e.symm.trans q) e
theorem Pu.lst {l : Addr} (k : Pu l H J) (n : a ≠ l) (e : H a = some (.lst xs)) : J a = some (.lst xs) := k.1 a _ n e
theorem Pu.bag {l : Addr} (k : Pu l H J) (n : l ≠ b) (g : Bag b H) : Bag b J := by
  obtain ⟨x, y, q⟩ := g
  exact ⟨x, y, k.1 b _ (fun z => n z.symm) q⟩
theorem Pu.scr {K : PySem.W.Frag} {l : Addr} (k : Pu l H J) (e : Scr K H a xs) : Scr K J a xs := by
  rcases e with ⟨o, e⟩ | e
  · refine .inl ⟨o, k.1 a _ (fun z => ?_) e⟩
    obtain ⟨ys, q⟩ := k.2.1
    subst z
    cases e.symm.trans q
  · exact .inr e
theorem rd_appK {Q : VK} {l : Addr} {y : V} (h : H l = some (.lst xs)) (hz : xs.length ≤ 1000) (q : ∀ J, Pu l H J → J l = some (.lst (xs ++ [y])) → Q .non J) : rAppend (.ref l) [y] H Q :=
  ⟨l, xs, y, rfl, rfl, h, small1000 hz, q _ ⟨Kp.at, ⟨_, h⟩, ⟨_, upd_same⟩⟩ upd_same⟩
theorem rd_catK {Q : VK} {l m : Addr} {zs : List V} (h : H l = some (.lst xs)) (k : H m = some (.lst zs)) (hz : xs.length + zs.length ≤ 1000) (q : ∀ p J, H p = none → Same H J → J p = some (.lst (xs ++ zs)) → Q (.ref p) J) : rCat (.ref l) (.ref m) H Q :=
  ⟨l, m, xs, zs, rfl, rfl, h, k, Nat.le_of_lt (small1000 hz), fun p np => q p _ np (same_new np) upd_same⟩
theorem rd_repK {Q : VK} {l : Addr} {k : Int} (h : H l = some (.lst xs)) (h0 : 0 ≤ k ∧ k ≤ 1000) (hz : xs.length * k.toNat ≤ 1000) (e : (List.replicate k.toNat xs).flatten = ys) (q : ∀ p J, H p = none → Same H J → J p = some (.lst ys) → Q (.ref p) J) : rRep (.ref l) (.int k) H Q := by
  subst e
  exact ⟨l, k, xs, rfl, rfl, h, by omega, by omega, Nat.le_of_lt (small1000 hz), fun p np => q p _ np (same_new np) upd_same⟩
theorem Kp.of (h : Same H J) : Kp b H J := fun a o _ e => h a o e
theorem pick {r : Int} (h0 : 0 ≤ r) (h : r < xs.length) : ∃ v, atI xs r = some v ∧ v ∈ xs := by
  have h1 : r.toNat < xs.length := by omega
  have e : r = ((r.toNat : Nat) : Int) := by omega
  have q := atI_nat (xs := xs) (List.getElem?_eq_getElem h1)
  rw [← e] at q
  exact ⟨xs[r.toNat], q, List.getElem_mem h1⟩
theorem pick_int {ns : List Int} {r : Int} (h0 : 0 ≤ r) (h : r < ns.length) : ∃ n, atI (ns.map V.int) r = some (.int n) ∧ n ∈ ns := by
  have h1 : r.toNat < ns.length := by omega
  have e : r = ((r.toNat : Nat) : Int) := by omega
  have q : atI (ns.map V.int) ((r.toNat : Nat) : Int) = some (.int ns[r.toNat]) := atI_nat (by rw [List.getElem?_map, List.getElem?_eq_getElem h1]; rfl)
  rw [← e] at q
  exact ⟨ns[r.toNat], q, List.getElem_mem h1⟩
def msr : L2.St → Nat
  | [_, some (.int y)] => y.natAbs
  | _ => 0
end
/-! ### greatest common divisors, lowest terms -/
theorem gcd_turn {x y : Int} : Int.gcd y (x.fmod y) = Int.gcd x y := by
  rw [Int.fmod_def, Int.gcd_sub_mul_left_right, Int.gcd_comm]
theorem fmod_abs {x y : Int} (h : y ≠ 0) : (x.fmod y).natAbs < y.natAbs := by
  rcases Int.lt_or_gt_of_ne h with h1 | h1
  · have := fmod_rng (x := -x) (n := -y) (by omega)
    rw [Int.neg_fmod_neg] at this
    omega
  · have := fmod_rng (x := x) h1
    omega
theorem natAbs_fdiv_le (u : Int) {v : Int} (h : 0 < v) : (u.fdiv v).natAbs ≤ u.natAbs := by
  rw [Int.fdiv_eq_ediv_of_nonneg u (by omega)]
  exact Int.natAbs_ediv_le_natAbs u v
theorem dvd_gcd1 {x y v : Int} (g : Int.gcd x y = 1) (h : y ∣ x * v) : y ∣ v := by
  have h1 : y.natAbs ∣ x.natAbs * v.natAbs := by rw [← Int.natAbs_mul]; exact Int.natAbs_dvd_natAbs.mpr h
  have g1 : Nat.Coprime y.natAbs x.natAbs := by rw [Nat.coprime_comm]; exact g
  exact Int.natAbs_dvd_natAbs.mp (g1.dvd_of_dvd_mul_left h1)
/-- a ratio in lowest terms is one alone -/
theorem low_one {x y u v : Int} (hy : 0 < y) (hv : 0 < v) (g : Int.gcd x y = 1) (k : Int.gcd u v = 1) (e : x * v = u * y) : x = u ∧ y = v := by
  have d1 : y ∣ v := dvd_gcd1 g ⟨u, by rw [e, Int.mul_comm]⟩
  have d2 : v ∣ y := dvd_gcd1 k ⟨x, by rw [← e, Int.mul_comm]⟩
  have e2 : y = v := Int.dvd_antisymm (by omega) (by omega) d1 d2
  subst e2
  exact ⟨Int.eq_of_mul_eq_mul_right (by omega) e, rfl⟩
def IsLow (t u x y : Int) : Prop := 0 < y ∧ Int.gcd x y = 1 ∧ x * u = t * y ∧ x.natAbs ≤ t.natAbs ∧ y.natAbs ≤ u.natAbs
theorem low_uniq {t u x y t' u' x' y' : Int} (h : IsLow t u x y) (k : IsLow t' u' x' y') (hu : u ≠ 0) (hv : u' ≠ 0) (e : t * u' = t' * u) : x = x' ∧ y = y' := by
  obtain ⟨y0, g, e1, _, _⟩ := h
  obtain ⟨v0, g', e2, _, _⟩ := k
  refine low_one y0 v0 g g' (Int.eq_of_mul_eq_mul_right (Int.mul_ne_zero hu hv) ?_)
  grind
theorem low_self {x y : Int} (y0 : 0 < y) (g : Int.gcd x y = 1) : IsLow x y x y := ⟨y0, g, rfl, Nat.le_refl _, Nat.le_refl _⟩
theorem low_at {t u s : Int} (h : u ≠ 0) (es : s = if u < 0 then -((Int.gcd t u : Nat) : Int) else ((Int.gcd t u : Nat) : Int)) : IsLow t u (t.fdiv s) (u.fdiv s) ∧ s ≠ 0 ∧ s.natAbs ≤ u.natAbs := by
  have g0 : 0 < Int.gcd t u := Int.gcd_pos_of_ne_zero_right t h
  have gu : (Int.gcd t u) ≤ u.natAbs := Int.gcd_le_natAbs_right t (by omega)
  have ns : s.natAbs = Int.gcd t u := by rw [es]; split <;> omega
  have s0 : s ≠ 0 := by omega
  have du : s ∣ u := by rw [← Int.natAbs_dvd, ns]; exact Int.gcd_dvd_right t u
  have dt : s ∣ t := by rw [← Int.natAbs_dvd, ns]; exact Int.gcd_dvd_left t u
  have eu := Int.fdiv_mul_cancel du
  have et := Int.fdiv_mul_cancel dt
  generalize u.fdiv s = y at *
  generalize t.fdiv s = x at *
  refine ⟨⟨?_, ?_, ?_, ?_, ?_⟩, s0, by omega⟩
  · rcases Int.lt_or_gt_of_ne h with n | n
    · have sn : s < 0 := by rw [es, if_pos n]; omega
      by_cases z : 0 < y
      · exact z
      · have z : y ≤ 0 := by omega
        have := Int.mul_nonneg_of_nonpos_of_nonpos z (show s ≤ 0 by omega)
        omega
    · have sp : 0 < s := by rw [es, if_neg (by omega)]; omega
      by_cases z : 0 < y
      · exact z
      · have z : y ≤ 0 := by omega
        have := Int.mul_nonpos_of_nonpos_of_nonneg z (show 0 ≤ s by omega)
        omega
  · have q : Int.gcd t u = s.natAbs * Int.gcd x y := by rw [← et, ← eu, Int.mul_comm x s, Int.mul_comm y s, Int.gcd_mul_left]
    rw [ns] at q
    exact Nat.eq_of_mul_eq_mul_left g0 (by omega)
  · rw [← eu, ← et, Int.mul_assoc, Int.mul_comm s y]
  · rw [← et, Int.natAbs_mul]
    exact Nat.le_mul_of_pos_right _ (by omega)
  · rw [← eu, Int.natAbs_mul]
    exact Nat.le_mul_of_pos_right _ (by omega)
end Ob
namespace Ob
open PySem PySem.Spec PyProof.Rows L2
/-! ### a tuple of the module's own top -/
structure TupC (K : PySem.W.Frag) (mg : Str → Option Value) (x : Str) (z : Addr) (xs : List V) : Prop where
  m : mg x = some (.ref z)
  sq : ∀ H, SqT K H z xs
def TupObj (o : Obj) (xs : List V) : Prop := o.cls = .type "tuple" ∧ ∃ its n, o.data = .seq its n ∧ its.size ≤ sizeLine ∧ Vals xs its.toList
theorem TupC.of {K : PySem.W.Frag} {mg : Str → Option Value} {x : Str} {z : Addr} {xs : List V} {o : Obj} (h : mg x = some (.ref z)) (l : K.lookup z = some o) (t : TupObj o xs) : TupC K mg x z xs :=
  ⟨h, fun _ => let ⟨c, its, n, d, s, v⟩ := t; .inr ⟨o, its, n, l, c, d, s, v⟩⟩
section
variable {K : PySem.W.Frag} {H J : Hp} {a b p l : Addr} {xs ys zs : List V} {o : HO}
theorem sqt_same (s : Same H J) (h : SqT K H a xs) : SqT K J a xs := by
  rcases h with (e | ⟨u, e⟩) | e
  · exact .inl (.inl (s _ _ e))
  · exact .inl (.inr ⟨u, s _ _ e⟩)
  · exact .inr e
theorem sqt_new (n : H p = none) (h : SqT K H a xs) : SqT K (upd H p o) a xs := sqt_same (same_new n) h
theorem sqt_kp (k : Kp b H J) (hb : ∀ e : H b = some (.tup xs), False) (hf : ∀ u, H b = some (.frz u (.tup xs)) → False) (h : SqT K H a xs) : SqT K J a xs := by
  rcases h with (e | ⟨u, e⟩) | e
  · exact .inl (.inl (k _ _ (fun z => by subst z; exact hb e) e))
  · exact .inl (.inr ⟨u, k _ _ (fun z => by subst z; exact hf u e) e⟩)
  · exact .inr e
theorem sqt_lst (k : Kp l H J) (e : H l = some (.lst ys)) (h : SqT K H a xs) : SqT K J a xs := sqt_kp k (fun z => by cases e.symm.trans z) (fun u z => by cases e.symm.trans z) h
theorem sqt_bag (k : Kp b H J) (g : Bag b H) (h : SqT K H a xs) : SqT K J a xs := by
  obtain ⟨x, y, e⟩ := g
  exact sqt_lst k e h
theorem sqt_pu (k : Pu l H J) (h : SqT K H a xs) : SqT K J a xs := by
  obtain ⟨ys, e⟩ := k.2.1
  exact sqt_lst k.1 e h
theorem sqt_fresh (k : Kp l H J) (e : H l = none) (h : SqT K H a xs) : SqT K J a xs := sqt_kp k (fun z => by cases e.symm.trans z) (fun u z => by cases e.symm.trans z) h
theorem tyT (h : SqT K H a xs) : TyX K H (.ref a) (.type "tuple") := by
  rcases h with (e | ⟨u, e⟩) | ⟨o, its, n, l, c, _⟩
  · exact .base (.tup e)
  · exact .fTuple e
  · exact .kTuple l c
theorem rd_isiQ {Q : VK} {n : String} {b : Bool} (e : SqT K H a xs) (h : kitB "tuple" n = some b) (q : Q (.bl b) H) : rIsi K [.ref a, .ty n] H Q := rd_isi (tyT e) h q
variable {σ : L2.St} {te : TE} {D : Addr}
/-- [f(x) for x in xs], xs a list, f's heap as it was -/
theorem lc_mapL (f : V → V) {i0 : Nat} {Qd : Hp → Prop} (hT : H a = some (.lst xs)) (hl : xs.length ≤ 1000) (hD : H D = none)
    (he : ∀ x, x ∈ xs → ∀ (l : List V) (R : VK), R (f x) (upd H D (.lst l)) → te ((σ.set i0 none).set i0 (some x)) (upd H D (.lst l)) R) (hd : Qd (upd H D (.lst (xs.map f)))) : Lc (Itl K a) (gName i0) tYes te [i0] σ Qd H D := by
  have ne : a ≠ D := ne_of_none hT hD
  refine lc_list (xs := xs) (fun i J => i ≤ xs.length ∧ J = upd H D (.lst ((xs.take i).map f))) ⟨Nat.zero_le _, by rw [List.take_zero]; rfl⟩ (fun i J _ w => by
    rw [w.2]
    exact SqL.of (by rw [upd_ne ne]; exact hT)) (fun i x J hx w => ?_) fun J w => ?_
  · obtain ⟨hi, rfl⟩ := w
    have lt : i < xs.length := (List.getElem?_eq_some_iff.mp hx).1
    refine ⟨?_, ?_⟩
    · show ((σ.set i0 none).set i0 (some x)).set i0 none = σ.set i0 none
      rw [List.set_set, List.set_set]
    · show te _ _ _
      refine he x (List.mem_of_getElem? hx) _ _ ⟨_, upd_same, ?_, ?_, ?_⟩
      · rw [List.length_map, List.length_take]
        exact small1000 (by omega)
      · omega
      · rw [upd_upd]
        have e : (xs.take (i + 1)).map f = (xs.take i).map f ++ [f x] := by rw [List.take_add_one, hx, List.map_append]; rfl
        rw [e]
  · rw [List.take_length] at w
    rw [w.2]
    exact hd
theorem zip_take_succ {α β γ : Type} (f : α → β → γ) : ∀ {xs : List α} {ys : List β} {i : Nat} {x : α} {y : β}, xs[i]? = some x → ys[i]? = some y → (List.zipWith f xs ys).take (i + 1) = (List.zipWith f xs ys).take i ++ [f x y] := by
  intro xs ys i x y hx hy
  have e : (List.zipWith f xs ys)[i]? = some (f x y) := by rw [List.getElem?_zipWith, hx, hy]
  rw [List.take_add_one, e]
  rfl
/-- [f(x, y) for x, y in zip(xs, ys)], two lists; f's heap as it was -/
theorem lc_mapZ (f : V → V → V) {i1 i2 n : Nat} {Qd : Hp → Prop} (hn : n = 2) (ha : H a = some (.lst xs)) (hb : H b = some (.lst ys)) (hl : xs.length ≤ 1000) (hD : H D = none)
    (hw : ∀ x y, wipe (((wipe σ [i1, i2]).set i1 (some x)).set i2 (some y)) [i1, i2] = wipe σ [i1, i2])
    (he : ∀ (i : Nat) x y, xs[i]? = some x → ys[i]? = some y → ∀ J, Kp D H J → ∀ R : VK, R (f x y) J → te (((wipe σ [i1, i2]).set i1 (some x)).set i2 (some y)) J R)
    (hd : ∀ J, Kp D H J → J D = some (.lst (List.zipWith f xs ys)) → Qd J) : Lc (Itz K a b) (gTup K n (gCons (gName i1) (gCons (gName i2) gNil))) tYes te [i1, i2] σ Qd H D := by
  subst hn
  have na : a ≠ D := ne_of_none ha hD
  have nb : b ≠ D := ne_of_none hb hD
  have zl : (List.zipWith f xs ys).length = min xs.length ys.length := List.length_zipWith
  let P : Nat → Hp → Prop := fun i J => i ≤ min xs.length ys.length ∧ Kp D H J ∧ J D = some (.lst ((List.zipWith f xs ys).take i))
  refine ⟨fun i m J => m = min xs.length ys.length - i ∧ P i J, ⟨_, rfl, Nat.zero_le _, Kp.new hD, by rw [List.take_zero]; exact upd_same⟩, ?_⟩
  rintro i m J ⟨rfl, hi, k, e⟩
  have qa : SqL K J a xs := SqL.of (k a _ na ha)
  have qb : SqL K J b ys := SqL.of (k b _ nb hb)
  by_cases lt : i < min xs.length ys.length
  · have hx : xs[i]? = some xs[i] := List.getElem?_eq_getElem (by omega)
    have hy : ys[i]? = some ys[i] := List.getElem?_eq_getElem (by omega)
    refine .inr ⟨⟨xs, ys, _, _, qa, qb, hx, hy⟩, P (i + 1), fun J' p' => ⟨min xs.length ys.length - (i + 1), by omega, rfl, p'⟩, fun v J' y => ?_⟩
    obtain ⟨T, x', y', rfl, nT, rfl, fx, fy⟩ := y
    have ex := fx xs qa
    have ey := fy ys qb
    have kT : Kp D H (upd J T (.tup [x', y'])) := k.trans (Kp.new nT)
    have eD : (upd J T (.tup [x', y'])) D = some (.lst ((List.zipWith f xs ys).take i)) := new_any nT e
    refine ⟨T, _, rfl, SqT.of upd_same, rfl, x', _, rfl, y', _, rfl, rfl, hw x' y', ?_⟩
    show te _ _ _
    refine he i x' y' ex ey _ kT _ ⟨_, eD, ?_, ?_⟩
    · rw [List.length_take]
      exact small1000 (by omega)
    · refine ⟨by omega, kT.trans Kp.at, ?_⟩
      rw [zip_take_succ f ex ey]
      exact upd_same
  · have ei : i = min xs.length ys.length := by omega
    subst ei
    refine .inl ⟨⟨xs, ys, qa, qb, by omega⟩, hd J k ?_⟩
    rw [e, ← zl, List.take_length]
/-- the same two, the results given as a list -/
theorem lc_mapLI {i0 : Nat} {Qd : Hp → Prop} (ys : List V) (hy : ys.length = xs.length) (hT : H a = some (.lst xs)) (hl : xs.length ≤ 1000) (hD : H D = none)
    (he : ∀ (i : Nat) x y, xs[i]? = some x → ys[i]? = some y → ∀ (l : List V) (R : VK), R y (upd H D (.lst l)) → te ((σ.set i0 none).set i0 (some x)) (upd H D (.lst l)) R) (hd : Qd (upd H D (.lst ys))) : Lc (Itl K a) (gName i0) tYes te [i0] σ Qd H D := by
  have ne : a ≠ D := ne_of_none hT hD
  refine lc_list (xs := xs) (fun i J => i ≤ xs.length ∧ J = upd H D (.lst (ys.take i))) ⟨Nat.zero_le _, by rw [List.take_zero]⟩ (fun i J _ w => by
    rw [w.2]
    exact SqL.of (by rw [upd_ne ne]; exact hT)) (fun i x J hx w => ?_) fun J w => ?_
  · obtain ⟨hi, rfl⟩ := w
    have lt : i < xs.length := (List.getElem?_eq_some_iff.mp hx).1
    have hyi : ys[i]? = some ys[i] := List.getElem?_eq_getElem (by omega)
    refine ⟨?_, ?_⟩
    · show ((σ.set i0 none).set i0 (some x)).set i0 none = σ.set i0 none
      rw [List.set_set, List.set_set]
    · show te _ _ _
      refine he i x _ hx hyi _ _ ⟨_, upd_same, ?_, ?_, ?_⟩
      · rw [List.length_take]
        exact small1000 (by omega)
      · omega
      · rw [upd_upd, List.take_add_one, hyi]
        rfl
  · rw [← hy, List.take_length] at w
    rw [w.2]
    exact hd
theorem lc_mapZI {i1 i2 n : Nat} {Qd : Hp → Prop} (zs : List V) (hz : zs.length = min xs.length ys.length) (hn : n = 2) (ha : H a = some (.lst xs)) (hb : H b = some (.lst ys)) (hl : xs.length ≤ 1000) (hD : H D = none)
    (hw : ∀ x y, wipe (((wipe σ [i1, i2]).set i1 (some x)).set i2 (some y)) [i1, i2] = wipe σ [i1, i2])
    (he : ∀ (i : Nat) x y z, xs[i]? = some x → ys[i]? = some y → zs[i]? = some z → ∀ J, Kp D H J → ∀ R : VK, R z J → te (((wipe σ [i1, i2]).set i1 (some x)).set i2 (some y)) J R)
    (hd : ∀ J, Kp D H J → J D = some (.lst zs) → Qd J) : Lc (Itz K a b) (gTup K n (gCons (gName i1) (gCons (gName i2) gNil))) tYes te [i1, i2] σ Qd H D := by
  subst hn
  have na : a ≠ D := ne_of_none ha hD
  have nb : b ≠ D := ne_of_none hb hD
  let P : Nat → Hp → Prop := fun i J => i ≤ min xs.length ys.length ∧ Kp D H J ∧ J D = some (.lst (zs.take i))
  refine ⟨fun i m J => m = min xs.length ys.length - i ∧ P i J, ⟨_, rfl, Nat.zero_le _, Kp.new hD, by rw [List.take_zero]; exact upd_same⟩, ?_⟩
  rintro i m J ⟨rfl, hi, k, e⟩
  have qa : SqL K J a xs := SqL.of (k a _ na ha)
  have qb : SqL K J b ys := SqL.of (k b _ nb hb)
  by_cases lt : i < min xs.length ys.length
  · have hx : xs[i]? = some xs[i] := List.getElem?_eq_getElem (by omega)
    have hy : ys[i]? = some ys[i] := List.getElem?_eq_getElem (by omega)
    have hzi : zs[i]? = some zs[i] := List.getElem?_eq_getElem (by omega)
    refine .inr ⟨⟨xs, ys, _, _, qa, qb, hx, hy⟩, P (i + 1), fun J' p' => ⟨min xs.length ys.length - (i + 1), by omega, rfl, p'⟩, fun v J' y => ?_⟩
    obtain ⟨T, x', y', rfl, nT, rfl, fx, fy⟩ := y
    have kT : Kp D H (upd J T (.tup [x', y'])) := k.trans (Kp.new nT)
    have eD : (upd J T (.tup [x', y'])) D = some (.lst (zs.take i)) := new_any nT e
    refine ⟨T, _, rfl, SqT.of upd_same, rfl, x', _, rfl, y', _, rfl, rfl, hw x' y', ?_⟩
    show te _ _ _
    refine he i x' y' _ (fx xs qa) (fy ys qb) hzi _ kT _ ⟨_, eD, ?_, ?_⟩
    · rw [List.length_take]
      exact small1000 (by omega)
    · refine ⟨by omega, kT.trans Kp.at, ?_⟩
      rw [List.take_add_one, hzi]
      exact upd_same
  · have ei : i = min xs.length ys.length := by omega
    subst ei
    refine .inl ⟨⟨xs, ys, qa, qb, by omega⟩, hd J k ?_⟩
    rw [e, ← hz, List.take_length]
theorem cut_tail : cutV xs (some 1) none = xs.tail := by
  cases xs with
  | nil => rfl
  | cons x r =>
    have e1 : HT.sIx (x :: r).length 0 (some 1) = 1 := by
      simp [HT.sIx]
    have e2 : HT.sIx (x :: r).length (x :: r).length none = (x :: r).length := by simp [HT.sIx]
    unfold cutV
    rw [e1, e2]
    simp
theorem rd_sl {Q : VK} {r : V → Option Int → Option Int → Hp → VK → Prop} {tl th : TO} (q : te σ H fun x H1 => tl σ H1 fun l H2 => th σ H2 fun u H3 => r x l u H3 Q) : tSl r te tl th σ H Q := q
theorem rd_part {R : Option Int → Hp → Prop} (q : te σ H fun x H1 => ∃ i, x = .int i ∧ R (some i) H1) : tPart te σ H R := q
theorem rd_partI {i : Int} {R : Int → Prop} (q : R i) : ∃ j, V.int i = .int j ∧ R j := ⟨i, rfl, q⟩
theorem rd_nopart {R : Option Int → Hp → Prop} (q : R none H) : tNoPart σ H R := q
theorem rd_slL {Q : VK} {lo hi : Option Int} (h : SqL K H a xs) (e : cutV xs lo hi = ys) (q : ∀ p J, H p = none → Same H J → J p = some (.lst ys) → Q (.ref p) J) : rSlL K (.ref a) lo hi H Q := by
  subst e
  exact ⟨a, xs, rfl, h, fun p np => q p _ np (same_new np) upd_same⟩
theorem rd_zip {ta : TA} {R : It → Hp → Prop} (q : ta σ H fun vs H1 => ∃ a b xs ys, vs = [.ref a, .ref b] ∧ SqL K H1 a xs ∧ SqL K H1 b ys ∧ R (Itz K a b) H1) : iZip K ta σ H R := q
theorem rd_zipA {R : Addr → Addr → Prop} (h : SqL K H a xs) (k : SqL K H b ys) (q : R a b) : ∃ a' b' xs ys, [V.ref a, V.ref b] = [.ref a', .ref b'] ∧ SqL K H a' xs ∧ SqL K H b' ys ∧ R a' b' := ⟨a, b, xs, ys, rfl, h, k, q⟩
theorem piZ {X : Cx} (h : X.K = K) {e e2 : Expr} {ta : TA} {p pos tpos : Pos} {elts : List Expr} {kk : Nat} (hg : Gl X "zip") (hm : X.mg "zip" = none) (ha : PA X [e, e2] ta)
    (hs : starEach [e, e2] X.env = (false, eval e X.env) :: starEach [e2] X.env := by rfl) (hpl : (backTo pos (starEach [e2] X.env)).any (·.1) = false := by rfl) :
    PI X (.Tuple elts kk tpos) (.Call (.Name "zip" p) [e, e2] [] pos) (iZip K ta) := h ▸ pi_zip hg hm ha hs hpl
theorem pgT {X : Cx} (h : X.K = K) {es : List Expr} {k n : Nat} {t : TGs} {pos : Pos} (hc : X.calm = true) (hs : PGs X es t) (hn : (assignEach es X.env).length = n := by rfl) (hst : (assignEach es X.env).findIdx? (·.1) = none := by rfl) : PG X (.Tuple es k pos) (gTup K n t) := h ▸ pg_tup hc hs hn hst
/-! ### a ratio at an address, spans, a list of spans -/
structure Ra (K : PySem.W.Frag) (H : Hp) (p : Addr) (x y : Int) : Prop where
  sq : SqT K H p [.int x, .int y]
  pos : 0 < y
  gcd : Int.gcd x y = 1
  bx : Bd 1000 x
  bu : Bd 1000 y
theorem Ra.mono {x y : Int} (h : Ra K H p x y) (m : ∀ xs, SqT K H p xs → SqT K J p xs) : Ra K J p x y := ⟨m _ h.sq, h.pos, h.gcd, h.bx, h.bu⟩
structure Sn where
  x : Int
  y : Int
  u : Int
  v : Int
def SnAt (K : PySem.W.Frag) (H : Hp) (r : V) (s : Sn) : Prop := ∃ c p q, r = .ref c ∧ SqT K H c [.ref p, .ref q] ∧ Ra K H p s.x s.y ∧ Ra K H q s.u s.v
theorem SnAt.mono {r : V} {s : Sn} (h : SnAt K H r s) (m : ∀ p xs, SqT K H p xs → SqT K J p xs) : SnAt K J r s :=
  let ⟨c, p, q, e, h1, h2, h3⟩ := h; ⟨c, p, q, e, m _ _ h1, h2.mono (m _), h3.mono (m _)⟩
inductive SnsAt (K : PySem.W.Frag) (H : Hp) : List V → List Sn → Prop
  | nil : SnsAt K H [] []
  | cons {r : V} {rs : List V} {s : Sn} {ss : List Sn} (h : SnAt K H r s) (t : SnsAt K H rs ss) : SnsAt K H (r :: rs) (s :: ss)
theorem SnsAt.mono (m : ∀ p xs, SqT K H p xs → SqT K J p xs) : ∀ {rs : List V} {ss : List Sn}, SnsAt K H rs ss → SnsAt K J rs ss
  | _, _, .nil => .nil
  | _, _, .cons h t => .cons (h.mono m) (t.mono m)
theorem SnsAt.len : ∀ {rs : List V} {ss : List Sn}, SnsAt K H rs ss → rs.length = ss.length
  | _, _, .nil => rfl
  | _, _, .cons _ t => congrArg (· + 1) t.len
theorem SnsAt.get : ∀ {rs : List V} {ss : List Sn} {i : Nat} {r : V}, SnsAt K H rs ss → rs[i]? = some r → ∃ s, ss[i]? = some s ∧ SnAt K H r s
  | _, _, _, _, .nil, e => by simp at e
  | _, _, 0, _, .cons h t, e => by
    cases Option.some.inj (show some _ = some _ from e)
    exact ⟨_, rfl, h⟩
  | _, _, i + 1, _, .cons h t, e => t.get (i := i) e
theorem SnsAt.tail : ∀ {rs : List V} {ss : List Sn}, SnsAt K H rs ss → SnsAt K H rs.tail ss.tail
  | _, _, .nil => .nil
  | _, _, .cons _ t => t
/-! the same as data -/
def snD (s : Sn) : PyData := .tuple [.tuple [.int s.x, .int s.y], .tuple [.int s.u, .int s.v]]
theorem Ra.dp {x y : Int} (h : Ra K H p x y) : Dp K H (.ref p) (.tuple [.int x, .int y]) := .tup h.sq (.cons (.int _) (.cons (.int _) .nil))
theorem SnsAt.dp : ∀ {rs : List V} {ss : List Sn}, SnsAt K H rs ss → DpAll K H rs (ss.map snD)
  | _, _, .nil => .nil
  | _, _, .cons h t => by
    obtain ⟨c, p, q, rfl, hc, h1, h2⟩ := h
    exact .cons (.tup hc (.cons h1.dp (.cons h2.dp .nil))) t.dp
theorem SnsAt.small : ∀ {rs : List V} {ss : List Sn}, SnsAt K H rs ss → sms (ss.map snD) = true ∧ szs (ss.map snD) ≤ 5000 * rs.length ∧ PyData.depthAll (ss.map snD) ≤ 2 ∧ PyData.canLayAll0 (ss.map snD) = true
  | _, _, .nil => ⟨by simp [sms], by simp [szs], by simp [PyData.depthAll], by simp [PyData.canLayAll0]⟩
  | _, _, .cons h t => by
    obtain ⟨c, p, q, rfl, hc, h1, h2⟩ := h
    obtain ⟨a1, a2, a3, a4⟩ := t.small
    have b1 := h1.bx.log
    have b2 := h1.bu.log
    have b3 := h2.bx.log
    have b4 := h2.bu.log
    refine ⟨?_, ?_, ?_, ?_⟩
    · simp only [List.map_cons, snD, sms, sm, a1, Bool.and_true, Bool.and_eq_true, decide_eq_true_eq]
      omega
    · simp only [List.map_cons, snD, szs, sz, List.length_cons]
      omega
    · simp only [List.map_cons, snD, PyData.depthAll, PyData.depth]
      omega
    · simp [List.map_cons, snD, PyData.canLayAll0, PyData.canLay0, a4]
theorem rd_reprS {Q : VK} {rs : List V} {ss : List Sn} (h : SqL K H l rs) (s : SnsAt K H rs ss) (hl : rs.length ≤ 100) (q : Q (.str (PyData.shown (.list (ss.map snD)))) H) : rRepr K [.ref l] H Q := by
  obtain ⟨a1, a2, a3, _⟩ := s.small
  refine ⟨l, _, rfl, Dp.lst h s.dp, by simpa [sm] using a1, ?_, ?_, q⟩
  · simp only [sz]
    omega
  · simp only [PyData.depth]
    omega
theorem eqv_two {x y u v : Int} : PyData.eqv (.tuple [.int x, .int y]) (.tuple [.int u, .int v]) = decide (x = u ∧ y = v) := by
  by_cases h : x = u <;> by_cases k : y = v <;> simp [PyData.eqv, PyData.eqvAll, h, k]
theorem rd_eqR {Q : VK} {x y u v : Int} (h : SqT K H a [.int x, .int y]) (k : SqT K H b [.int u, .int v]) (q : Q (.bl (decide (x = u ∧ y = v))) H) : rEqD K (.ref a) (.ref b) H Q :=
  ⟨_, _, Dp.tup h (.cons (.int _) (.cons (.int _) .nil)), Dp.tup k (.cons (.int _) (.cons (.int _) .nil)), by simp [SeqAt.shaped, PyData.canLay0, PyData.canLayAll0, PyData.depth, PyData.depthAll], by simp [SeqAt.shaped, PyData.canLay0, PyData.canLayAll0, PyData.depth, PyData.depthAll], by rw [eqv_two]; exact q⟩
theorem rd_eqS {Q : VK} {rs zs : List V} {ss : List Sn} (h : SqL K H a rs) (s : SnsAt K H rs ss) (k : SqL K H b zs) (t : SnsAt K H zs ss) (q : Q (.bl true) H) : rEqD K (.ref a) (.ref b) H Q := by
  obtain ⟨a1, a2, a3, a4⟩ := s.small
  exact rd_eqDs (Dp.lst h s.dp) (Dp.lst k t.dp) (by
    have z : PyData.depthAll (ss.map snD) + 1 ≤ 64 := by omega
    simp [SeqAt.shaped, PyData.canLay0, PyData.depth, a4, z]) q
/-- the spans of the arc -/
def arcD (x y u v : Int) : List Sn := if x = u ∧ y = v then [] else if x * v < u * y then [⟨x, y, u, v⟩] else (if u = 0 ∧ v = 1 then [] else [⟨0, 1, u, v⟩]) ++ [⟨x, y, 1, 1⟩]
def okS (s : Sn) : Bool := decide (¬ s.x * 1 < 0 * s.y) && (decide (s.x * s.v < s.u * s.y) && decide (¬ 1 * s.v < s.u * 1))
def okN (s t : Sn) : Bool := decide (s.u * t.y < t.x * s.v)
theorem dummy_ok : True := True.intro
def cutsB (ss : List Sn) : Bool := (ss.map okS).all id && (List.zipWith okN ss ss.tail).all id
theorem arc_ok {x y u v : Int} (hx : 0 ≤ x) (hxy : x < y) (hu : 0 ≤ u) (huv : u < v) (g : Int.gcd x y = 1) (g' : Int.gcd u v = 1) : cutsB (arcD x y u v) = true := by
  unfold arcD
  by_cases h : x = u ∧ y = v
  · rw [if_pos h]
    rfl
  · rw [if_neg h]
    by_cases k : x * v < u * y
    · rw [if_pos k]
      simp [cutsB, okS, k]
      omega
    · rw [if_neg k]
      have ne : x * v ≠ u * y := fun e => h (low_one (by omega) (by omega) g g' e)
      by_cases z : u = 0 ∧ v = 1
      · rw [if_pos z]
        simp [cutsB, okS]
        omega
      · rw [if_neg z]
        have u0 : 0 < u := by
          rcases Int.lt_or_eq_of_le hu with w | w
          · exact w
          · subst w
            rw [Int.zero_gcd] at g'
            omega
        simp [cutsB, okS, okN]
        omega
end
end Ob
namespace Ob
open PySem PySem.Spec PyProof.Rows L2
section
variable {K : PySem.W.Frag} {H J : Hp} {a b p l D : Addr} {xs ys : List V} {o : HO} {σ : L2.St} {te : TE} {g : TG} {vs : List Nat}
theorem rd_tpar3 {i j k : Nat} {ta : TA} {E : Ends} (q : ta σ H fun vs H1 => ∃ u v w, vs = [u, v, w] ∧ E.nx (((σ.set i (some u)).set j (some v)).set k (some w)) H1) : tPar3 i j k ta E σ H := q
theorem rd_par3 {i j k : Nat} {x y z : V} {E : Ends} {τ : L2.St} (e : ((σ.set i (some x)).set j (some y)).set k (some z) = τ) (q : E.nx τ H) : ∃ u v w, [x, y, z] = [u, v, w] ∧ E.nx (((σ.set i (some u)).set j (some v)).set k (some w)) H := by
  subst e
  exact ⟨x, y, z, rfl, q⟩
theorem ix_last (r : V) : ixN (xs ++ [r]).length (-1) = some xs.length := by
  have e : (xs ++ [r]).length = xs.length + 1 := by simp
  unfold ixN
  rw [e, if_neg (by decide), if_pos (by omega)]
  congr 1
  omega
theorem set_last (r s : V) : (xs ++ [r]).set xs.length s = xs ++ [s] := by
  simp
/-- xs[-1] = v -/
theorem rd_setLast {r v : V} {F : Hp → Prop} (h : H l = some (.lst (xs ++ [r]))) (q : ∀ J, Pu l H J → J l = some (.lst (xs ++ [v])) → F J) : rSetL (.ref l) (.int (-1)) v H F := by
  refine ⟨l, _, -1, xs.length, rfl, rfl, h, ix_last r, ?_⟩
  rw [set_last]
  exact q _ ⟨Kp.at, ⟨_, h⟩, ⟨_, upd_same⟩⟩ upd_same
theorem rd_last {r : V} {Q : VK} (h : H l = some (.lst (xs ++ [r]))) (q : Q r H) : rIx K (.ref l) (.int (-1)) H Q := rd_sxL (SqL.of h) (atI_last xs r) q
theorem Kp.pu {M : Hp} (k : Kp b H M) (u : Pu l M J) (n : H l = none) : Kp b H J := fun a o ne e => u.1 a o (ne_of_none e n) (k a o ne e)
theorem Same.pu {M : Hp} (k : Same H M) (u : Pu l M J) (n : H l = none) : Same H J := fun a o e => u.1 a o (ne_of_none e n) (k a o e)
/-! ### a comprehension whose element may lay objects -/
def LcEnd (D : Addr) (H : Hp) (P : List V → Hp → Prop) (i : Nat) (y : V) (J : Hp) : Prop := ∃ acc, J D = some (.lst acc) ∧ acc.length < sizeLine ∧ ∃ ys, ys.length = i ∧ Kp D H (upd J D (.lst (acc ++ [y]))) ∧ (upd J D (.lst (acc ++ [y]))) D = some (.lst ys) ∧ P ys (upd J D (.lst (acc ++ [y])))
theorem lcEnd_mk {P : List V → Hp → Prop} {i : Nat} {y : V} (h : J D = some (.lst ys)) (hl : ys.length = i) (hz : i ≤ 500) (k : Kp D H J) (q : ∀ J4, Pu D J J4 → J4 D = some (.lst (ys ++ [y])) → P (ys ++ [y]) J4) : LcEnd D H P (i + 1) y J :=
  ⟨ys, h, small1000 (by omega), ys ++ [y], by rw [List.length_append, hl]; rfl, k.trans Kp.at, upd_same, q _ ⟨Kp.at, ⟨_, h⟩, ⟨_, upd_same⟩⟩ upd_same⟩
theorem lc_growL (P : List V → Hp → Prop) {Qd : Hp → Prop} (hT : H a = some (.lst xs)) (hl : xs.length ≤ 500) (hD : H D = none) (h0 : ∀ J, Kp D H J → P [] J)
    (he : ∀ (i : Nat) x ys J, xs[i]? = some x → i ≤ 500 → ys.length = i → Kp D H J → J D = some (.lst ys) → P ys J → g x (wipe σ vs) J fun σ2 J2 => wipe σ2 vs = wipe σ vs ∧ te σ2 J2 fun y J3 => LcEnd D H P (i + 1) y J3)
    (hd : ∀ ys J, ys.length = xs.length → Kp D H J → J D = some (.lst ys) → P ys J → Qd J) : Lc (Itl K a) g tYes te vs σ Qd H D := by
  have ne : a ≠ D := ne_of_none hT hD
  refine lc_list (xs := xs) (fun i J => ∃ ys, ys.length = i ∧ Kp D H J ∧ J D = some (.lst ys) ∧ P ys J) ⟨[], rfl, Kp.new hD, upd_same, h0 _ (Kp.new hD)⟩ (fun i J _ w => ?_) (fun i x J hx w => ?_) fun J w => ?_
  · obtain ⟨ys, _, k, _⟩ := w
    exact SqL.of (k a _ ne hT)
  · obtain ⟨ys, e, k, hJ, p⟩ := w
    have lt : i < xs.length := (List.getElem?_eq_some_iff.mp hx).1
    exact he i x ys J hx (by omega) e k hJ p
  · obtain ⟨ys, e, k, hJ, p⟩ := w
    exact hd ys J e k hJ p
/-- the same over range(n) -/
theorem lc_growR (P : List V → Hp → Prop) {n : Nat} {Qd : Hp → Prop} (hl : n ≤ 500) (hD : H D = none) (h0 : ∀ J, Kp D H J → P [] J)
    (he : ∀ (i : Nat) ys J, i < n → ys.length = i → Kp D H J → J D = some (.lst ys) → P ys J → g (.int (0 + (i : Int))) (wipe σ vs) J fun σ2 J2 => wipe σ2 vs = wipe σ vs ∧ te σ2 J2 fun y J3 => LcEnd D H P (i + 1) y J3)
    (hd : ∀ ys J, ys.length = n → Kp D H J → J D = some (.lst ys) → P ys J → Qd J) : Lc (Itr 0 n) g tYes te vs σ Qd H D := by
  refine lc_range (fun i J => ∃ ys, ys.length = i ∧ Kp D H J ∧ J D = some (.lst ys) ∧ P ys J) ⟨[], rfl, Kp.new hD, upd_same, h0 _ (Kp.new hD)⟩ (fun i J hi w => ?_) fun J w => ?_
  · obtain ⟨ys, e, k, hJ, p⟩ := w
    exact he i ys J hi e k hJ p
  · obtain ⟨ys, e, k, hJ, p⟩ := w
    exact hd ys J e k hJ p
theorem rd_forL {tl : TE} {tb : TS} {E : Ends} (q : tl σ H fun x H1 => ∃ a, x = .ref a ∧ (∃ xs, SqL K H1 a xs) ∧ Lp (Itl K a) g tb E σ H1) : tFor (iList K tl) g tb E σ H := q
theorem lp_lst {tb : TS} {E : Ends} (Pv : Nat → L2.St → Hp → Prop) (h0 : Pv 0 σ H) (hl : ∀ i σ H, i ≤ xs.length → Pv i σ H → SqL K H a xs)
    (hs : ∀ i x σ H, xs[i]? = some x → Pv i σ H → g x σ H fun σ2 H2 => tb { E with nx := Pv (i + 1), ct := Pv (i + 1), bk := E.nx } σ2 H2) (hd : ∀ σ H, Pv xs.length σ H → E.nx σ H) : Lp (Itl K a) g tb E σ H := for_list Pv h0 hl hs hd
/-! ### pairs of places -/
inductive PrsAt (H : Hp) : List V → List (Nat × Nat) → Prop
  | nil : PrsAt H [] []
  | cons {c : Addr} {rs : List V} {lo hi : Nat} {ps : List (Nat × Nat)} (h : H c = some (.tup [.int lo, .int hi])) (t : PrsAt H rs ps) : PrsAt H (.ref c :: rs) ((lo, hi) :: ps)
theorem PrsAt.mono (m : ∀ c xs, H c = some (.tup xs) → J c = some (.tup xs)) : ∀ {rs : List V} {ps : List (Nat × Nat)}, PrsAt H rs ps → PrsAt J rs ps
  | _, _, .nil => .nil
  | _, _, .cons h t => .cons (m _ _ h) (t.mono m)
theorem PrsAt.app : ∀ {rs ts : List V} {ps qs : List (Nat × Nat)}, PrsAt H rs ps → PrsAt H ts qs → PrsAt H (rs ++ ts) (ps ++ qs)
  | _, _, _, _, .nil, k => k
  | _, _, _, _, .cons h t, k => .cons h (t.app k)
theorem PrsAt.rev : ∀ {rs : List V} {ps : List (Nat × Nat)}, PrsAt H rs ps → PrsAt H rs.reverse ps.reverse
  | _, _, .nil => .nil
  | _, _, .cons h t => by
    rw [List.reverse_cons, List.reverse_cons]
    exact t.rev.app (.cons h .nil)
theorem PrsAt.get : ∀ {rs : List V} {ps : List (Nat × Nat)} {i : Nat} {r : V}, PrsAt H rs ps → rs[i]? = some r → ∃ c lo hi, r = .ref c ∧ ps[i]? = some (lo, hi) ∧ H c = some (.tup [.int lo, .int hi])
  | _, _, _, _, .nil, e => by simp at e
  | _, _, 0, _, .cons h t, e => by
    cases Option.some.inj (show some _ = some _ from e)
    exact ⟨_, _, _, rfl, rfl, h⟩
  | _, _, i + 1, _, .cons h t, e => t.get (i := i) e
theorem PrsAt.len : ∀ {rs : List V} {ps : List (Nat × Nat)}, PrsAt H rs ps → rs.length = ps.length
  | _, _, .nil => rfl
  | _, _, .cons _ t => congrArg (· + 1) t.len
/-- found != [] -/
theorem PrsAt.dp : ∀ {rs : List V} {ps : List (Nat × Nat)}, PrsAt H rs ps → ∃ ds, DpAll K H rs ds ∧ ds.length = rs.length ∧ PyData.canLayAll0 ds = true ∧ PyData.depthAll ds ≤ 1
  | _, _, .nil => ⟨[], .nil, rfl, by simp [PyData.canLayAll0], by simp [PyData.depthAll]⟩
  | _, _, .cons (lo := lo) (hi := hi) h t => by
    obtain ⟨ds, d, e, c, z⟩ := t.dp
    refine ⟨.tuple [.int lo, .int hi] :: ds, .cons (.tup (SqT.of h) (.cons (.int _) (.cons (.int _) .nil))) d, by simp [e], by simp [PyData.canLayAll0, PyData.canLay0, c], ?_⟩
    simp only [PyData.depthAll, PyData.depth]
    omega
theorem rd_neNil {Q : VK} {rs : List V} {ps : List (Nat × Nat)} (h : H a = some (.lst rs)) (s : PrsAt H rs ps) (k : H b = some (.lst [])) (q : Q (.bl (!decide (rs = []))) H) : rNeD K (.ref a) (.ref b) H Q := by
  obtain ⟨ds, d, e, c, z⟩ := s.dp (K := K)
  have z2 : PyData.depthAll ds + 1 ≤ 64 := by omega
  refine ⟨.list ds, .list [], Dp.lst (SqL.of h) d, Dp.lst (SqL.of k) .nil, by simp [SeqAt.shaped, PyData.canLay0, PyData.depth, c, z2], by simp [SeqAt.shaped, PyData.canLay0, PyData.canLayAll0, PyData.depth, PyData.depthAll], ?_⟩
  have e2 : PyData.eqv (.list ds) (.list []) = decide (rs = []) := by
    cases ds with
    | nil =>
      have : rs = [] := List.length_eq_zero_iff.mp (by simpa using e.symm)
      subst this
      simp [PyData.eqv, PyData.eqvAll]
    | cons d0 ds0 =>
      have : rs ≠ [] := fun w => by
        subst w
        simp at e
      simp [PyData.eqv, PyData.eqvAll, this]
  rw [e2]
  exact q
end
/-! ### lists of units -/
def nV (n : Nat) : V := .int (n : Int)
theorem unit_step (f : Nat → Bool) (i : Nat) (b : Bool) : ∃ f' : Nat → Bool, (List.range (i + 1)).filter f' = (List.range i).filter f ++ (if b = true then [i] else []) := by
  refine ⟨fun n => if n = i then b else f n, ?_⟩
  rw [List.range_succ, List.filter_append]
  congr 1
  · refine List.filter_congr fun n hn => ?_
    have : n < i := List.mem_range.mp hn
    rw [if_neg (by omega)]
  · cases b <;> simp
theorem unit_in (f : Nat → Bool) {g u : Nat} (h : u < g) : inV (.int (u : Int)) (((List.range g).filter f).map nV) = f u := by
  unfold inV
  rw [List.any_map, Bool.eq_iff_iff, List.any_eq_true]
  constructor
  · rintro ⟨n, hn, e⟩
    have e2 : ((n : Int) == (u : Int)) = true := e
    have e3 : (n : Int) = (u : Int) := by simpa using e2
    obtain rfl : n = u := by omega
    exact (List.mem_filter.mp hn).2
  · intro hf
    exact ⟨u, List.mem_filter.mpr ⟨List.mem_range.mpr h, hf⟩, by show ((u : Int) == (u : Int)) = true; simp⟩
theorem unit_flat (us : List Nat) : (us.map nV).all flatV = true := by
  rw [List.all_map, List.all_eq_true]
  intro n _
  rfl
/-! ### runs of units: the last run first -/
def rruns (f : Nat → Bool) : Nat → List (Nat × Nat)
  | 0 => []
  | i + 1 => if f i = true then (match rruns f i with
    | (lo, hi) :: t => if hi = i then (lo, i + 1) :: t else (i, i + 1) :: (lo, hi) :: t
    | [] => [(i, i + 1)]) else rruns f i
theorem rruns_succ (f : Nat → Bool) (i : Nat) : rruns f (i + 1) = if f i = true then (match rruns f i with
    | (lo, hi) :: t => if hi = i then (lo, i + 1) :: t else (i, i + 1) :: (lo, hi) :: t
    | [] => [(i, i + 1)]) else rruns f i := rfl
/-- ascending runs below i, none touches the next -/
inductive Runs : Nat → List (Nat × Nat) → Prop
  | nil {i : Nat} : Runs i []
  | cons {i lo hi : Nat} {t : List (Nat × Nat)} (h : lo < hi) (k : hi ≤ i) (n : ∀ x ∈ t, x.2 < lo) (r : Runs lo t) : Runs i ((lo, hi) :: t)
theorem Runs.up {i j : Nat} {t : List (Nat × Nat)} (h : Runs i t) (k : i ≤ j) : Runs j t := by
  cases h with
  | nil => exact .nil
  | cons a b c d => exact .cons a (Nat.le_trans b k) c d
theorem Runs.bnd {i : Nat} {t : List (Nat × Nat)} (h : Runs i t) : ∀ x ∈ t, x.2 ≤ i := by
  induction h with
  | nil => intro x hx; cases hx
  | cons a b c d ih =>
    intro x hx
    rcases List.mem_cons.mp hx with rfl | hx
    · exact b
    · have := c x hx
      omega
theorem rruns_ok (f : Nat → Bool) : ∀ i, Runs i (rruns f i)
  | 0 => .nil
  | i + 1 => by
    have ih := rruns_ok f i
    rw [rruns_succ]
    by_cases h : f i = true
    · rw [if_pos h]
      cases e : rruns f i with
      | nil => exact .cons (Nat.lt_succ_self i) (Nat.le_refl _) (fun x hx => by cases hx) .nil
      | cons r t =>
        obtain ⟨lo, hi⟩ := r
        rw [e] at ih
        cases ih with
        | cons a b c d =>
          show Runs (i + 1) (if hi = i then (lo, i + 1) :: t else (i, i + 1) :: (lo, hi) :: t)
          by_cases z : hi = i
          · rw [if_pos z]
            exact .cons (by omega) (Nat.le_refl _) c d
          · rw [if_neg z]
            refine .cons (Nat.lt_succ_self i) (Nat.le_refl _) (fun x hx => ?_) (.cons a b c d)
            rcases List.mem_cons.mp hx with rfl | hx
            · show hi < i
              omega
            · have := c x hx
              omega
    · rw [if_neg h]
      exact ih.up (Nat.le_succ i)
/-- what the drawn form of the runs is -/
inductive SnsOf (g : Nat) : List (Nat × Nat) → List Sn → Prop
  | nil : SnsOf g [] []
  | cons {lo hi : Nat} {ps : List (Nat × Nat)} {s : Sn} {ss : List Sn} (h : IsLow (lo : Int) (g : Int) s.x s.y) (k : IsLow (hi : Int) (g : Int) s.u s.v) (t : SnsOf g ps ss) : SnsOf g ((lo, hi) :: ps) (s :: ss)
theorem SnsOf.snoc {g : Nat} : ∀ {ps : List (Nat × Nat)} {ss : List Sn} {lo hi : Nat} {s : Sn}, SnsOf g ps ss → IsLow (lo : Int) (g : Int) s.x s.y → IsLow (hi : Int) (g : Int) s.u s.v → SnsOf g (ps ++ [(lo, hi)]) (ss ++ [s])
  | _, _, _, _, _, .nil, h, k => .cons h k .nil
  | _, _, _, _, _, .cons a b t, h, k => .cons a b (t.snoc h k)
theorem SnsAt.snoc {K : PySem.W.Frag} {H : Hp} {r : V} {s : Sn} : ∀ {rs : List V} {ss : List Sn}, SnsAt K H rs ss → SnAt K H r s → SnsAt K H (rs ++ [r]) (ss ++ [s])
  | _, _, .nil, h => .cons h .nil
  | _, _, .cons a t, h => .cons a (t.snoc h)
theorem Runs.pos {i : Nat} {t : List (Nat × Nat)} (h : Runs i t) : ∀ x ∈ t, x.1 < x.2 := by
  induction h with
  | nil => intro x hx; cases hx
  | cons a b c d ih =>
    intro x hx
    rcases List.mem_cons.mp hx with rfl | hx
    · exact a
    · exact ih x hx
/-! ### what sums and comparisons of drawn forms come to -/
theorem low_of {t u x y : Int} (y0 : 0 < y) (g : Int.gcd x y = 1) (e : x * u = t * y) (hu : u ≠ 0) : IsLow t u x y := by
  have d1 : y ∣ u := dvd_gcd1 g ⟨t, by rw [e, Int.mul_comm]⟩
  have b1 : y.natAbs ≤ u.natAbs := Nat.le_of_dvd (by omega) (Int.natAbs_dvd_natAbs.mpr d1)
  refine ⟨y0, g, e, ?_, b1⟩
  by_cases ht : t = 0
  · subst ht
    rw [Int.zero_mul] at e
    rcases Int.mul_eq_zero.mp e with z | z
    · rw [z]
      exact Nat.le_refl _
    · exact absurd z hu
  · have d2 : x ∣ t := by
      have : x ∣ y * t := ⟨u, by rw [Int.mul_comm, ← e]⟩
      exact dvd_gcd1 (by rw [Int.gcd_comm]; exact g) this
    exact Nat.le_of_dvd (by omega) (Int.natAbs_dvd_natAbs.mpr d2)
theorem dif_form {lo hi g x y u v m n : Int} (h1 : x * g = lo * y) (h2 : u * g = hi * v) (y0 : 0 < y) (v0 : 0 < v) (h : m * (v * y) = (u * y - x * v) * n) : m * g = (hi - lo) * n := by
  refine Int.eq_of_mul_eq_mul_right (show v * y ≠ 0 from Int.mul_ne_zero (by omega) (by omega)) ?_
  grind
theorem sum_form {T d g m n m1 n1 m2 n2 : Int} (h1 : m * g = T * n) (h2 : m1 * g = d * n1) (n0 : 0 < n) (n10 : 0 < n1) (h : m2 * (n * n1) = (m * n1 + m1 * n) * n2) : m2 * g = (T + d) * n2 := by
  refine Int.eq_of_mul_eq_mul_right (show n * n1 ≠ 0 from Int.mul_ne_zero (by omega) (by omega)) ?_
  grind
def hasS (x y : Int) (s : Sn) : Bool := !decide (x * s.y < s.x * y) && decide (x * s.v < s.u * y)
theorem cut_lt {unit fine off g x y lo p q : Int} (h : x * (g * fine) = (unit * fine + off) * y) (k : p * g = lo * q) (y0 : 0 < y) (q0 : 0 < q) (g0 : 0 < g) (f0 : 0 < fine) (o0 : 0 ≤ off) (o1 : off < fine) : (x * q < p * y) ↔ unit < lo := by
  have e1 : (x * q) * (g * fine) = (unit * fine + off) * (y * q) := by grind
  have e2 : (p * y) * (g * fine) = (lo * fine) * (y * q) := by grind
  have gf : 0 < g * fine := Int.mul_pos g0 f0
  have yq : 0 < y * q := Int.mul_pos y0 q0
  have a1 : x * q < p * y ↔ (x * q) * (g * fine) < (p * y) * (g * fine) := (Int.mul_lt_mul_right gf).symm
  have a2 : (unit * fine + off) * (y * q) < (lo * fine) * (y * q) ↔ unit * fine + off < lo * fine := Int.mul_lt_mul_right yq
  rw [a1, e1, e2, a2]
  constructor
  · intro h
    rcases Int.lt_or_le unit lo with w | w
    · exact w
    · have := Int.mul_le_mul_of_nonneg_right w (Int.le_of_lt f0)
      omega
  · intro w
    have h1 := Int.mul_le_mul_of_nonneg_right (show unit + 1 ≤ lo by omega) (Int.le_of_lt f0)
    rw [Int.add_mul, Int.one_mul] at h1
    omega
theorem has_form {g : Nat} {unit fine off x y : Int} (h : IsLow (unit * fine + off) ((g : Int) * fine) x y) (g0 : 0 < (g : Int)) (f0 : 0 < fine) (o0 : 0 ≤ off) (o1 : off < fine) :
    ∀ {ps : List (Nat × Nat)} {ss : List Sn}, SnsOf g ps ss → (ss.any (hasS x y) = true ↔ ∃ r ∈ ps, (r.1 : Int) ≤ unit ∧ unit < (r.2 : Int))
  | _, _, .nil => ⟨fun z => (by cases z), fun ⟨r, hr, _⟩ => (by cases hr)⟩
  | _, _, .cons (lo := lo) (hi := hi) (s := s) a b t => by
    have ih := has_form h g0 f0 o0 o1 t
    have c1 := cut_lt (lo := lo) h.2.2.1 a.2.2.1 h.1 a.1 g0 f0 o0 o1
    have c2 := cut_lt (lo := hi) h.2.2.1 b.2.2.1 h.1 b.1 g0 f0 o0 o1
    have e : hasS x y s = true ↔ (lo : Int) ≤ unit ∧ unit < (hi : Int) := by
      unfold hasS
      rw [Bool.and_eq_true, Bool.not_eq_true', decide_eq_false_iff_not, decide_eq_true_eq, c1, c2]
      omega
    rw [List.any_cons, Bool.or_eq_true, e, ih]
    constructor
    · rintro (z | ⟨r, hr, z⟩)
      · exact ⟨_, List.mem_cons_self, z⟩
      · exact ⟨r, List.mem_cons_of_mem _ hr, z⟩
    · rintro ⟨r, hr, z⟩
      rcases List.mem_cons.mp hr with rfl | hr
      · exact .inl z
      · exact .inr ⟨r, hr, z⟩
/-- how many units -/
def tot : List (Nat × Nat) → Nat
  | [] => 0
  | (lo, hi) :: t => (hi - lo) + tot t
theorem rruns_tot (f : Nat → Bool) : ∀ i, tot (rruns f i) = ((List.range i).filter f).length
  | 0 => rfl
  | i + 1 => by
    have ih := rruns_tot f i
    have ok := rruns_ok f i
    rw [List.range_succ, List.filter_append, List.length_append, ← ih, rruns_succ]
    by_cases h : f i = true
    · rw [if_pos h]
      have e1 : ([i].filter f).length = 1 := by simp [h]
      rw [e1]
      cases e : rruns f i with
      | nil => simp [tot]
      | cons r t =>
        obtain ⟨lo, hi⟩ := r
        rw [e] at ok
        cases ok with
        | cons a b c d =>
          show tot (if hi = i then (lo, i + 1) :: t else (i, i + 1) :: (lo, hi) :: t) = _
          by_cases z : hi = i
          · rw [if_pos z]
            simp only [tot]
            omega
          · rw [if_neg z]
            simp only [tot]
            omega
    · rw [if_neg h]
      have e1 : ([i].filter f).length = 0 := by simp [h]
      rw [e1]
      rfl
theorem rruns_mem (f : Nat → Bool) : ∀ i u, u < i → (f u = true ↔ ∃ r ∈ rruns f i, r.1 ≤ u ∧ u < r.2)
  | 0, u, h => by omega
  | i + 1, u, h => by
    have ih := rruns_mem f i
    have ok := rruns_ok f i
    rw [rruns_succ]
    by_cases hf : f i = true
    · rw [if_pos hf]
      cases e : rruns f i with
      | nil =>
        rw [e] at ih
        show _ ↔ ∃ r ∈ [(i, i + 1)], _
        by_cases z : u = i
        · subst z
          exact ⟨fun _ => ⟨_, List.mem_singleton.mpr rfl, Nat.le_refl _, Nat.lt_succ_self _⟩, fun _ => hf⟩
        · refine (ih u (by omega)).trans ⟨fun ⟨r, hr, _⟩ => (by cases hr), fun ⟨r, hr, q1, q2⟩ => ?_⟩
          obtain rfl := List.mem_singleton.mp hr
          have : i ≤ u := q1
          omega
      | cons r t =>
        obtain ⟨lo, hi⟩ := r
        rw [e] at ok ih
        cases ok with
        | cons a b c d =>
          show _ ↔ ∃ r ∈ (if hi = i then (lo, i + 1) :: t else (i, i + 1) :: (lo, hi) :: t), _
          by_cases z : hi = i
          · rw [if_pos z]
            by_cases w : u = i
            · subst w
              exact ⟨fun _ => ⟨_, List.mem_cons_self, by show lo ≤ u; omega, Nat.lt_succ_self _⟩, fun _ => hf⟩
            · refine (ih u (by omega)).trans ⟨fun ⟨r, hr, q1, q2⟩ => ?_, fun ⟨r, hr, q1, q2⟩ => ?_⟩
              · rcases List.mem_cons.mp hr with rfl | hr
                · exact ⟨_, List.mem_cons_self, q1, by show u < i + 1; omega⟩
                · exact ⟨r, List.mem_cons_of_mem _ hr, q1, q2⟩
              · rcases List.mem_cons.mp hr with rfl | hr
                · exact ⟨_, List.mem_cons_self, q1, by show u < hi; omega⟩
                · exact ⟨r, List.mem_cons_of_mem _ hr, q1, q2⟩
          · rw [if_neg z]
            by_cases w : u = i
            · subst w
              exact ⟨fun _ => ⟨_, List.mem_cons_self, Nat.le_refl _, Nat.lt_succ_self _⟩, fun _ => hf⟩
            · refine (ih u (by omega)).trans ⟨fun ⟨r, hr, q1, q2⟩ => ⟨r, List.mem_cons_of_mem _ hr, q1, q2⟩, fun ⟨r, hr, q1, q2⟩ => ?_⟩
              rcases List.mem_cons.mp hr with rfl | hr
              · have : i ≤ u := q1
                omega
              · exact ⟨r, hr, q1, q2⟩
    · rw [if_neg hf]
      by_cases w : u = i
      · subst w
        refine ⟨fun q => absurd q hf, fun ⟨r, hr, q1, q2⟩ => ?_⟩
        have := ok.bnd r hr
        omega
      · exact ih u (by omega)
theorem tot_append (a b : List (Nat × Nat)) : tot (a ++ b) = tot a + tot b := by
  induction a with
  | nil => simp [tot]
  | cons r t ih =>
    obtain ⟨lo, hi⟩ := r
    simp only [List.cons_append, tot, ih]
    omega
theorem tot_rev (a : List (Nat × Nat)) : tot a.reverse = tot a := by
  induction a with
  | nil => rfl
  | cons r t ih =>
    obtain ⟨lo, hi⟩ := r
    rw [List.reverse_cons, tot_append, ih]
    simp only [tot]
    omega
end Ob
namespace Ob
open PySem PySem.Spec PyProof.Rows L2
/-! ### runs (the last first) with the same members are the same -/
theorem runs_ext : ∀ {a b : List (Nat × Nat)} {i j : Nat}, Runs i a → Runs j b → (∀ u, (∃ r ∈ a, r.1 ≤ u ∧ u < r.2) ↔ ∃ r ∈ b, r.1 ≤ u ∧ u < r.2) → a = b
  | [], [], _, _, _, _, _ => rfl
  | [], (lo, hi) :: t, _, _, _, hb, e => by
    cases hb with
    | cons h k n r =>
      obtain ⟨r, hr, _⟩ := (e lo).mpr ⟨_, List.mem_cons_self, Nat.le_refl _, h⟩
      cases hr
  | (lo, hi) :: t, [], _, _, ha, _, e => by
    cases ha with
    | cons h k n r =>
      obtain ⟨r, hr, _⟩ := (e lo).mp ⟨_, List.mem_cons_self, Nat.le_refl _, h⟩
      cases hr
  | (lo, hi) :: t, (lo', hi') :: t', _, _, ha, hb, e => by
    cases ha with
    | cons h k n r =>
    cases hb with
    | cons h' k' n' r' =>
      have top : ∀ {lo hi lo' hi' : Nat} {t t' : List (Nat × Nat)}, lo < hi → lo' < hi' → (∀ x ∈ t', x.2 < lo') → (∀ u, (∃ r ∈ (lo, hi) :: t, r.1 ≤ u ∧ u < r.2) → ∃ r ∈ (lo', hi') :: t', r.1 ≤ u ∧ u < r.2) → hi ≤ hi' := fun {lo hi lo' hi' t t'} a b c f => by
        obtain ⟨r, hr, h1, h2⟩ := f (hi - 1) ⟨_, List.mem_cons_self, by show lo ≤ hi - 1; omega, by show hi - 1 < hi; omega⟩
        rcases List.mem_cons.mp hr with rfl | hr
        · have : hi - 1 < hi' := h2
          omega
        · have := c r hr
          omega
      have bot : ∀ {lo hi lo' hi' : Nat} {t t' : List (Nat × Nat)}, hi = hi' → lo < hi → lo' < hi' → (∀ x ∈ t', x.2 < lo') → (∀ u, (∃ r ∈ (lo, hi) :: t, r.1 ≤ u ∧ u < r.2) → ∃ r ∈ (lo', hi') :: t', r.1 ≤ u ∧ u < r.2) → lo' ≤ lo := fun {lo hi lo' hi' t t'} eh a b c f => by
        rcases Nat.lt_or_ge lo lo' with w | w
        · obtain ⟨r, hr, h1, h2⟩ := f (lo' - 1) ⟨_, List.mem_cons_self, by show lo ≤ lo' - 1; omega, by show lo' - 1 < hi; omega⟩
          rcases List.mem_cons.mp hr with rfl | hr
          · have : lo' ≤ lo' - 1 := h1
            omega
          · have := c r hr
            omega
        · exact w
      have e1 : hi = hi' := Nat.le_antisymm (top h h' n' fun u => (e u).mp) (top h' h n fun u => (e u).mpr)
      have e2 : lo = lo' := Nat.le_antisymm (bot e1.symm h' h n fun u => (e u).mpr) (bot e1 h h' n' fun u => (e u).mp)
      subst e1
      subst e2
      congr 1
      refine runs_ext r r' fun u => ⟨fun ⟨x, hx, h1, h2⟩ => ?_, fun ⟨x, hx, h1, h2⟩ => ?_⟩
      · obtain ⟨y, hy, k1, k2⟩ := (e u).mp ⟨x, List.mem_cons_of_mem _ hx, h1, h2⟩
        have q := n x hx
        rcases List.mem_cons.mp hy with rfl | hy
        · have : lo ≤ u := k1
          omega
        · exact ⟨y, hy, k1, k2⟩
      · obtain ⟨y, hy, k1, k2⟩ := (e u).mpr ⟨x, List.mem_cons_of_mem _ hx, h1, h2⟩
        have q := n' x hx
        rcases List.mem_cons.mp hy with rfl | hy
        · have : lo ≤ u := k1
          omega
        · exact ⟨y, hy, k1, k2⟩
/-! ### ascending runs -/
inductive Asc : Nat → List (Nat × Nat) → Prop
  | nil {i : Nat} : Asc i []
  | cons {i lo hi : Nat} {t : List (Nat × Nat)} (k : i ≤ lo) (h : lo < hi) (r : Asc (hi + 1) t) : Asc i ((lo, hi) :: t)
theorem Asc.dn {i j : Nat} {t : List (Nat × Nat)} (h : Asc i t) (k : j ≤ i) : Asc j t := by
  cases h with
  | nil => exact .nil
  | cons a b c => exact .cons (Nat.le_trans k a) b c
theorem Asc.low {i : Nat} {t : List (Nat × Nat)} (h : Asc i t) : ∀ x ∈ t, i ≤ x.1 ∧ x.1 < x.2 := by
  induction h with
  | nil => intro x hx; cases hx
  | cons a b c ih =>
    intro x hx
    rcases List.mem_cons.mp hx with rfl | hx
    · exact ⟨a, b⟩
    · have := ih x hx
      exact ⟨by omega, this.2⟩
/-- the two-pointer walk -/
def bothN : List (Nat × Nat) → List (Nat × Nat) → List (Nat × Nat)
  | [], _ => []
  | _ :: _, [] => []
  | (a, b) :: s, (c, d) :: t =>
    let st := if a < c then c else a
    if b < d then (if st < b then [(st, b)] else []) ++ bothN s ((c, d) :: t) else (if st < d then [(st, d)] else []) ++ bothN ((a, b) :: s) t
termination_by s t => s.length + t.length
def In (u : Nat) (t : List (Nat × Nat)) : Prop := ∃ r ∈ t, r.1 ≤ u ∧ u < r.2
theorem in_cons {u lo hi : Nat} {t : List (Nat × Nat)} : In u ((lo, hi) :: t) ↔ (lo ≤ u ∧ u < hi) ∨ In u t := by
  unfold In
  constructor
  · rintro ⟨r, hr, h⟩
    rcases List.mem_cons.mp hr with rfl | hr
    · exact .inl h
    · exact .inr ⟨r, hr, h⟩
  · rintro (h | ⟨r, hr, h⟩)
    · exact ⟨_, List.mem_cons_self, h⟩
    · exact ⟨r, List.mem_cons_of_mem _ hr, h⟩
theorem in_nil {u : Nat} : ¬ In u [] := fun ⟨_, h, _⟩ => nomatch h
theorem Asc.out {i u : Nat} {t : List (Nat × Nat)} (h : Asc i t) (k : u < i) : ¬ In u t := fun ⟨r, hr, h1, _⟩ => by
  have := (h.low r hr).1
  omega
theorem in_seg {u st b : Nat} {t : List (Nat × Nat)} : In u ((if st < b then [(st, b)] else []) ++ t) ↔ (st ≤ u ∧ u < b) ∨ In u t := by
  by_cases h : st < b
  · rw [if_pos h]
    exact in_cons
  · rw [if_neg h, List.nil_append]
    exact ⟨.inr, fun z => z.elim (fun ⟨h1, h2⟩ => by omega) id⟩
theorem bothN_mem : ∀ {s t : List (Nat × Nat)} {i j : Nat}, Asc i s → Asc j t → ∀ u, In u (bothN s t) ↔ In u s ∧ In u t
  | [], t, _, _, _, _, u => by
    rw [bothN]
    exact ⟨fun h => absurd h in_nil, fun h => h.1⟩
  | x :: s, [], _, _, _, _, u => by
    rw [bothN]
    exact ⟨fun h => absurd h in_nil, fun h => h.2⟩
  | (a, b) :: s, (c, d) :: t, _, _, hs, ht, u => by
    rw [bothN]
    cases hs with
    | cons k1 h1 r1 =>
    cases ht with
    | cons k2 h2 r2 =>
      by_cases w : b < d
      · rw [if_pos w, in_seg, bothN_mem r1 (Asc.cons k2 h2 r2) u, in_cons, in_cons]
        have o1 := r1.out (u := u)
        constructor
        · rintro (⟨z1, z2⟩ | ⟨z1, z2⟩)
          · have : a ≤ u ∧ c ≤ u := by split at z1 <;> omega
            exact ⟨.inl ⟨by omega, z2⟩, .inl ⟨by omega, by omega⟩⟩
          · exact ⟨.inr z1, z2⟩
        · rintro ⟨z1 | z1, z2⟩
          · rcases z2 with z2 | z2
            · exact .inl ⟨by split <;> omega, z1.2⟩
            · exact absurd z2 (r2.out (by omega))
          · exact .inr ⟨z1, z2⟩
      · rw [if_neg w, in_seg, bothN_mem (Asc.cons k1 h1 r1) r2 u, in_cons, in_cons]
        constructor
        · rintro (⟨z1, z2⟩ | ⟨z1, z2⟩)
          · have : a ≤ u ∧ c ≤ u := by split at z1 <;> omega
            exact ⟨.inl ⟨by omega, by omega⟩, .inl ⟨by omega, z2⟩⟩
          · exact ⟨z1, .inr z2⟩
        · rintro ⟨z1, z2 | z2⟩
          · rcases z1 with z1 | z1
            · exact .inl ⟨by split <;> omega, z2.2⟩
            · exact absurd z1 (r1.out (by omega))
          · exact .inr ⟨z1, z2⟩
termination_by s t => s.length + t.length
theorem asc_seg {i st b : Nat} {t : List (Nat × Nat)} (k : i ≤ st) (h : Asc (b + 1) t) (ib : i ≤ b + 1) : Asc i ((if st < b then [(st, b)] else []) ++ t) := by
  by_cases w : st < b
  · rw [if_pos w]
    exact .cons k w h
  · rw [if_neg w]
    exact h.dn ib
theorem bothN_asc : ∀ {s t : List (Nat × Nat)} {i j : Nat}, Asc i s → Asc j t → Asc (max i j) (bothN s t)
  | [], t, _, _, _, _ => by rw [bothN]; exact .nil
  | x :: s, [], _, _, _, _ => by rw [bothN]; exact .nil
  | (a, b) :: s, (c, d) :: t, i, j, hs, ht => by
    rw [bothN]
    cases hs with
    | cons k1 h1 r1 =>
    cases ht with
    | cons k2 h2 r2 =>
      by_cases w : b < d
      · rw [if_pos w]
        have ih := bothN_asc r1 (Asc.cons (i := c) (Nat.le_refl c) h2 r2)
        by_cases z : max i j ≤ b + 1
        · exact asc_seg (by split <;> omega) (ih.dn (by omega)) z
        · have e : ¬ (if a < c then c else a) < b := by split <;> omega
          rw [if_neg e]
          exact (bothN_asc r1 (Asc.cons k2 h2 r2)).dn (by omega)
      · rw [if_neg w]
        have ih := bothN_asc (Asc.cons (i := a) (Nat.le_refl a) h1 r1) r2
        by_cases z : max i j ≤ d + 1
        · exact asc_seg (by split <;> omega) (ih.dn (by omega)) z
        · have e : ¬ (if a < c then c else a) < d := by split <;> omega
          rw [if_neg e]
          exact (bothN_asc (Asc.cons k1 h1 r1) r2).dn (by omega)
termination_by s t => s.length + t.length
end Ob
namespace Ob
open PySem PySem.Spec PyProof.Rows L2
section
variable {H : Hp} {σ : L2.St}
theorem rd_asg2 {te : TE} {g1 g2 : TG} {D : Ends} (q : te σ H fun x H1 => g1 x σ H1 fun σ1 H2 => g2 x σ1 H2 D.nx) : tAsg2 te g1 g2 D σ H := q
theorem rd_aug {i : Nat} {te : TE} {ti : TIp} {a : V} {D : Ends} (h : σ[i]? = some (some a)) (q : te σ H fun y H1 => ti a y H1 fun z H2 => D.nx (σ.set i (some z)) H2) : tAug i te ti D σ H := ⟨a, h, q⟩
theorem rd_ipI {f : Int → Int → Int} {a b : Int} {Q : VK} (q : Q (.int (f a b)) H) : ipI f (.int a) (.int b) H Q := ⟨a, b, rfl, rfl, q⟩
end
theorem rd_ifv {P : Prop} [Decidable P] {H : Hp} {σ : L2.St} {i j : Nat} {x y : V} {F : VK} (hx : σ[i]? = some (some x)) (hy : σ[j]? = some (some y)) (q : ∀ p, (P → p = x) → (¬ P → p = y) → F p H) : if decide P = true then tVar i σ H F else tVar j σ H F :=
  rd_if (fun c => rd_var hx (q _ (fun _ => rfl) fun n => absurd c n)) fun c => rd_var hy (q _ (fun n => absurd n c) fun _ => rfl)
def stS (a b : Sn) : Int × Int := if a.x * b.y < b.x * a.y then (b.x, b.y) else (a.x, a.y)
def segS (p : Int × Int) (u v : Int) : List Sn := if p.1 * v < u * p.2 then [⟨p.1, p.2, u, v⟩] else []
/-- what `both` gives, over the spans' numbers -/
def bothS : List Sn → List Sn → List Sn
  | [], _ => []
  | _ :: _, [] => []
  | a :: s, b :: t => if a.u * b.v < b.u * a.v then segS (stS a b) a.u a.v ++ bothS s (b :: t) else segS (stS a b) b.u b.v ++ bothS (a :: s) t
termination_by s t => s.length + t.length
theorem bothS_nil (t : List Sn) : bothS [] t = [] := by rw [bothS]
theorem bothS_nil' (s : List Sn) : bothS s [] = [] := by cases s <;> rw [bothS]
/-- what `_gaps` gives, over the spans' numbers -/
def gapsS : Int × Int → List Sn → List Sn
  | st, [] => segS st 1 1
  | st, s :: t => segS st s.x s.y ++ gapsS (s.u, s.v) t
/-! ### the same over units -/
theorem low_lt {lo hi g : Nat} {x y u v : Int} (h : IsLow (lo : Int) (g : Int) x y) (k : IsLow (hi : Int) (g : Int) u v) (g0 : 0 < g) : x * v < u * y ↔ lo < hi := by
  have e : x * ((g : Int) * 1) = ((lo : Int) * 1 + 0) * y := by
    rw [Int.mul_one, Int.mul_one, Int.add_zero]
    exact h.2.2.1
  have c := cut_lt (fine := 1) (off := 0) e k.2.2.1 h.1 k.1 (by omega) (by decide) (by decide) (by decide)
  rw [c]
  omega
theorem SnsOf.app {g : Nat} {qs : List (Nat × Nat)} {ts : List Sn} (k : SnsOf g qs ts) : ∀ {ps : List (Nat × Nat)} {ss : List Sn}, SnsOf g ps ss → SnsOf g (ps ++ qs) (ss ++ ts)
  | _, _, .nil => k
  | _, _, .cons a b t => .cons a b (SnsOf.app k t)
theorem seg_of {g st b : Nat} {p : Int × Int} {u v : Int} (g0 : 0 < g) (h : IsLow (st : Int) (g : Int) p.1 p.2) (k : IsLow (b : Int) (g : Int) u v) : SnsOf g (if st < b then [(st, b)] else []) (segS p u v) := by
  unfold segS
  by_cases w : st < b
  · rw [if_pos w, if_pos ((low_lt h k g0).mpr w)]
    exact .cons h k .nil
  · rw [if_neg w, if_neg fun z => w ((low_lt h k g0).mp z)]
    exact .nil
theorem both_of {g : Nat} (g0 : 0 < g) : ∀ {ps qs : List (Nat × Nat)} {ss ts : List Sn}, SnsOf g ps ss → SnsOf g qs ts → SnsOf g (bothN ps qs) (bothS ss ts)
  | _, _, _, _, .nil, _ => by
    rw [bothN, bothS]
    exact .nil
  | _, _, _, _, .cons a b t, .nil => by
    rw [bothN, bothS]
    exact .nil
  | (lo, hi) :: ps, (lo', hi') :: qs, s :: ss, z :: ts, .cons a b t, .cons a' b' t' => by
    rw [bothN, bothS]
    have st : IsLow (((if lo < lo' then lo' else lo) : Nat) : Int) (g : Int) (stS s z).1 (stS s z).2 := by
      unfold stS
      by_cases w : lo < lo'
      · rw [if_pos w, if_pos ((low_lt a a' g0).mpr w)]
        exact a'
      · rw [if_neg w, if_neg fun y => w ((low_lt a a' g0).mp y)]
        exact a
    by_cases w : hi < hi'
    · rw [if_pos w, if_pos ((low_lt b b' g0).mpr w)]
      exact SnsOf.app (both_of g0 t (.cons a' b' t')) (seg_of g0 st b)
    · rw [if_neg w, if_neg fun y => w ((low_lt b b' g0).mp y)]
      exact SnsOf.app (both_of g0 (.cons a b t) t') (seg_of g0 st b')
termination_by ps qs => ps.length + qs.length
def gapsN (g : Nat) : Nat → List (Nat × Nat) → List (Nat × Nat)
  | st, [] => if st < g then [(st, g)] else []
  | st, (lo, hi) :: t => (if st < lo then [(st, lo)] else []) ++ gapsN g hi t
theorem gaps_of {g : Nat} (g0 : 0 < g) : ∀ {ps : List (Nat × Nat)} {ss : List Sn} {st : Nat} {p : Int × Int}, SnsOf g ps ss → IsLow (st : Int) (g : Int) p.1 p.2 → SnsOf g (gapsN g st ps) (gapsS p ss)
  | _, _, _, _, .nil, h => seg_of g0 h (low_of (by decide) (by decide) (by rw [Int.one_mul, Int.mul_one]) (by omega))
  | _, _, _, _, .cons a b t, h => SnsOf.app (gaps_of g0 t b) (seg_of g0 h a)
theorem gapsN_mem {g : Nat} : ∀ {ps : List (Nat × Nat)} {i st : Nat}, Asc i ps → (∀ x ∈ ps, x.2 ≤ g) → st ≤ i → ∀ u, In u (gapsN g st ps) ↔ st ≤ u ∧ u < g ∧ ¬ In u ps
  | [], i, st, _, _, _, u => by
    unfold gapsN
    have := in_seg (u := u) (st := st) (b := g) (t := [])
    rw [List.append_nil] at this
    rw [this]
    have n := in_nil (u := u)
    exact ⟨fun h => h.elim (fun h => ⟨h.1, h.2, n⟩) fun h => absurd h n, fun h => .inl ⟨h.1, h.2.1⟩⟩
  | (lo, hi) :: t, i, st, h, hg, hi', u => by
    cases h with
    | cons k hh r =>
    have o := r.out (u := u)
    have hb : hi ≤ g := hg _ List.mem_cons_self
    unfold gapsN
    rw [in_seg, gapsN_mem r (fun x hx => hg x (List.mem_cons_of_mem _ hx)) (Nat.le_succ _) u, in_cons]
    constructor
    · rintro (⟨a, b⟩ | ⟨a, b, c⟩)
      · exact ⟨a, by omega, fun z => z.elim (fun z => by omega) (o (by omega))⟩
      · exact ⟨by omega, b, fun z => z.elim (fun z => by omega) c⟩
    · rintro ⟨a, b, c⟩
      by_cases w : u < lo
      · exact .inl ⟨a, w⟩
      · refine .inr ⟨?_, b, fun z => c (.inr z)⟩
        rcases Nat.lt_or_ge u hi with y | y
        · exact absurd (.inl ⟨by omega, y⟩) c
        · exact y
theorem gapsN_asc {g : Nat} : ∀ {ps : List (Nat × Nat)} {i st : Nat}, Asc i ps → st ≤ i → Asc st (gapsN g st ps)
  | [], _, st, _, _ => by
    unfold gapsN
    have := asc_seg (i := st) (st := st) (b := g) (t := [])
    rw [List.append_nil] at this
    by_cases w : st < g
    · exact this (Nat.le_refl _) .nil (by omega)
    · rw [if_neg w]
      exact .nil
  | (lo, hi) :: t, _, st, h, k => by
    cases h with
    | cons k1 hh r =>
    unfold gapsN
    exact asc_seg (Nat.le_refl _) ((gapsN_asc r (Nat.le_succ _)).dn (by omega)) (by omega)
theorem asc_ext : ∀ {a b : List (Nat × Nat)} {i j : Nat}, Asc i a → Asc j b → (∀ u, In u a ↔ In u b) → a = b
  | [], [], _, _, _, _, _ => rfl
  | [], (lo, hi) :: t, _, _, _, hb, e => by
    cases hb with
    | cons k h r => exact absurd ((e lo).mpr (in_cons.mpr (.inl ⟨Nat.le_refl _, h⟩))) in_nil
  | (lo, hi) :: t, [], _, _, ha, _, e => by
    cases ha with
    | cons k h r => exact absurd ((e lo).mp (in_cons.mpr (.inl ⟨Nat.le_refl _, h⟩))) in_nil
  | (lo, hi) :: t, (lo', hi') :: t', _, _, ha, hb, e => by
    cases ha with
    | cons k h r =>
    cases hb with
    | cons k' h' r' =>
    have f1 := in_cons.mp ((e lo).mp (in_cons.mpr (.inl ⟨Nat.le_refl _, h⟩)))
    have f2 := in_cons.mp ((e lo').mpr (in_cons.mpr (.inl ⟨Nat.le_refl _, h'⟩)))
    have g1 : lo' ≤ lo := by
      rcases Nat.lt_or_ge lo lo' with w | w
      · exact f1.elim (fun z => z.1) fun z => absurd z (r'.out (by omega))
      · exact w
    have g2 : lo ≤ lo' := by
      rcases Nat.lt_or_ge lo' lo with w | w
      · exact f2.elim (fun z => z.1) fun z => absurd z (r.out (by omega))
      · exact w
    have g3 : hi' ≤ hi := by
      rcases Nat.lt_or_ge hi hi' with w | w
      · have := in_cons.mp ((e hi).mpr (in_cons.mpr (.inl ⟨by omega, w⟩)))
        exact this.elim (fun z => by omega) fun z => absurd z (r.out (by omega))
      · exact w
    have g4 : hi ≤ hi' := by
      rcases Nat.lt_or_ge hi' hi with w | w
      · have := in_cons.mp ((e hi').mp (in_cons.mpr (.inl ⟨by omega, w⟩)))
        exact this.elim (fun z => by omega) fun z => absurd z (r'.out (by omega))
      · exact w
    have e1 : lo = lo' := Nat.le_antisymm g2 g1
    have e2 : hi = hi' := Nat.le_antisymm g4 g3
    subst e1 e2
    congr 1
    refine asc_ext r r' fun u => ⟨fun z => ?_, fun z => ?_⟩
    · have q := in_cons.mp ((e u).mp (in_cons.mpr (.inr z)))
      rcases q with q | q
      · exact absurd z (r.out (by omega))
      · exact q
    · have q := in_cons.mp ((e u).mpr (in_cons.mpr (.inr z)))
      rcases q with q | q
      · exact absurd z (r'.out (by omega))
      · exact q
theorem asc_snoc : ∀ {s : List (Nat × Nat)} {i lo hi : Nat}, Asc i s → (∀ x ∈ s, x.2 < lo) → i ≤ lo → lo < hi → Asc i (s ++ [(lo, hi)])
  | [], _, _, _, _, _, k, h => .cons k h .nil
  | (a, b) :: t, _, _, _, hs, n, k, h => by
    cases hs with
    | cons k1 h1 r => exact .cons k1 h1 (asc_snoc r (fun x hx => n x (List.mem_cons_of_mem _ hx)) (n _ List.mem_cons_self) h)
theorem asc_rev {i : Nat} {t : List (Nat × Nat)} (h : Runs i t) : Asc 0 t.reverse := by
  induction h with
  | nil => exact .nil
  | cons a b c d ih =>
    rw [List.reverse_cons]
    exact asc_snoc ih (fun x hx => c x (List.mem_reverse.mp hx)) (Nat.zero_le _) a
theorem sns_uniq {g : Nat} (g0 : 0 < g) : ∀ {ps : List (Nat × Nat)} {ss ts : List Sn}, SnsOf g ps ss → SnsOf g ps ts → ss = ts
  | _, _, _, .nil, .nil => rfl
  | _, s :: _, z :: _, .cons a b t, .cons a' b' t' => by
    obtain ⟨e1, e2⟩ := low_uniq a a' (by omega) (by omega) rfl
    obtain ⟨e3, e4⟩ := low_uniq b b' (by omega) (by omega) rfl
    rw [sns_uniq g0 t t']
    cases s
    cases z
    simp only at e1 e2 e3 e4
    subst e1 e2 e3 e4
    rfl
/-! ### what both and without come to, as drawn forms -/
theorem in_rruns (f : Nat → Bool) (g u : Nat) : In u (rruns f g).reverse ↔ u < g ∧ f u = true := by
  constructor
  · rintro ⟨r, hr, h1, h2⟩
    have hr := List.mem_reverse.mp hr
    have := (rruns_ok f g).bnd r hr
    exact ⟨by omega, (rruns_mem f g u (by omega)).mpr ⟨r, hr, h1, h2⟩⟩
  · rintro ⟨h, k⟩
    obtain ⟨r, hr, z⟩ := (rruns_mem f g u h).mp k
    exact ⟨r, List.mem_reverse.mpr hr, z⟩
theorem both_form {g : Nat} (g0 : 0 < g) {f h : Nat → Bool} {ss ts : List Sn} (a : SnsOf g (rruns f g).reverse ss) (b : SnsOf g (rruns h g).reverse ts) : SnsOf g (rruns (fun u => f u && h u) g).reverse (bothS ss ts) := by
  have A := asc_rev (rruns_ok f g)
  have B := asc_rev (rruns_ok h g)
  have e : bothN (rruns f g).reverse (rruns h g).reverse = (rruns (fun u => f u && h u) g).reverse := asc_ext (bothN_asc A B) (asc_rev (rruns_ok _ g)) fun u => by
    rw [bothN_mem A B, in_rruns, in_rruns, in_rruns, Bool.and_eq_true]
    exact ⟨fun ⟨⟨x, y⟩, _, z⟩ => ⟨x, y, z⟩, fun ⟨x, y, z⟩ => ⟨⟨x, y⟩, x, z⟩⟩
  exact e ▸ both_of g0 a b
theorem without_form {g : Nat} (g0 : 0 < g) {f h : Nat → Bool} {ss ts : List Sn} (a : SnsOf g (rruns f g).reverse ss) (b : SnsOf g (rruns h g).reverse ts) : SnsOf g (rruns (fun u => f u && !h u) g).reverse (bothS ss (gapsS (0, 1) ts)) := by
  have A := asc_rev (rruns_ok f g)
  have B := asc_rev (rruns_ok h g)
  have bd : ∀ x ∈ (rruns h g).reverse, x.2 ≤ g := fun x hx => (rruns_ok h g).bnd x (List.mem_reverse.mp hx)
  have G : Asc 0 (gapsN g 0 (rruns h g).reverse) := gapsN_asc B (Nat.le_refl _)
  have e : bothN (rruns f g).reverse (gapsN g 0 (rruns h g).reverse) = (rruns (fun u => f u && !h u) g).reverse := asc_ext (bothN_asc A G) (asc_rev (rruns_ok _ g)) fun u => by
    rw [bothN_mem A G, in_rruns, gapsN_mem B bd (Nat.le_refl _), in_rruns, in_rruns, Bool.and_eq_true, Bool.not_eq_true']
    constructor
    · rintro ⟨⟨x, y⟩, _, _, z⟩
      refine ⟨x, y, ?_⟩
      cases hu : h u with
      | false => rfl
      | true => exact absurd ⟨x, hu⟩ z
    · rintro ⟨x, y, z⟩
      exact ⟨⟨x, y⟩, Nat.zero_le _, x, fun w => by rw [z] at w; cases w.2⟩
  refine e ▸ both_of g0 a (gaps_of g0 b (p := (0, 1)) (low_of (by decide) (by decide) (by simp) (by omega)))
end Ob
namespace Ob
/-! ### sums of floors: the plain mathematics -/
def fs : Nat → Int → Int → Int → Int
  | 0, _, _, _ => 0
  | n + 1, a, b, m => fs n a b m + (a * n + b) / m
theorem tri (n : Nat) : (((n + 1 : Nat) : Int) * (((n + 1 : Nat) : Int) - 1)) / 2 = (n : Int) * ((n : Int) - 1) / 2 + n := by
  have e : ((n + 1 : Nat) : Int) * (((n + 1 : Nat) : Int) - 1) = (n : Int) * ((n : Int) - 1) + n * 2 := by push_cast; grind
  rw [e, Int.add_mul_ediv_right _ _ (by decide)]
theorem fs_top {m : Int} (h : 0 < m) (a b q : Int) : ∀ n : Nat, fs n (a + q * m) b m = fs n a b m + q * ((n : Int) * ((n : Int) - 1) / 2)
  | 0 => by simp [fs]
  | n + 1 => by
    rw [tri, fs, fs, fs_top h a b q n]
    have e : (a + q * m) * n + b = (a * n + b) + (q * n) * m := by grind
    rw [e, Int.add_mul_ediv_right _ _ (by omega)]
    grind
theorem fs_start {m : Int} (h : 0 < m) (a b q : Int) : ∀ n : Nat, fs n a (b + q * m) m = fs n a b m + q * n
  | 0 => by simp [fs]
  | n + 1 => by
    rw [fs, fs, fs_start h a b q n]
    have e : a * n + (b + q * m) = (a * n + b) + q * m := by grind
    rw [e, Int.add_mul_ediv_right _ _ (by omega)]
    push_cast
    grind
theorem fs_red {m : Int} (h : 0 < m) (a b : Int) (n : Nat) : fs n a b m = (n : Int) * ((n : Int) - 1) / 2 * (a / m) + n * (b / m) + fs n (a % m) (b % m) m := by
  have ea : a = a % m + (a / m) * m := by have := Int.emod_add_mul_ediv a m; grind
  have eb : b = b % m + (b / m) * m := by have := Int.emod_add_mul_ediv b m; grind
  have h1 := fs_top h (a % m) b (a / m) n
  have h2 := fs_start h (a % m) (b % m) (b / m) n
  rw [← ea] at h1
  rw [← eb] at h2
  rw [h1, h2]
  grind
theorem fs_head (a b m : Int) : ∀ n : Nat, fs (n + 1) a b m = b / m + fs n a (b + a) m
  | 0 => by simp [fs]
  | n + 1 => by
    rw [fs, fs_head a b m n, fs]
    have e : a * ((n + 1 : Nat) : Int) + b = a * n + (b + a) := by push_cast; grind
    rw [e]
    omega
theorem fs_one {a : Int} (h : 0 < a) (m b : Int) (n : Nat) : fs n m (b + a) a = fs n m b a + n := by
  have := fs_start h m b 1 n
  rw [Int.one_mul, Int.one_mul] at this
  exact this
theorem div_is {e m : Int} {y : Int} (h : 0 < m) (h1 : y * m ≤ e) (h2 : e < (y + 1) * m) : e / m = y := by
  have a1 : y ≤ e / m := (Int.le_ediv_iff_mul_le h).2 h1
  have a2 : e / m < y + 1 := (Int.ediv_lt_iff_lt_mul h).2 h2
  omega
theorem fs_flip' {a b m : Int} (ha : 0 < a) (ham : a < m) (hb : 0 ≤ b) (hbm : b < m) : ∀ (n : Nat) (y : Nat), (y : Int) * m ≤ a * n + b → a * n + b < ((y : Int) + 1) * m → fs n a b m = fs y m (a * n + b - y * m) a
  | 0, y, h1, h2 => by
    have hm : 0 < m := by omega
    have : (y : Int) = 0 := by
      have e := div_is hm h1 h2
      have : (a * ((0 : Nat) : Int) + b) / m = 0 := by
        rw [show a * ((0 : Nat) : Int) + b = b by simp]
        exact Int.ediv_eq_zero_of_lt hb hbm
      omega
    have : y = 0 := by omega
    subst this
    simp [fs]
  | n + 1, y, h1, h2 => by
    have hm : 0 < m := by omega
    have e' : a * ((n + 1 : Nat) : Int) + b = (a * n + b) + a := by push_cast; grind
    rw [e'] at h1 h2 ⊢
    rw [fs]
    have hn : 0 ≤ a * (n : Int) := Int.mul_nonneg (by omega) (by omega)
    generalize hE : a * (n : Int) + b = E at h1 h2 ⊢
    have hE0 : 0 ≤ E := by omega
    have q1 : E / m * m ≤ E := Int.ediv_mul_le _ (by omega)
    have q2 : E < (E / m + 1) * m := Int.lt_ediv_add_one_mul_self _ hm
    have q0 : 0 ≤ E / m := Int.ediv_nonneg hE0 (by omega)
    obtain ⟨z, hz⟩ := Int.eq_ofNat_of_zero_le q0
    rw [hz] at q1 q2 ⊢
    have ih := fs_flip' ha ham hb hbm n z (by rw [hE]; exact q1) (by rw [hE]; exact q2)
    rw [hE] at ih
    rw [ih]
    have c1 : (z : Int) ≤ y := by
      have : (z : Int) * m < ((y : Int) + 1) * m := by omega
      have := Int.lt_of_mul_lt_mul_right this (by omega)
      omega
    have c2 : (y : Int) ≤ z + 1 := by
      have : (y : Int) * m < ((z : Int) + 1 + 1) * m := by
        have : ((z : Int) + 1 + 1) * m = (z + 1) * m + m := by grind
        omega
      have := Int.lt_of_mul_lt_mul_right this (by omega)
      omega
    rcases (show y = z ∨ y = z + 1 by omega) with rfl | rfl
    · rw [show E + a - (y : Int) * m = (E - y * m) + a by omega, fs_one ha]
    · rw [fs_head]
      have e3 : E + a - ((z + 1 : Nat) : Int) * m + m = (E - z * m) + a := by push_cast; grind
      rw [e3, fs_one ha]
      have : (E + a - ((z + 1 : Nat) : Int) * m) / a = 0 := by
        refine Int.ediv_eq_zero_of_lt ?_ ?_
        · omega
        · push_cast
          omega
      omega
theorem fs_zero {b m : Int} (hb : 0 ≤ b) (hbm : b < m) : ∀ n : Nat, fs n 0 b m = 0
  | 0 => rfl
  | n + 1 => by
    rw [fs, fs_zero hb hbm n]
    simp [Int.ediv_eq_zero_of_lt hb hbm]
theorem fs_flip {a b m : Int} (ha : 0 ≤ a) (ham : a < m) (hb : 0 ≤ b) (hbm : b < m) (n : Nat) : fs n a b m = fs ((a * n + b) / m).toNat m ((a * n + b) % m) a := by
  have hm : 0 < m := by omega
  by_cases z : a = 0
  · subst z
    rw [fs_zero hb hbm]
    have : (0 * (n : Int) + b) / m = 0 := by simp [Int.ediv_eq_zero_of_lt hb hbm]
    rw [this]
    rfl
  · have h0 : 0 ≤ a * (n : Int) := Int.mul_nonneg ha (by omega)
    have q1 : (a * n + b) / m * m ≤ a * n + b := Int.ediv_mul_le _ (by omega)
    have q2 : a * n + b < ((a * n + b) / m + 1) * m := Int.lt_ediv_add_one_mul_self _ hm
    have q0 : 0 ≤ (a * n + b) / m := Int.ediv_nonneg (by omega) (by omega)
    have e : (((a * n + b) / m).toNat : Int) = (a * n + b) / m := Int.toNat_of_nonneg q0
    have := fs_flip' (by omega) ham hb hbm n ((a * n + b) / m).toNat (by rw [e]; exact q1) (by rw [e]; exact q2)
    rw [e] at this
    rw [this]
    congr 1
    have := Int.emod_add_mul_ediv (a * n + b) m
    grind
/-- the number of rows is never more than that of columns -/
theorem flip_le {a b m : Int} (ha : 0 ≤ a) (ham : a < m) (hb : 0 ≤ b) (hbm : b < m) {n : Int} (hn : 0 ≤ n) : 0 ≤ (a * n + b) / m ∧ (a * n + b) / m ≤ n := by
  have h0 : 0 ≤ a * n := Int.mul_nonneg ha hn
  refine ⟨Int.ediv_nonneg (by omega) (by omega), ?_⟩
  have : (a * n + b) / m < n + 1 := by
    refine (Int.ediv_lt_iff_lt_mul (by omega)).2 ?_
    have : a * n ≤ (m - 1) * n := Int.mul_le_mul_of_nonneg_right (by omega) hn
    have : (n + 1) * m = (m - 1) * n + n + m := by grind
    omega
  omega
/-! ### k14: remainders between bounds -/
def cnt (p : Nat → Bool) : Nat → Nat
  | 0 => 0
  | n + 1 => cnt p n + (if p n then 1 else 0)
theorem step_in {x m lo hi : Int} (hm : 0 < m) (h0 : 0 ≤ lo) (h1 : lo ≤ hi) (h2 : hi < m) :
    (x - lo) / m - (x - hi - 1) / m = if lo ≤ x % m ∧ x % m ≤ hi then 1 else 0 := by
  have e := Int.emod_add_mul_ediv x m
  have r0 := Int.emod_nonneg x (show m ≠ 0 by omega)
  have r1 := Int.emod_lt_of_pos x hm
  generalize x % m = r at *
  generalize x / m = q at *
  have e1 : (x - lo) / m = if lo ≤ r then q else q - 1 := by
    split
    · refine div_is hm ?_ ?_ <;> grind
    · refine div_is hm ?_ ?_ <;> grind
  have e2 : (x - hi - 1) / m = if hi < r then q else q - 1 := by
    split
    · refine div_is hm ?_ ?_ <;> grind
    · refine div_is hm ?_ ?_ <;> grind
  rw [e1, e2]
  split <;> split <;> split <;> omega
theorem fs_within {a b m lo hi : Int} (hm : 0 < m) (h0 : 0 ≤ lo) (h1 : lo ≤ hi) (h2 : hi < m) : ∀ n : Nat,
    fs n a (b - lo) m - fs n a (b - hi - 1) m = (cnt (fun k => decide (lo ≤ (a * k + b) % m ∧ (a * k + b) % m ≤ hi)) n : Nat)
  | 0 => by simp [fs, cnt]
  | n + 1 => by
    rw [fs, fs, cnt]
    have ih := fs_within (a := a) (b := b) hm h0 h1 h2 n
    have s := step_in (x := a * n + b) hm h0 h1 h2
    rw [show a * (n : Int) + (b - lo) = a * n + b - lo by omega, show a * (n : Int) + (b - hi - 1) = a * n + b - hi - 1 by omega]
    push_cast
    rw [← ih]
    by_cases c : lo ≤ (a * (n : Int) + b) % m ∧ (a * (n : Int) + b) % m ≤ hi
    · rw [if_pos c] at s
      rw [decide_eq_true c]
      simp
      omega
    · rw [if_neg c] at s
      rw [decide_eq_false c]
      simp
      omega
end Ob
namespace Ob
/-! ### k13: the far sums -/
theorem fs_split (a b m : Int) (c : Nat) : ∀ n : Nat, fs (c + n) a b m = fs c a b m + fs n a (b + a * c) m
  | 0 => by simp [fs]
  | n + 1 => by
    rw [show c + (n + 1) = (c + n) + 1 from rfl, fs, fs_split a b m c n, fs]
    have e : a * ((c + n : Nat) : Int) + b = a * n + (b + a * c) := by push_cast; grind
    rw [e]
    omega
theorem fs_turn (a m : Int) : ∀ (n : Nat) (b : Int), fs n (-a) (b + a * ((n : Int) - 1)) m = fs n a b m
  | 0, b => rfl
  | n + 1, b => by
    rw [fs_head, fs]
    have e : b + a * (((n + 1 : Nat) : Int) - 1) + -a = b + a * ((n : Int) - 1) := by push_cast; grind
    have e2 : b + a * (((n + 1 : Nat) : Int) - 1) = a * n + b := by push_cast; grind
    rw [e, e2, fs_turn a m n b]
    omega
theorem neg_div {x m : Int} (hm : 0 < m) : (-x) / m = -(x / m) - 1 + (if x % m = 0 then 1 else 0) := by
  have e := Int.emod_add_mul_ediv x m
  have r0 := Int.emod_nonneg x (show m ≠ 0 by omega)
  have r1 := Int.emod_lt_of_pos x hm
  generalize x % m = r at *
  generalize x / m = q at *
  split
  · refine div_is hm ?_ ?_ <;> grind
  · refine div_is hm ?_ ?_ <;> grind
theorem fs_neg {a b m : Int} (hm : 0 < m) : ∀ n : Nat, fs n (-a) (-b) m = (cnt (fun k => decide (0 ≤ (a * k + b) % m ∧ (a * k + b) % m ≤ 0)) n : Nat) - n - fs n a b m
  | 0 => by simp [fs, cnt]
  | n + 1 => by
    rw [fs, fs_neg hm n, fs, cnt]
    have e : -a * (n : Int) + -b = -(a * n + b) := by grind
    rw [e, neg_div hm]
    have r0 := Int.emod_nonneg (a * n + b) (show m ≠ 0 by omega)
    push_cast
    by_cases c : (a * (n : Int) + b) % m = 0
    · rw [if_pos c, decide_eq_true (show 0 ≤ (a * (n : Int) + b) % m ∧ (a * (n : Int) + b) % m ≤ 0 by omega)]
      simp
      omega
    · rw [if_neg c, decide_eq_false (show ¬ (0 ≤ (a * (n : Int) + b) % m ∧ (a * (n : Int) + b) % m ≤ 0) by omega)]
      simp
      omega
theorem tri2 (n : Nat) : 2 * ((n : Int) * ((n : Int) - 1) / 2) = n * (n - 1) := by
  induction n with
  | zero => rfl
  | succ n ih =>
    rw [tri, Int.mul_add, ih]
    push_cast
    grind
theorem fs_grid : ∀ (a n : Nat), 0 < n → 2 * fs n a 0 n = ((n : Int) - 1) * ((a : Int) - 1) + (Nat.gcd n a : Nat) - 1 := by
  intro a
  induction a using Nat.strongRecOn with
  | ind a ih =>
    intro n hn
    -- reduce a below n
    have hm : (0 : Int) < n := by omega
    by_cases c : a < n
    · by_cases z : a = 0
      · subst z
        rw [show ((0 : Nat) : Int) = 0 from rfl, fs_zero (by decide) hm]
        simp
        omega
      · -- flip: fs n a 0 n = fs a n 0 a, and n is reduced by a
        have f := fs_flip (a := a) (b := 0) (m := n) (by omega) (by omega) (by decide) hm n
        have e1 : ((a : Int) * (n : Int) + 0) / n = a := by rw [Int.add_zero, Int.mul_ediv_cancel _ (by omega)]
        have e2 : ((a : Int) * (n : Int) + 0) % n = 0 := by rw [Int.add_zero]; exact Int.mul_emod_left _ _
        rw [e1, e2] at f
        rw [Int.toNat_natCast] at f
        have hr : n % a < a := Nat.mod_lt _ (by omega)
        have g := ih (n % a) hr a (by omega)
        have t := fs_top (m := (a : Int)) (by omega) ((n % a : Nat) : Int) 0 ((n / a : Nat) : Int) a
        have en : ((n % a : Nat) : Int) + ((n / a : Nat) : Int) * (a : Int) = n := by
          have := Nat.mod_add_div n a
          have h2 : ((n % a : Nat) : Int) + (a : Int) * ((n / a : Nat) : Int) = n := by exact_mod_cast this
          grind
        rw [en] at t
        have t2 := tri2 a
        have gc : Nat.gcd a (n % a) = Nat.gcd n a := by rw [Nat.gcd_comm n a, Nat.gcd_rec a n, Nat.gcd_comm]
        rw [gc] at g
        rw [f, t, Int.mul_add, g]
        have : 2 * (((n / a : Nat) : Int) * ((a : Int) * ((a : Int) - 1) / 2)) = ((n / a : Nat) : Int) * (a * (a - 1)) := by rw [← t2]; grind
        rw [this]
        grind
    · have hr : a % n < n := Nat.mod_lt _ hn
      have hlt : a % n < a := by omega
      have g := ih (a % n) hlt n hn
      have t := fs_top (m := (n : Int)) hm ((a % n : Nat) : Int) 0 ((a / n : Nat) : Int) n
      have en : ((a % n : Nat) : Int) + ((a / n : Nat) : Int) * (n : Int) = a := by
        have := Nat.mod_add_div a n
        have h2 : ((a % n : Nat) : Int) + (n : Int) * ((a / n : Nat) : Int) = a := by exact_mod_cast this
        grind
      rw [en] at t
      have t2 := tri2 n
      have gc : Nat.gcd n (a % n) = Nat.gcd n a := by rw [Nat.gcd_rec n a, Nat.gcd_comm]
      rw [gc] at g
      rw [t, Int.mul_add, g]
      have : 2 * (((a / n : Nat) : Int) * ((n : Int) * ((n : Int) - 1) / 2)) = ((a / n : Nat) : Int) * (n * (n - 1)) := by rw [← t2]; grind
      rw [this]
      grind
/-! ### counts of two parts -/
theorem cnt_split (p : Nat → Bool) (c : Nat) : ∀ n, cnt p (c + n) = cnt p c + cnt (fun k => p (c + k)) n
  | 0 => by simp [cnt]
  | n + 1 => by
    rw [show c + (n + 1) = (c + n) + 1 from rfl, cnt, cnt_split p c n, cnt]
    omega
theorem cnt_le (p : Nat → Bool) : ∀ n, cnt p n ≤ n
  | 0 => Nat.le_refl _
  | n + 1 => by
    have := cnt_le p n
    rw [cnt]
    split <;> omega
theorem cnt_all {p : Nat → Bool} : ∀ n, (∀ k, k < n → p k = true) → cnt p n = n
  | 0, _ => rfl
  | n + 1, h => by
    rw [cnt, cnt_all n fun k hk => h k (by omega), h n (by omega)]
    rfl
theorem cnt_none {p : Nat → Bool} : ∀ n, cnt p n = 0 ↔ ∀ k, k < n → p k = false
  | 0 => by simp [cnt]
  | n + 1 => by
    rw [cnt]
    constructor
    · intro h k hk
      have h1 : cnt p n = 0 := by omega
      by_cases c : k = n
      · subst c
        by_cases hp : p k = true
        · simp [hp] at h
        · simpa using hp
      · exact (cnt_none n).1 h1 k (by omega)
    · intro h
      rw [(cnt_none n).2 fun k hk => h k (by omega), h n (by omega)]
      rfl
theorem cnt_three {p q r : Nat → Bool} (h : ∀ k, (if p k then 1 else 0) + (if q k then 1 else 0) + (if r k then 1 else 0) = 1) : ∀ n, cnt p n + cnt q n + cnt r n = n
  | 0 => rfl
  | n + 1 => by
    have := cnt_three h n
    have := h n
    rw [cnt, cnt, cnt]
    omega
end Ob
namespace Ob
/-! ### k15: the first remainder between bounds -/
def InR (s u lo hi k : Int) : Prop := lo ≤ (s * k) % u ∧ (s * k) % u ≤ hi
def Least (P : Int → Prop) (k : Int) : Prop := 0 ≤ k ∧ P k ∧ ∀ i, 0 ≤ i → i < k → ¬ P i
def NoneIs (P : Int → Prop) : Prop := ∀ i, 0 ≤ i → ¬ P i
def Prob (s u lo hi : Int) : Prop := 0 ≤ s ∧ s < u ∧ 0 < lo ∧ lo ≤ hi ∧ hi < u
def up (x s : Int) : Int := -((-x) / s)
theorem up_spec {x s : Int} (hs : 0 < s) : x ≤ s * up x s ∧ s * up x s < x + s ∧ s * up x s = x + (-x) % s := by
  have e := Int.emod_add_mul_ediv (-x) s
  have r0 := Int.emod_nonneg (-x) (show s ≠ 0 by omega)
  have r1 := Int.emod_lt_of_pos (-x) hs
  have : s * up x s = x + (-x) % s := by unfold up; grind
  omega
theorem up_le {x s k : Int} (hs : 0 < s) (h : x ≤ s * k) : up x s ≤ k := by
  have h1 := (up_spec (x := x) hs).2.1
  have : s * up x s < s * (k + 1) := by
    have : s * (k + 1) = s * k + s := by grind
    omega
  have := Int.lt_of_mul_lt_mul_left this (by omega)
  omega
theorem up_lt {x s k : Int} (hs : 0 < s) (h : k < up x s) : s * k < x := by
  rcases Int.lt_or_le (s * k) x with h1 | h1
  · exact h1
  · have := up_le hs h1
    omega
theorem mod_at {x u r j : Int} (hu : 0 < u) (e : x = u * j + r) (h0 : 0 ≤ r) (h1 : r < u) : x % u = r ∧ x / u = j := by
  have h2 : x / u = j := div_is hu (by grind) (by grind)
  have := Int.emod_add_mul_ediv x u
  rw [h2] at this
  exact ⟨by omega, h2⟩
theorem least_here {s u lo hi : Int} (p : Prob s u lo hi) (hs : 0 < s) (h : lo + (-lo) % s ≤ hi) : Least (InR s u lo hi) (up lo s) := by
  obtain ⟨_, p1, p2, p3, p4⟩ := p
  have sp := up_spec (x := lo) hs
  have k0 : 0 ≤ up lo s := by
    have : s * 0 < s * up lo s := by omega
    have := Int.lt_of_mul_lt_mul_left this (by omega)
    omega
  refine ⟨k0, ?_, fun i i0 i1 hI => ?_⟩
  · unfold InR
    rw [Int.emod_eq_of_lt (by omega) (by omega)]
    omega
  · have h1 := up_lt hs i1
    have h2 : 0 ≤ s * i := Int.mul_nonneg (by omega) i0
    unfold InR at hI
    rw [Int.emod_eq_of_lt (by omega) (by omega)] at hI
    omega
/-- no multiple of s between the bounds -/
theorem gap_of {s lo hi : Int} (hs : 0 < s) (h1 : lo ≤ hi) (h : hi < lo + (-lo) % s) : 0 < lo % s ∧ lo % s ≤ hi % s ∧ hi % s < s ∧ hi / s = lo / s := by
  have e := Int.emod_add_mul_ediv lo s
  have r0 := Int.emod_nonneg lo (show s ≠ 0 by omega)
  have r1 := Int.emod_lt_of_pos lo hs
  have hr : lo % s ≠ 0 := by
    intro z
    have : (-lo) % s = 0 := Int.emod_eq_zero_of_dvd (Int.dvd_neg.2 (Int.dvd_of_emod_eq_zero z))
    omega
  have hm : (-lo) % s = s - lo % s := by
    refine (mod_at (j := -(lo / s) - 1) hs ?_ (by omega) (by omega)).1
    grind
  have hh := mod_at (x := hi) (u := s) (j := lo / s) (r := lo % s + (hi - lo)) hs (by omega) (by omega) (by omega)
  omega
theorem turn_prob {s u lo hi : Int} (p : Prob s u lo hi) (hs : 0 < s) (h : hi < lo + (-lo) % s) : Prob (u % s) s (s - hi % s) (s - lo % s) := by
  obtain ⟨_, p1, p2, p3, p4⟩ := p
  obtain ⟨g1, g2, g3, g4⟩ := gap_of hs p3 h
  exact ⟨Int.emod_nonneg _ (by omega), Int.emod_lt_of_pos _ hs, by omega, by omega, by omega⟩
theorem turn_iff {s u lo hi : Int} (p : Prob s u lo hi) (hs : 0 < s) (h : hi < lo + (-lo) % s) (j : Int) :
    InR (u % s) s (s - hi % s) (s - lo % s) j ↔ ∃ k, lo + u * j ≤ s * k ∧ s * k ≤ hi + u * j := by
  obtain ⟨_, p1, p2, p3, p4⟩ := p
  obtain ⟨g1, g2, g3, g4⟩ := gap_of hs p3 h
  have el := Int.emod_add_mul_ediv lo s
  have eh := Int.emod_add_mul_ediv hi s
  rw [g4] at eh
  have er : (u % s * j) % s = (u * j) % s := by rw [Int.mul_emod, Int.emod_emod, ← Int.mul_emod]
  unfold InR
  rw [er]
  have eu := Int.emod_add_mul_ediv (u * j) s
  have r0 := Int.emod_nonneg (u * j) (show s ≠ 0 by omega)
  have r1 := Int.emod_lt_of_pos (u * j) hs
  generalize (u * j) % s = r at *
  generalize u * j = U at *
  generalize U / s = q at *
  generalize lo / s = t at *
  generalize lo % s = l at *
  generalize hi % s = g at *
  constructor
  · intro ⟨a1, a2⟩
    have : s * (t + q + 1) = s * t + s * q + s := by grind
    exact ⟨t + q + 1, by omega, by omega⟩
  · intro ⟨k, a1, a2⟩
    have b1 : t + q < k := by
      have : s * (t + q) < s * k := by
        have : s * (t + q) = s * t + s * q := by grind
        omega
      exact Int.lt_of_mul_lt_mul_left this (by omega)
    have b2 : k < t + q + 2 := by
      have : s * k < s * (t + q + 2) := by
        have : s * (t + q + 2) = s * t + s * q + s + s := by grind
        omega
      exact Int.lt_of_mul_lt_mul_left this (by omega)
    have b3 : k = t + q + 1 := by omega
    subst b3
    have : s * (t + q + 1) = s * t + s * q + s := by grind
    omega
theorem inR_iff {s u lo hi : Int} (p : Prob s u lo hi) (k : Int) : InR s u lo hi k ↔ ∃ j, lo + u * j ≤ s * k ∧ s * k ≤ hi + u * j := by
  obtain ⟨_, p1, p2, p3, p4⟩ := p
  have hu : 0 < u := by omega
  have e := Int.emod_add_mul_ediv (s * k) u
  constructor
  · intro ⟨a1, a2⟩
    exact ⟨s * k / u, by omega, by omega⟩
  · intro ⟨j, a1, a2⟩
    have := (mod_at (x := s * k) (r := s * k - u * j) (j := j) hu (by omega) (by omega) (by omega)).1
    exact ⟨by omega, by omega⟩
theorem j_nonneg {s u lo hi k j : Int} (p : Prob s u lo hi) (hk : 0 ≤ k) (h : s * k ≤ hi + u * j) : 0 ≤ j := by
  obtain ⟨p0, p1, p2, p3, p4⟩ := p
  have h0 : 0 ≤ s * k := Int.mul_nonneg p0 hk
  rcases Int.lt_or_le j 0 with c | c
  · have : u * j ≤ u * (-1) := Int.mul_le_mul_of_nonneg_left (by omega) (by omega)
    omega
  · exact c
theorem turn_none {s u lo hi : Int} (p : Prob s u lo hi) (hs : 0 < s) (h : hi < lo + (-lo) % s) (n : NoneIs (InR (u % s) s (s - hi % s) (s - lo % s))) : NoneIs (InR s u lo hi) := by
  intro k k0 hk
  obtain ⟨j, a1, a2⟩ := (inR_iff p k).1 hk
  exact n j (j_nonneg p k0 a2) ((turn_iff p hs h j).2 ⟨k, a1, a2⟩)
theorem turn_least {s u lo hi j : Int} (p : Prob s u lo hi) (hs : 0 < s) (h : hi < lo + (-lo) % s) (l : Least (InR (u % s) s (s - hi % s) (s - lo % s)) j) : Least (InR s u lo hi) (up (lo + u * j) s) := by
  have p' := p
  obtain ⟨p0, p1, p2, p3, p4⟩ := p
  obtain ⟨j0, hj, hl⟩ := l
  obtain ⟨k, a1, a2⟩ := (turn_iff p' hs h j).1 hj
  have sp := up_spec (x := lo + u * j) hs
  have kl := up_le hs a1
  have uj : 0 ≤ u * j := Int.mul_nonneg (by omega) j0
  have k0 : 0 ≤ up (lo + u * j) s := by
    have : s * 0 < s * up (lo + u * j) s := by omega
    have := Int.lt_of_mul_lt_mul_left this (by omega)
    omega
  refine ⟨k0, (inR_iff p' _).2 ⟨j, sp.1, ?_⟩, fun i i0 i1 hI => ?_⟩
  · have : s * up (lo + u * j) s ≤ s * k := Int.mul_le_mul_of_nonneg_left kl (by omega)
    omega
  · obtain ⟨j', b1, b2⟩ := (inR_iff p' i).1 hI
    have lt := up_lt hs i1
    have j'0 := j_nonneg p' i0 b2
    have : u * j' < u * j := by omega
    have := Int.lt_of_mul_lt_mul_left this (by omega)
    exact hl j' j'0 this ((turn_iff p' hs h j').2 ⟨i, b1, b2⟩)
theorem least_lt {s u lo hi k : Int} (p : Prob s u lo hi) (l : Least (InR s u lo hi) k) : k < u := by
  obtain ⟨p0, p1, p2, p3, p4⟩ := p
  obtain ⟨k0, hk, hl⟩ := l
  rcases Int.lt_or_le k u with c | c
  · exact c
  · refine absurd ?_ (hl (k - u) (by omega) (by omega))
    unfold InR at hk ⊢
    have : s * (k - u) = s * k + u * (-s) := by grind
    rw [this, Int.add_mul_emod_self_left]
    exact hk
theorem none_zero {u lo hi : Int} (h : 0 < lo) : NoneIs (InR 0 u lo hi) := by
  intro k _ hk
  unfold InR at hk
  rw [Int.zero_mul, Int.zero_emod] at hk
  omega
/-- the trail of the outer questions -/
inductive Trail (S U L G : Int) : List (Int × Int × Int) → Int → Int → Int → Int → Prop
  | nil (p : Prob S U L G) : Trail S U L G [] S U L G
  | cons {r s u lo hi} (t : Trail S U L G r s u lo hi) (hs : 0 < s) (h : hi < lo + (-lo) % s) : Trail S U L G ((s, u, lo) :: r) (u % s) s (s - hi % s) (s - lo % s)
theorem Trail.prob {S U L G : Int} {r : List (Int × Int × Int)} {s u lo hi : Int} (t : Trail S U L G r s u lo hi) : Prob s u lo hi := by
  induction t with
  | nil p => exact p
  | cons t hs h ih => exact turn_prob ih hs h
theorem Trail.le {S U L G : Int} {r : List (Int × Int × Int)} {s u lo hi : Int} (t : Trail S U L G r s u lo hi) : u ≤ U := by
  induction t with
  | nil p => exact Int.le_refl _
  | cons t hs h ih =>
    have := t.prob
    unfold Prob at this
    omega
theorem Trail.none {S U L G : Int} {r : List (Int × Int × Int)} {s u lo hi : Int} (t : Trail S U L G r s u lo hi) (n : NoneIs (InR s u lo hi)) : NoneIs (InR S U L G) := by
  induction t with
  | nil p => exact n
  | cons t hs h ih => exact ih (turn_none t.prob hs h n)
theorem Trail.back {S U L G : Int} {x : Int × Int × Int} {r : List (Int × Int × Int)} {s u lo hi k : Int} (t : Trail S U L G (x :: r) s u lo hi) (l : Least (InR s u lo hi) k) :
    ∃ hi', Trail S U L G r x.1 x.2.1 x.2.2 hi' ∧ 0 < x.1 ∧ Least (InR x.1 x.2.1 x.2.2 hi') (up (x.2.2 + x.2.1 * k) x.1) := by
  cases t with
  | cons t hs h => exact ⟨_, t, hs, turn_least t.prob hs h l⟩
theorem Trail.pow {S U L G : Int} {r : List (Int × Int × Int)} {s u lo hi : Int} (t : Trail S U L G r s u lo hi) : 2 ^ r.length * (s * u) ≤ S * U := by
  induction t with
  | nil p => simp
  | @cons r s u lo hi t hs h ih =>
    have p := t.prob
    unfold Prob at p
    have e := Int.emod_add_mul_ediv u s
    have r0 := Int.emod_nonneg u (show s ≠ 0 by omega)
    have r1 := Int.emod_lt_of_pos u hs
    have q1 : 1 ≤ u / s := by
      have : 1 * s ≤ u := by omega
      exact (Int.le_ediv_iff_mul_le hs).2 this
    have q2 : s * 1 ≤ s * (u / s) := Int.mul_le_mul_of_nonneg_left q1 (by omega)
    have h2 : s * (2 * (u % s)) ≤ s * u := Int.mul_le_mul_of_nonneg_left (by omega) (by omega)
    have h3 : (2 : Int) ^ r.length * (s * (2 * (u % s))) ≤ 2 ^ r.length * (s * u) := Int.mul_le_mul_of_nonneg_left h2 (Int.le_of_lt (Int.pow_pos (by decide)))
    have e2 : (2 : Int) ^ (((s, u, lo) :: r).length) * (u % s * s) = 2 ^ r.length * (s * (2 * (u % s))) := by
      rw [List.length_cons, Int.pow_succ]
      grind
    omega
theorem Trail.short {S U L G : Int} {r : List (Int × Int × Int)} {s u lo hi : Int} (t : Trail S U L G r s u lo hi) (hs : 0 < s) {n : Nat} (hU : U < 2 ^ n) : r.length < 2 * n := by
  have p := t.pow
  have p2 := t.prob
  have p3 : Prob S U L G := by
    clear p p2 hU hs
    induction t with
    | nil p => exact p
    | cons t hs h ih => exact ih
  unfold Prob at p2 p3
  have h1 : (1 : Int) ≤ s * u := by
    have := Int.mul_pos hs (show 0 < u by omega)
    omega
  have h2 : (2 : Int) ^ r.length * 1 ≤ 2 ^ r.length * (s * u) := Int.mul_le_mul_of_nonneg_left h1 (Int.le_of_lt (Int.pow_pos (by decide)))
  have h3 : S * U ≤ U * U := Int.mul_le_mul_of_nonneg_right (by omega) (by omega)
  have h4 : U * U < 2 ^ n * 2 ^ n := by
    have a1 : U * U ≤ U * 2 ^ n := Int.mul_le_mul_of_nonneg_left (by omega) (by omega)
    have a2 : U * 2 ^ n < 2 ^ n * 2 ^ n := Int.mul_lt_mul_of_pos_right hU (Int.pow_pos (by decide))
    omega
  have h5 : (2 : Int) ^ r.length < 2 ^ (2 * n) := by
    rw [Nat.two_mul, Int.pow_add]
    omega
  have h6 : (2 : Nat) ^ r.length < 2 ^ (2 * n) := by exact_mod_cast h5
  exact (Nat.pow_lt_pow_iff_right (by decide)).1 h6
/-! the bounds turned round the ring -/
theorem ring_zero {a b m lo hi : Int} (hm : 0 < m) (h0 : 0 ≤ lo) (h1 : lo ≤ hi) (h2 : hi < m) (c : (lo - b) % m = 0 ∨ (hi - b) % m < (lo - b) % m) : lo ≤ (a * 0 + b) % m ∧ (a * 0 + b) % m ≤ hi := by
  have e := Int.emod_add_mul_ediv b m
  have r0 := Int.emod_nonneg b (show m ≠ 0 by omega)
  have r1 := Int.emod_lt_of_pos b hm
  rw [show a * 0 + b = b by simp]
  generalize b % m = β at *
  generalize b / m = q at *
  have e1 : (lo - b) % m = if β ≤ lo then lo - β else lo - β + m := by
    split
    · exact (mod_at (j := -q) hm (by grind) (by omega) (by omega)).1
    · exact (mod_at (j := -q - 1) hm (by grind) (by omega) (by omega)).1
  have e2 : (hi - b) % m = if β ≤ hi then hi - β else hi - β + m := by
    split
    · exact (mod_at (j := -q) hm (by grind) (by omega) (by omega)).1
    · exact (mod_at (j := -q - 1) hm (by grind) (by omega) (by omega)).1
  rw [e1, e2] at c
  split at c <;> split at c <;> omega
theorem ring_prob {a b m lo hi : Int} (hm : 0 < m) (h0 : 0 ≤ lo) (h1 : lo ≤ hi) (h2 : hi < m) (c1 : (lo - b) % m ≠ 0) (c2 : (lo - b) % m ≤ (hi - b) % m) :
    Prob (a % m) m ((lo - b) % m) ((hi - b) % m) := by
  have q0 := Int.emod_nonneg (lo - b) (show m ≠ 0 by omega)
  exact ⟨Int.emod_nonneg _ (by omega), Int.emod_lt_of_pos _ hm, by omega, c2, Int.emod_lt_of_pos _ hm⟩
theorem ring_iff {a b m lo hi : Int} (hm : 0 < m) (h0 : 0 ≤ lo) (h1 : lo ≤ hi) (h2 : hi < m) (c1 : (lo - b) % m ≠ 0) (c2 : (lo - b) % m ≤ (hi - b) % m) (k : Int) :
    InR (a % m) m ((lo - b) % m) ((hi - b) % m) k ↔ lo ≤ (a * k + b) % m ∧ (a * k + b) % m ≤ hi := by
  unfold InR
  have er : (a % m * k) % m = (a * k) % m := by rw [Int.mul_emod, Int.emod_emod, ← Int.mul_emod]
  rw [er]
  have e := Int.emod_add_mul_ediv b m
  have r0 := Int.emod_nonneg b (show m ≠ 0 by omega)
  have r1 := Int.emod_lt_of_pos b hm
  have ex := Int.emod_add_mul_ediv (a * k) m
  have x0 := Int.emod_nonneg (a * k) (show m ≠ 0 by omega)
  have x1 := Int.emod_lt_of_pos (a * k) hm
  generalize a * k = X at *
  generalize b % m = β at *
  generalize b / m = q at *
  generalize X % m = x at *
  generalize X / m = t at *
  have e1 : (lo - b) % m = if β ≤ lo then lo - β else lo - β + m := by
    split
    · exact (mod_at (j := -q) hm (by grind) (by omega) (by omega)).1
    · exact (mod_at (j := -q - 1) hm (by grind) (by omega) (by omega)).1
  have e2 : (hi - b) % m = if β ≤ hi then hi - β else hi - β + m := by
    split
    · exact (mod_at (j := -q) hm (by grind) (by omega) (by omega)).1
    · exact (mod_at (j := -q - 1) hm (by grind) (by omega) (by omega)).1
  have e3 : (X + b) % m = if x + β < m then x + β else x + β - m := by
    split
    · exact (mod_at (j := t + q) hm (by grind) (by omega) (by omega)).1
    · exact (mod_at (j := t + q + 1) hm (by grind) (by omega) (by omega)).1
  rw [e1, e2] at c2
  rw [e1] at c1
  rw [e1, e2, e3]
  split at c2 <;> split at c2 <;> split <;> omega
end Ob
namespace Ob
open PySem PySem.Spec PyProof.Rows L2
/-! ### repr of a number, of None, of data -/
def rReprX (K : PySem.W.Frag) : List V → Hp → VK → Prop := fun xs H Q => (∃ i : Int, xs = [.int i] ∧ i.natAbs.log2 < 1920 ∧ Q (.str (toString i)) H) ∨ (xs = [.non] ∧ Q (.str "None") H) ∨ rRepr K xs H Q
section
variable {X : Cx} {K : PySem.W.Frag}
theorem cr_reprX (hg : X.A.guards = some []) (hu : X.A.units + 64 < cLine) : CallR X (.builtin "repr") (rReprX X.K) := by
  intro pins s σ H xs us Q I r h
  rcases h with h | ⟨rfl, q⟩ | h
  · exact SkE.call_repr_int pins s σ H xs us Q I r h
  · obtain ⟨u, rfl, t⟩ := vals1 r
    cases t
    exact PySem.P.repr_of_none ⟨.str _, H, I.tok _, ⟨_, rfl⟩, q⟩
  · exact cr_repr hg hu pins s σ H xs us Q I r h
theorem reprX (h : X.K = K) (hg : X.A.guards = some []) (hu : X.A.units + 64 < cLine) : CallR X (.builtin "repr") (rReprX K) := h ▸ cr_reprX hg hu
theorem sortI (h : X.K = K) : CallR X (.builtin "sorted") (rSorted K) := h ▸ cr_sorted
end
section
variable {K : PySem.W.Frag} {H J : Hp} {D a : Addr} {σ : L2.St} {xs : List V} {Q : VK}
theorem rd_reprI {i : Int} {n : Nat} (b : Bd n i) (q : Q (.str (toString i)) H) (h0 : 0 < n := by decide) (h1 : n ≤ 1900 := by decide) : rReprX K [.int i] H Q := .inl ⟨i, rfl, by have := b.log h0; omega, q⟩
theorem rd_reprN (q : Q (.str "None") H) : rReprX K [.non] H Q := .inr (.inl ⟨rfl, q⟩)
theorem rd_reprD {a : Addr} {d : PyData} (h : Dp K H (.ref a) d) (h1 : sm d = true) (h2 : sz d ≤ 1000000) (h3 : d.depth ≤ 50) (q : Q (.str d.shown) H) : rReprX K [.ref a] H Q := .inr (.inr (rd_repr h h1 h2 h3 q))
theorem rd_sorted2 {p : Addr} {x y : Int} (h : H p = some (.lst [.int x, .int y])) (q : ∀ (lo hi : Int) (J : Hp) (r : Addr), lo ≤ hi → (lo = x ∧ hi = y ∨ lo = y ∧ hi = x) → H r = none → Same H J → J r = some (.lst [.int lo, .int hi]) → Q (.ref r) J) : rSorted K [.ref p] H Q := by
  refine ⟨p, [x, y], rfl, SqL.of h, by simp, fun ns r pm pw nr => ?_⟩
  have hl : ns.length = 2 := pm.length_eq
  match ns, hl with
  | [lo, hi], _ =>
    have le : lo ≤ hi := (List.pairwise_cons.mp pw).1 hi (by simp)
    have m1 : lo ∈ [x, y] := pm.mem_iff.mp (by simp)
    refine q lo hi _ r le ?_ nr (same_new nr) upd_same
    simp only [List.mem_cons, List.not_mem_nil, or_false] at m1
    rcases m1 with rfl | rfl
    · exact .inl ⟨rfl, List.singleton_perm_singleton.mp pm.cons_inv⟩
    · exact .inr ⟨rfl, List.singleton_perm_singleton.mp (pm.trans (List.Perm.swap _ _ _)).cons_inv⟩
/-- [f(i) for i in range(n) if p(i)], the heap as it was -/
theorem lc_filtR {n : Nat} (p : Nat → Bool) (f : Nat → V) {tt : TT} {te : TE} {i0 : Nat} {Qd : Hp → Prop} (hl : n ≤ 1000) (hD : H D = none)
    (he : ∀ i, i < n → ∀ (l : List V) (R : Bool → Hp → Prop), R (p i) (upd H D (.lst l)) → tt ((σ.set i0 none).set i0 (some (.int (0 + (i : Int))))) (upd H D (.lst l)) R)
    (hf : ∀ i, i < n → ∀ (l : List V) (R : VK), R (f i) (upd H D (.lst l)) → te ((σ.set i0 none).set i0 (some (.int (0 + (i : Int))))) (upd H D (.lst l)) R)
    (hd : Qd (upd H D (.lst (((List.range n).filter p).map f)))) : Lc (Itr 0 n) (gName i0) tt te [i0] σ Qd H D := by
  refine lc_range (fun i J => J = upd H D (.lst (((List.range i).filter p).map f))) rfl (fun i J hi w => ?_) fun J w => ?_
  · subst w
    refine ⟨?_, ?_⟩
    · show ((σ.set i0 none).set i0 _).set i0 none = σ.set i0 none
      rw [List.set_set, List.set_set]
    · show tt _ _ _
      refine he i hi _ _ ?_
      by_cases c : p i = true
      · rw [c]
        refine iteT ?_
        refine hf i hi _ _ ⟨_, upd_same, ?_, ?_⟩
        · rw [List.length_map]
          have := List.length_filter_le p (List.range i)
          rw [List.length_range] at this
          exact small1000 (by omega)
        · rw [upd_upd, List.range_succ, List.filter_append, List.map_append]
          congr 2
          simp [c]
      · have c : p i = false := by simpa using c
        rw [c]
        refine iteF ?_
        rw [List.range_succ, List.filter_append, List.map_append]
        congr 2
        simp [c]
  · subst w
    exact hd
theorem cnt_filter (p : Nat → Bool) : ∀ n, ((List.range n).filter p).length = cnt p n
  | 0 => rfl
  | n + 1 => by
    rw [List.range_succ, List.filter_append, List.length_append, cnt_filter p n, cnt]
    by_cases c : p n = true
    · simp [c]
    · simp [c]
/-- the loop over reversed(list) -/
theorem rd_iRev {tl : TA} {g : TG} {tb : TS} {E : Ends} (q : tl σ H fun vs H1 => ∃ (a : Addr) (xs : List V), vs = [.ref a] ∧ SqL K H1 a xs ∧ Lp (Itv K a xs.length) g tb E σ H1) : tFor (iRev K tl) g tb E σ H := q
theorem rd_revA {R : Addr → Nat → Prop} (h : SqL K H a xs) (q : R a xs.length) : ∃ (p : Addr) (zs : List V), [V.ref a] = [V.ref p] ∧ SqL K H p zs ∧ R p zs.length := ⟨a, xs, rfl, h, q⟩
end
theorem fs_sum (a b m : Int) (hm : 0 < m) : ∀ n : Nat, ((List.range n).map fun k : Nat => (a * (0 + (k : Int)) + b).fdiv m).sum = fs n a b m
  | 0 => rfl
  | n + 1 => by
    rw [List.range_succ, List.map_append, List.sum_append, fs_sum a b m hm n, fs]
    simp [Int.fdiv_eq_ediv_of_nonneg _ (show 0 ≤ m by omega)]
theorem fs_step {a b m : Int} (n : Nat) (h : 0 < m) : ∃ y : Nat, (a.fmod m * n + b.fmod m).fdiv m = (y : Int) ∧ (y : Int) ≤ n ∧ (0 < y → 0 < a.fmod m) ∧
    fs n a b m = ((n : Int) * ((n : Int) - 1)).fdiv 2 * a.fdiv m + n * b.fdiv m + fs y m ((a.fmod m * n + b.fmod m).fmod m) (a.fmod m) := by
  have hm : 0 ≤ m := by omega
  have a0 := Int.emod_nonneg a (show m ≠ 0 by omega)
  have a1 := Int.emod_lt_of_pos a h
  have b0 := Int.emod_nonneg b (show m ≠ 0 by omega)
  have b1 := Int.emod_lt_of_pos b h
  rw [Int.fmod_eq_emod_of_nonneg a hm, Int.fmod_eq_emod_of_nonneg b hm, Int.fmod_eq_emod_of_nonneg _ hm, Int.fdiv_eq_ediv_of_nonneg _ hm, Int.fdiv_eq_ediv_of_nonneg _ hm, Int.fdiv_eq_ediv_of_nonneg _ hm, Int.fdiv_eq_ediv_of_nonneg _ (show (0 : Int) ≤ 2 by decide)]
  have q := flip_le a0 a1 b0 b1 (n := n) (by omega)
  refine ⟨((a % m * n + b % m) / m).toNat, by omega, by omega, fun hy => ?_, ?_⟩
  · rcases Int.lt_or_eq_of_le a0 with c | c
    · exact c
    · rw [← c] at hy
      simp [Int.ediv_eq_zero_of_lt b0 b1] at hy
  · rw [fs_red h, fs_flip a0 a1 b0 b1 n]
theorem fs_abs (a b m : Int) : ∀ n : Nat, (fs n a b m).natAbs ≤ n * (a.natAbs * n + b.natAbs)
  | 0 => by simp [fs]
  | n + 1 => by
    rw [fs]
    have h1 := fs_abs a b m n
    have h2 : ((a * n + b) / m).natAbs ≤ a.natAbs * n + b.natAbs := by
      refine Nat.le_trans (Int.natAbs_ediv_le_natAbs _ _) (Nat.le_trans (Int.natAbs_add_le _ _) ?_)
      rw [Int.natAbs_mul, Int.natAbs_natCast]
      exact Nat.le_refl _
    have h3 := Int.natAbs_add_le (fs n a b m) ((a * n + b) / m)
    have h4 : a.natAbs * n + b.natAbs ≤ a.natAbs * (n + 1) + b.natAbs := by
      have := Nat.mul_le_mul_left a.natAbs (show n ≤ n + 1 by omega)
      omega
    have h5 := Nat.mul_le_mul_left n h4
    have h6 : (n + 1) * (a.natAbs * (n + 1) + b.natAbs) = n * (a.natAbs * (n + 1) + b.natAbs) + (a.natAbs * (n + 1) + b.natAbs) := by rw [Nat.succ_mul]
    omega
section
variable {K : PySem.W.Frag} {H : Hp} {a : Addr} {Q : VK}
theorem rd_sum {ks : List Int} {xs : List V} (h : SqL K H a xs) (e : xs = ks.map V.int) (q : Q (.int ks.sum) H) : rSum K [.ref a] H Q := ⟨a, ks, rfl, e ▸ h, q⟩
end
section
variable {K : PySem.W.Frag} {H : Hp} {a : Addr} {xs ys : List V} {Q : VK} {σ : L2.St}
theorem slT {X : Cx} (h : X.K = K) : SlR X (rSlT K) := h ▸ sl_tup
theorem rd_slT {lo hi : Option Int} (h : SqT K H a xs) (n : ¬ (HT.sIx xs.length 0 lo = 0 ∧ HT.sIx xs.length xs.length hi = xs.length)) (e : cutV xs lo hi = ys) (q : ∀ p J, H p = none → Same H J → J p = some (.tup ys) → Q (.ref p) J) : rSlT K (.ref a) lo hi H Q :=
  ⟨a, xs, rfl, h, n, fun p np => by rw [e]; exact q p _ np (same_new np) upd_same⟩
theorem rd_gunl {n : Nat} {t : TGs} {F : L2.St → Hp → Prop} (h : SqL K H a xs) (hn : xs.length = n) (q : t xs σ H F) : gUnl K n t (.ref a) σ H F := ⟨a, xs, rfl, h, hn, q⟩
end
end Ob
namespace Ob
open PySem PySem.Spec PyProof.Rows L2
/-! ### min(list, default=None) -/
theorem minOf_int : ∀ (xs : List Int) (x : Int), PySem.W.minOf x xs ∈ x :: xs ∧ ∀ y ∈ x :: xs, PySem.W.minOf x xs ≤ y
  | [], x => ⟨by simp [PySem.W.minOf], by simp [PySem.W.minOf]⟩
  | y :: ys, x => by
    have e : PySem.W.minOf x (y :: ys) = PySem.W.minOf (if y < x then y else x) ys := by
      show List.foldl _ x (y :: ys) = _
      rw [List.foldl_cons]
      show PySem.W.minOf (if decide (y < x) = true then y else x) ys = _
      congr 1
      simp
    rw [e]
    obtain ⟨h1, h2⟩ := minOf_int ys (if y < x then y else x)
    refine ⟨?_, fun z hz => ?_⟩
    · rcases List.mem_cons.mp h1 with h | h
      · rw [h]
        split <;> simp
      · simp [h]
    · have h3 := h2 (if y < x then y else x) (by simp)
      rcases List.mem_cons.mp hz with rfl | hz
      · split at h3 <;> split <;> omega
      · rcases List.mem_cons.mp hz with rfl | hz
        · split at h3 <;> split <;> omega
        · exact h2 z (by simp [hz])
def rMinD (K : PySem.W.Frag) : List V → List V → Hp → VK → Prop := fun vs zs H Q => ∃ (a : Addr) (ns : List Int), vs = [.ref a] ∧ zs = [.non] ∧ SqL K H a (ns.map V.int) ∧ (ns = [] → Q .non H) ∧ ∀ m, m ∈ ns → (∀ y, y ∈ ns → m ≤ y) → Q (.int m) H
theorem cr_minD {X : Cx} (hc : X.calm = true) (hu : X.A.units + 64 < cLine) : CallRK X (.builtin "min") [Str.ofString "default"] (rMinD X.K) := by
  intro pins s σ H vs zs us ws Q I r rz h
  obtain ⟨a, ns, rfl, rfl, hs, q0, q⟩ := h
  obtain ⟨its, rv, hl, _⟩ := I.list hs
  obtain ⟨u, rfl, t⟩ := vals1 rz
  cases t
  rw [Vals.ref1 r]
  refine PySem.W.min_list_datum_default (α := Int) (I.ok.hd hc) hl.isList (PySem.W.HoldAll.of_ints rv.ints) (by show X.A.units + 1 + 0 < _; omega) (fun e h' tk hk => ?_) fun y ys i v h' tk e hv hh hk => ?_
  · exact ⟨.non, H, I.kept hk, rfl, q0 e⟩
  · have hI := (PySem.W.HoldAll.cons hh PySem.W.HoldAll.nil).toInts
    subst e
    obtain ⟨m1, m2⟩ := minOf_int ys y
    cases hI with
    | cons _ => exact ⟨.int _, H, I.kept hk, ⟨_, rfl⟩, q _ m1 m2⟩
theorem minDK {X : Cx} {K : PySem.W.Frag} (h : X.K = K) (hc : X.calm = true) (hu : X.A.units + 64 < cLine) : CallRK X (.builtin "min") [Str.ofString "default"] (rMinD K) := h ▸ cr_minD hc hu
section
variable {X : Cx} {K : PySem.W.Frag} {H : Hp} {a : Addr} {Q : VK} {σ : L2.St} {t tk : TA} {xs : List V}
theorem rd_CKw {r : List V → List V → Hp → VK → Prop} (q : t σ H fun vs H1 => tk σ H1 fun zs H2 => r vs zs H2 Q) : tCKw r t tk σ H Q := q
theorem rd_minD {ns : List Int} (h : SqL K H a xs) (e : xs = ns.map V.int) (q0 : ns = [] → Q .non H) (q : ∀ m, m ∈ ns → (∀ y, y ∈ ns → m ≤ y) → Q (.int m) H) : rMinD K [.ref a] [.non] H Q := ⟨a, ns, rfl, rfl, e ▸ h, q0, q⟩
theorem piRev (h : X.K = K) {tg e : Expr} {ta : TA} {p pos : Pos} (hg : Gl X "reversed") (hm : X.mg "reversed" = none) (ha : PA X [e] ta) (hs : starEach [e] X.env = [(false, eval e X.env)] := by rfl) : PI X tg (.Call (.Name "reversed" p) [e] [] pos) (iRev K ta) := h ▸ pi_reversed hg hm ha hs
/-! ### is None -/
theorem rd_isN {v : V} (q : Q (.bl (decide (v = .non))) H) : rIsN v .non H Q := ⟨rfl, q⟩
end
end Ob
namespace Ob
open PySem PySem.Spec PyProof.Rows L2
section
variable {K : PySem.W.Frag} {H J : Hp} {D a c l : Addr} {σ : L2.St} {xs rs zs : List V} {ss ts : List Sn} {Q : VK}
def shown2 (ss ts : List Sn) : Str := PyData.shown (.list [.list (ss.map snD), .list (ts.map snD)])
/-- repr of two lists of spans -/
theorem rd_repr2 (hl : H l = some (.lst [.ref a, .ref c])) (ha : H a = some (.lst rs)) (hs : SnsAt K H rs ss) (hc : H c = some (.lst zs)) (ht : SnsAt K H zs ts) (l1 : rs.length ≤ 90) (l2 : zs.length ≤ 90) (q : Q (.str (shown2 ss ts)) H) : rRepr K [.ref l] H Q := by
  obtain ⟨a1, a2, a3, _⟩ := hs.small
  obtain ⟨b1, b2, b3, _⟩ := ht.small
  refine ⟨l, .list [.list (ss.map snD), .list (ts.map snD)], rfl, Dp.lst (SqL.of hl) (.cons (Dp.lst (SqL.of ha) hs.dp) (.cons (Dp.lst (SqL.of hc) ht.dp) .nil)), by simp [sm, sms, a1, b1], ?_, ?_, q⟩
  · simp only [sz, szs]
    omega
  · simp only [PyData.depth, PyData.depthAll]
    omega
/-- [x for x in l if p(x)], the heap as it was -/
theorem lc_filtL (p : V → Bool) {tt : TT} {te : TE} {i0 : Nat} {Qd : Hp → Prop} (hT : H a = some (.lst xs)) (hl : xs.length ≤ 1000) (hD : H D = none)
    (he : ∀ x, x ∈ xs → ∀ (l : List V) (R : Bool → Hp → Prop), R (p x) (upd H D (.lst l)) → tt ((σ.set i0 none).set i0 (some x)) (upd H D (.lst l)) R)
    (hf : ∀ x, x ∈ xs → ∀ (l : List V) (R : VK), R x (upd H D (.lst l)) → te ((σ.set i0 none).set i0 (some x)) (upd H D (.lst l)) R)
    (hd : Qd (upd H D (.lst (xs.filter p)))) : Lc (Itl K a) (gName i0) tt te [i0] σ Qd H D := by
  have ne : a ≠ D := ne_of_none hT hD
  refine lc_list (xs := xs) (fun i J => J = upd H D (.lst ((xs.take i).filter p))) rfl (fun i J _ w => by
    rw [w]
    exact SqL.of (by rw [upd_ne ne]; exact hT)) (fun i x J hx w => ?_) fun J w => ?_
  · subst w
    have lt : i < xs.length := (List.getElem?_eq_some_iff.mp hx).1
    have hm := List.mem_of_getElem? hx
    have et : (xs.take (i + 1)).filter p = (xs.take i).filter p ++ (if p x = true then [x] else []) := by
      rw [List.take_add_one, hx, List.filter_append]
      by_cases c : p x = true <;> simp [c]
    refine ⟨?_, ?_⟩
    · show ((σ.set i0 none).set i0 (some x)).set i0 none = σ.set i0 none
      rw [List.set_set, List.set_set]
    · show tt _ _ _
      refine he x hm _ _ ?_
      by_cases c : p x = true
      · rw [c]
        refine iteT ?_
        refine hf x hm _ _ ⟨_, upd_same, ?_, ?_⟩
        · have := List.length_filter_le p (xs.take i)
          rw [List.length_take] at this
          exact small1000 (by omega)
        · rw [upd_upd, et, if_pos c]
      · have c' : p x = false := by simpa using c
        rw [c']
        refine iteF ?_
        rw [et, if_neg c, List.append_nil]
  · rw [w, List.take_length]
    exact hd
end
section
variable {K : PySem.W.Frag} {H : Hp} {σ : L2.St} {Q : VK} {ta : TE}
theorem rd_lstRg (q : ta σ H fun x H1 => ∃ n : Int, x = .int n ∧ RgOk 0 n ∧ ∀ p, H1 p = none → Q (.ref p) (upd H1 p (.lst (rgV 0 n)))) : tLstRg (tRg1 ta) σ H Q := q
theorem rgV_units (g : Nat) : rgV 0 (g : Int) = ((List.range g).filter fun _ => true).map nV := by
  have e : (List.range g).filter (fun _ => true) = List.range g := List.filter_eq_self.mpr fun _ _ => rfl
  rw [e]
  unfold rgV
  rw [show ((g : Int) - 0).toNat = g by omega]
  refine List.map_congr_left fun u _ => ?_
  show V.int (0 + (u : Int)) = V.int (u : Int)
  rw [Int.zero_add]
theorem none_units (g : Nat) : (((List.range g).filter fun _ => false).map nV) = [] := by simp
end
end Ob
namespace Ob
open PySem PySem.Spec PyProof.Rows L2
/-! ### sums of ratios, as tops and unders that are not made small -/
def totR : List (Int × Int) → Int × Int
  | [] => (0, 1)
  | r :: l => (r.1 * (totR l).2 + (totR l).1 * r.2, r.2 * (totR l).2)
theorem totR_perm {l l' : List (Int × Int)} (h : l.Perm l') : totR l = totR l' := by
  induction h with
  | nil => rfl
  | cons x _ ih => rw [totR, totR, ih]
  | swap x y l =>
    simp only [totR]
    refine Prod.ext ?_ ?_
    · show _ = _
      simp only
      grind
    · show _ = _
      simp only
      grind
  | trans _ _ i1 i2 => rw [i1, i2]
theorem totR_append : ∀ l l' : List (Int × Int), totR (l ++ l') = ((totR l).1 * (totR l').2 + (totR l').1 * (totR l).2, (totR l).2 * (totR l').2)
  | [], l' => by
    simp only [List.nil_append, totR]
    refine Prod.ext ?_ ?_ <;> simp
  | r :: l, l' => by
    rw [List.cons_append, totR, totR_append l l', totR]
    refine Prod.ext ?_ ?_
    · simp only
      grind
    · simp only
      grind
def Pos (l : List (Int × Int)) : Prop := ∀ r ∈ l, 0 < r.2
theorem totR_pos : ∀ {l : List (Int × Int)}, Pos l → 0 < (totR l).2
  | [], _ => by simp [totR]
  | r :: l, h => by
    rw [totR]
    exact Int.mul_pos (h r (by simp)) (totR_pos fun x hx => h x (by simp [hx]))
/-- m / n, in lowest terms, is the sum -/
def IsTot (l : List (Int × Int)) (m n : Int) : Prop := 0 < n ∧ Int.gcd m n = 1 ∧ m * (totR l).2 = (totR l).1 * n
theorem IsTot.uniq {l : List (Int × Int)} {m n m' n' : Int} (hl : Pos l) (h : IsTot l m n) (k : IsTot l m' n') : m = m' ∧ n = n' := by
  have u := totR_pos hl
  obtain ⟨n0, g, e⟩ := h
  obtain ⟨n0', g', e'⟩ := k
  refine low_one n0 n0' g g' (Int.eq_of_mul_eq_mul_right (show (totR l).2 ≠ 0 by omega) ?_)
  grind
theorem IsTot.perm {l l' : List (Int × Int)} {m n : Int} (h : l.Perm l') (k : IsTot l m n) : IsTot l' m n := by
  unfold IsTot at *
  rw [← totR_perm h]
  exact k
theorem IsTot.nil : IsTot [] 0 1 := ⟨by decide, by decide, by simp [totR]⟩
theorem IsTot.add {l l' : List (Int × Int)} {m n m' n' M N : Int} (h : IsTot l m n) (k : IsTot l' m' n') (low : IsLow (m * n' + m' * n) (n * n') M N) : IsTot (l ++ l') M N := by
  obtain ⟨n0, _, e⟩ := h
  obtain ⟨n0', _, e'⟩ := k
  obtain ⟨N0, G, E, _⟩ := low
  refine ⟨N0, G, ?_⟩
  rw [totR_append]
  have nz : n * n' ≠ 0 := Int.mul_ne_zero (by omega) (by omega)
  refine Int.eq_of_mul_eq_mul_right nz ?_
  simp only
  grind
theorem IsTot.one {x y : Int} (y0 : 0 < y) (g : Int.gcd x y = 1) : IsTot [(x, y)] x y := ⟨y0, g, by simp [totR]⟩
theorem IsTot.sub {l : List (Int × Int)} {x y m n M N : Int} (y0 : 0 < y) (hl : Pos l) (h : IsTot ((x, y) :: l) m n) (low : IsLow (m * y - x * n) (n * y) M N) : IsTot l M N := by
  obtain ⟨n0, _, e⟩ := h
  obtain ⟨N0, G, E, _⟩ := low
  refine ⟨N0, G, ?_⟩
  rw [totR] at e
  simp only at e
  have nz : n * y ≠ 0 := Int.mul_ne_zero (by omega) (by omega)
  refine Int.eq_of_mul_eq_mul_right nz ?_
  grind
/-- the rests, and the sum of the floors -/
def rests (l : List (Int × Int)) : List (Int × Int) := l.map fun r => (r.1.fmod r.2, r.2)
def floors (l : List (Int × Int)) : Int := (l.map fun r => r.1.fdiv r.2).sum
theorem totR_rests : ∀ l : List (Int × Int), totR l = (floors l * (totR (rests l)).2 + (totR (rests l)).1, (totR (rests l)).2)
  | [] => by simp [totR, rests, floors]
  | r :: l => by
    have e := Int.fmod_def r.1 r.2
    have ih := totR_rests l
    have h1 : rests (r :: l) = (r.1.fmod r.2, r.2) :: rests l := rfl
    have h2 : floors (r :: l) = r.1.fdiv r.2 + floors l := by simp [floors]
    rw [h1, h2, totR, ih, totR]
    refine Prod.ext ?_ ?_
    · simp only
      grind
    · simp only
theorem floors_perm {l l' : List (Int × Int)} (h : l.Perm l') : floors l = floors l' := by
  induction h with
  | nil => rfl
  | cons x _ ih =>
    have e1 : ∀ (r : Int × Int) l, floors (r :: l) = r.1.fdiv r.2 + floors l := fun r l => by simp [floors]
    rw [e1, e1, ih]
  | swap x y l =>
    have e1 : ∀ (r : Int × Int) l, floors (r :: l) = r.1.fdiv r.2 + floors l := fun r l => by simp [floors]
    rw [e1, e1, e1, e1]
    omega
  | trans _ _ i1 i2 => rw [i1, i2]
theorem IsTot.whole {l : List (Int × Int)} {m n M N : Int} (h : IsTot (rests l) m n) (low : IsLow (floors l * n + m * 1) (1 * n) M N) : IsTot l M N := by
  obtain ⟨n0, _, e⟩ := h
  obtain ⟨N0, G, E, _⟩ := low
  refine ⟨N0, G, ?_⟩
  rw [totR_rests]
  simp only
  refine Int.eq_of_mul_eq_mul_right (show n ≠ 0 by omega) ?_
  grind
theorem less_same {x1 y1 x2 y2 x3 y3 m1 n1 m2 n2 : Int} (p1 : 0 < y1) (p2 : 0 < y2) (p3 : 0 < y3) (a : IsLow (x1 * y3 + x3 * y1) (y1 * y3) m1 n1) (b : IsLow (x2 * y3 + x3 * y2) (y2 * y3) m2 n2) : m1 * n2 < m2 * n1 ↔ x1 * y2 < x2 * y1 := by
  obtain ⟨a0, _, ae, _⟩ := a
  obtain ⟨b0, _, be, _⟩ := b
  have P : 0 < n1 * n2 * (y3 * y3) := Int.mul_pos (Int.mul_pos a0 b0) (Int.mul_pos p3 p3)
  have Z : 0 < (y1 * y3) * (y2 * y3) := Int.mul_pos (Int.mul_pos p1 p3) (Int.mul_pos p2 p3)
  have key : (m2 * n1 - m1 * n2) * ((y1 * y3) * (y2 * y3)) = (x2 * y1 - x1 * y2) * (n1 * n2 * (y3 * y3)) := by grind
  constructor
  · intro h
    have h1 : 0 < (x2 * y1 - x1 * y2) * (n1 * n2 * (y3 * y3)) := by
      rw [← key]
      exact Int.mul_pos (by omega) Z
    have := Int.pos_of_mul_pos_left h1 P
    omega
  · intro h
    have h1 : 0 < (m2 * n1 - m1 * n2) * ((y1 * y3) * (y2 * y3)) := by
      rw [key]
      exact Int.mul_pos (by omega) P
    have := Int.pos_of_mul_pos_left h1 Z
    omega
/-! ### a list of ratios at an address -/
inductive RtsAt (K : PySem.W.Frag) (H : Hp) : List V → List (Int × Int) → Prop
  | nil : RtsAt K H [] []
  | cons {p : Addr} {rs : List V} {x y : Int} {l : List (Int × Int)} (h : H p = some (.tup [.int x, .int y])) (y0 : 0 < y) (g : Int.gcd x y = 1) (bx : Bd 110 x) (bu : Bd 110 y) (t : RtsAt K H rs l) : RtsAt K H (.ref p :: rs) ((x, y) :: l)
section
variable {K : PySem.W.Frag} {H J : Hp}
theorem RtsAt.mono (m : ∀ p xs, H p = some (.tup xs) → J p = some (.tup xs)) : ∀ {rs : List V} {l : List (Int × Int)}, RtsAt K H rs l → RtsAt K J rs l
  | _, _, .nil => .nil
  | _, _, .cons h a b c d t => .cons (m _ _ h) a b c d (t.mono m)
theorem RtsAt.len : ∀ {rs : List V} {l : List (Int × Int)}, RtsAt K H rs l → rs.length = l.length
  | _, _, .nil => rfl
  | _, _, .cons _ _ _ _ _ t => by rw [List.length_cons, List.length_cons, t.len]
theorem RtsAt.pos : ∀ {rs : List V} {l : List (Int × Int)}, RtsAt K H rs l → Pos l
  | _, _, .nil => fun r hr => by cases hr
  | _, _, .cons _ y0 _ _ _ t => fun r hr => by
    rcases List.mem_cons.mp hr with rfl | hr
    · exact y0
    · exact t.pos r hr
theorem RtsAt.snoc {p : Addr} {x y : Int} (h : H p = some (.tup [.int x, .int y])) (y0 : 0 < y) (g : Int.gcd x y = 1) (bx : Bd 110 x) (bu : Bd 110 y) : ∀ {rs : List V} {l : List (Int × Int)}, RtsAt K H rs l → RtsAt K H (rs ++ [.ref p]) (l ++ [(x, y)])
  | _, _, .nil => .cons h y0 g bx bu .nil
  | _, _, .cons a b c d e t => .cons a b c d e (t.snoc h y0 g bx bu)
theorem RtsAt.get : ∀ {rs : List V} {l : List (Int × Int)}, RtsAt K H rs l → ∀ {i : Nat} {v : V}, rs[i]? = some v → ∃ p x y, v = .ref p ∧ l[i]? = some (x, y) ∧ H p = some (.tup [.int x, .int y]) ∧ 0 < y ∧ Int.gcd x y = 1 ∧ Bd 110 x ∧ Bd 110 y
  | _, _, .nil, i, v, e => by simp at e
  | _, _, .cons h a b c d t, 0, v, e => by
    simp at e
    exact ⟨_, _, _, e.symm, rfl, h, a, b, c, d⟩
  | _, _, .cons h a b c d t, i + 1, v, e => by
    simp at e
    obtain ⟨p, x, y, e1, e2, e3⟩ := t.get e
    exact ⟨p, x, y, e1, by simpa using e2, e3⟩
theorem RtsAt.drop : ∀ {rs : List V} {l : List (Int × Int)}, RtsAt K H rs l → ∀ n, RtsAt K H (rs.drop n) (l.drop n)
  | _, _, t, 0 => t
  | _, _, .nil, n + 1 => .nil
  | _, _, .cons _ _ _ _ _ t, n + 1 => t.drop n
theorem RtsAt.take : ∀ {rs : List V} {l : List (Int × Int)}, RtsAt K H rs l → ∀ n, RtsAt K H (rs.take n) (l.take n)
  | _, _, _, 0 => by rw [List.take_zero, List.take_zero]; exact .nil
  | _, _, .nil, n + 1 => .nil
  | _, _, .cons a b c d e t, n + 1 => .cons a b c d e (t.take n)
theorem RtsAt.perm {rs rs' : List V} (h : rs.Perm rs') : ∀ {l : List (Int × Int)}, RtsAt K H rs l → ∃ l', l.Perm l' ∧ RtsAt K H rs' l' := by
  induction h with
  | nil => intro l t; exact ⟨l, List.Perm.refl _, t⟩
  | cons x _ ih =>
    intro l t
    cases t with
    | cons h a b c d t =>
      obtain ⟨l', p, t'⟩ := ih t
      exact ⟨_, p.cons _, .cons h a b c d t'⟩
  | swap x y l0 =>
    intro l t
    cases t with
    | cons h a b c d t =>
      cases t with
      | cons h' a' b' c' d' t' => exact ⟨_, List.Perm.swap _ _ _, .cons h' a' b' c' d' (.cons h a b c d t')⟩
  | trans _ _ i1 i2 =>
    intro l t
    obtain ⟨l1, p1, t1⟩ := i1 t
    obtain ⟨l2, p2, t2⟩ := i2 t1
    exact ⟨l2, p1.trans p2, t2⟩
/-- the same as data -/
def ratD (r : Int × Int) : PyData := .tuple [.int r.1, .int r.2]
theorem RtsAt.dp : ∀ {rs : List V} {l : List (Int × Int)}, RtsAt K H rs l → DpAll K H rs (l.map ratD)
  | _, _, .nil => .nil
  | _, _, .cons h _ _ _ _ t => .cons (.tup (SqT.of h) (.cons (.int _) (.cons (.int _) .nil))) t.dp
theorem RtsAt.lay : ∀ (l : List (Int × Int)), PyData.depthAll (l.map ratD) ≤ 2 ∧ PyData.canLayAll0 (l.map ratD) = true
  | [] => ⟨by simp [PyData.depthAll], by simp [PyData.canLayAll0]⟩
  | r :: l => by
    obtain ⟨a, b⟩ := RtsAt.lay l
    refine ⟨?_, ?_⟩
    · simp only [List.map_cons, ratD, PyData.depthAll, PyData.depth]
      omega
    · simp [List.map_cons, ratD, PyData.canLayAll0, PyData.canLay0, b]
theorem rd_neNilR {a b : Addr} {Q : VK} {rs : List V} {l : List (Int × Int)} (h : SqL K H a rs) (s : RtsAt K H rs l) (k : H b = some (.lst [])) (q : Q (.bl (!decide (rs = []))) H) : rNeD K (.ref a) (.ref b) H Q := by
  obtain ⟨z, c⟩ := RtsAt.lay l
  have e := s.len
  have z2 : PyData.depthAll (l.map ratD) + 1 ≤ 64 := by omega
  refine ⟨.list (l.map ratD), .list [], Dp.lst h s.dp, Dp.lst (SqL.of k) .nil, by simp [SeqAt.shaped, PyData.canLay0, PyData.depth, c, z2], by simp [SeqAt.shaped, PyData.canLay0, PyData.canLayAll0, PyData.depth, PyData.depthAll], ?_⟩
  have e2 : PyData.eqv (.list (l.map ratD)) (.list []) = decide (rs = []) := by
    cases s with
    | nil => simp [PyData.eqv, PyData.eqvAll]
    | cons h _ _ _ _ t => simp [PyData.eqv, PyData.eqvAll]
  rw [e2]
  exact q
theorem perm_eraseIdx {α : Type} : ∀ {xs : List α} {k : Nat} {y : α}, xs[k]? = some y → (y :: xs.eraseIdx k).Perm xs
  | [], k, y, e => by simp at e
  | x :: xs, 0, y, e => by
    simp at e
    subst e
    simp
  | x :: xs, k + 1, y, e => by
    simp at e
    have ih := perm_eraseIdx e
    rw [List.eraseIdx_cons_succ]
    exact (List.Perm.swap x y _).trans (ih.cons x)
theorem ra_of {p : Addr} {x y : Int} (h : H p = some (.tup [.int x, .int y])) (y0 : 0 < y) (g : Int.gcd x y = 1) (bx : Bd 1000 x) (bu : Bd 1000 y) : Ra K H p x y := ⟨SqT.of h, y0, g, bx, bu⟩
end
section
variable {K : PySem.W.Frag} {H J : Hp} {Q : VK}
def rLstOf (K : PySem.W.Frag) : List V → Hp → VK → Prop := fun xs H Q => ∃ p ys, xs = [.ref p] ∧ (SqL K H p ys ∨ SqT K H p ys) ∧ ∀ l, H l = none → Q (.ref l) (upd H l (.lst ys))
theorem lstK {X : Cx} (h : X.K = K) : CallR X (.type "list") (rLstOf K) := h ▸ call_list_of
theorem rd_lstOf {p : Addr} {ys : List V} (h : SqL K H p ys) (q : ∀ l J, H l = none → Same H J → J l = some (.lst ys) → Q (.ref l) J) : rLstOf K [.ref p] H Q := ⟨p, ys, rfl, .inl h, fun l nl => q l _ nl (same_new nl) upd_same⟩
theorem rd_popAt {l : Addr} {xs : List V} {k : Nat} {y : V} (h : H l = some (.lst xs)) (hk : k < 2 ^ 62) (e : xs[k]? = some y) (q : ∀ J, Pu l H J → J l = some (.lst (xs.eraseIdx k)) → Q y J) : rPopAt (.ref l) [.int (k : Int)] H Q := by
  have lt : k < xs.length := (List.getElem?_eq_some_iff.mp e).1
  refine ⟨l, xs, k, k, y, rfl, rfl, h, by omega, by omega, ?_, e, q _ ⟨Kp.at, ⟨_, h⟩, ⟨_, upd_same⟩⟩ upd_same⟩
  have n0 : ¬ (k : Int) < 0 := by omega
  simp [seqIndex?, n0, lt]
end
/-! ### a comprehension whose element draws from the bag -/
def LcEndB (D : Addr) (P : Nat → List V → Hp → Prop) (i : Nat) (y : V) (J : Hp) : Prop := ∃ acc, J D = some (.lst acc) ∧ acc.length < sizeLine ∧ ∃ ys, ys.length = i ∧ (upd J D (.lst (acc ++ [y]))) D = some (.lst ys) ∧ P i ys (upd J D (.lst (acc ++ [y])))
theorem lcEndB_mk {D : Addr} {P : Nat → List V → Hp → Prop} {i : Nat} {y : V} {J : Hp} {ys : List V} (h : J D = some (.lst ys)) (hl : ys.length = i) (hz : i ≤ 500) (q : ∀ J4, Pu D J J4 → J4 D = some (.lst (ys ++ [y])) → P (i + 1) (ys ++ [y]) J4) : LcEndB D P (i + 1) y J :=
  ⟨ys, h, small1000 (by omega), ys ++ [y], by rw [List.length_append, hl]; rfl, upd_same, q _ ⟨Kp.at, ⟨_, h⟩, ⟨_, upd_same⟩⟩ upd_same⟩
theorem lc_growB {g : TG} {te : TE} {vs : List Nat} {σ : L2.St} {H : Hp} {D : Addr} (P : Nat → List V → Hp → Prop) {n : Nat} {Qd : Hp → Prop} (h0 : P 0 [] (upd H D (.lst [])))
    (he : ∀ (i : Nat) ys J, i < n → ys.length = i → J D = some (.lst ys) → P i ys J → g (.int (0 + (i : Int))) (wipe σ vs) J fun σ2 J2 => wipe σ2 vs = wipe σ vs ∧ te σ2 J2 fun y J3 => LcEndB D P (i + 1) y J3)
    (hd : ∀ ys J, ys.length = n → J D = some (.lst ys) → P n ys J → Qd J) : Lc (Itr 0 n) g tYes te vs σ Qd H D := by
  refine lc_range (fun i J => ∃ ys, ys.length = i ∧ J D = some (.lst ys) ∧ P i ys J) ⟨[], rfl, upd_same, h0⟩ (fun i J hi w => ?_) fun J w => ?_
  · obtain ⟨ys, e, hJ, p⟩ := w
    exact he i ys J hi e hJ p
  · obtain ⟨ys, e, hJ, p⟩ := w
    exact hd ys J e hJ p
/-! ### what k06 keeps in view -/
structure St6 (K : PySem.W.Frag) (H : Hp) (b D p f : Addr) (ys ws : List V) (ls wl : List (Int × Int)) (m n : Int) (J : Hp) : Prop where
  kH : Kp b H J
  g : Bag b J
  eD : J D = some (.lst ys)
  ep : J p = some (.tup [.int m, .int n])
  ef : J f = some (.lst ws)
  ht : RtsAt K J ys ls
  tw : RtsAt K J ws wl
theorem St6.same {K : PySem.W.Frag} {H J M : Hp} {b D p f : Addr} {ys ws : List V} {ls wl : List (Int × Int)} {m n : Int} (S : St6 K H b D p f ys ws ls wl m n J) (s : Same J M) : St6 K H b D p f ys ws ls wl m n M :=
  ⟨S.kH.trans (Kp.of s), S.g.same s, s _ _ S.eD, s _ _ S.ep, s _ _ S.ef, S.ht.mono fun p xs h => s _ _ h, S.tw.mono fun p xs h => s _ _ h⟩
theorem cut_drop {xs : List V} {c : Nat} (h : c ≤ xs.length) : cutV xs (some (c : Int)) none = xs.drop c := by
  unfold cutV
  rw [HT.sIx_nat, HT.sIx_none, Nat.min_eq_left h]
  refine List.take_of_length_le ?_
  rw [List.length_drop]
  exact Nat.le_refl _
theorem cut_take {xs : List V} {c : Nat} (h : c ≤ xs.length) : cutV xs none (some (c : Int)) = xs.take c := by
  unfold cutV
  rw [HT.sIx_nat, HT.sIx_none, Nat.min_eq_left h]
  rfl
theorem floors_bd {K : PySem.W.Frag} {H : Hp} : ∀ {rs : List V} {l : List (Int × Int)}, RtsAt K H rs l → (floors l).natAbs ≤ l.length * 2 ^ 110
  | _, _, .nil => by simp [floors]
  | _, _, .cons (x := x) (y := y) (l := l) h y0 g bx bu t => by
    have ih := floors_bd t
    have e : floors ((x, y) :: l) = x.fdiv y + floors l := by simp [floors]
    have h1 := natAbs_fdiv_le x y0
    have h2 := Int.natAbs_add_le (x.fdiv y) (floors l)
    unfold Bd at bx
    rw [e, List.length_cons, Nat.succ_mul]
    omega
theorem RtsAt.three {K : PySem.W.Frag} {H : Hp} {rs : List V} {l : List (Int × Int)} (t : RtsAt K H rs l) (hz : 3 ≤ rs.length) : ∃ q1 q2 q3 x1 y1 x2 y2 x3 y3, rs.take 3 = [.ref q1, .ref q2, .ref q3] ∧ Ra K H q1 x1 y1 ∧ Ra K H q2 x2 y2 ∧ Ra K H q3 x3 y3 ∧ Bd 110 x1 ∧ Bd 110 y1 ∧ Bd 110 x2 ∧ Bd 110 y2 ∧ Bd 110 x3 ∧ Bd 110 y3 := by
  cases t with
  | nil => simp at hz
  | cons h1 a1 b1 c1 d1 t =>
    cases t with
    | nil => simp at hz
    | cons h2 a2 b2 c2 d2 t =>
      cases t with
      | nil => simp at hz
      | cons h3 a3 b3 c3 d3 t => exact ⟨_, _, _, _, _, _, _, _, _, rfl, ra_of h1 a1 b1 (c1.mono (by decide)) (d1.mono (by decide)), ra_of h2 a2 b2 (c2.mono (by decide)) (d2.mono (by decide)), ra_of h3 a3 b3 (c3.mono (by decide)) (d3.mono (by decide)), c1, d1, c2, d2, c3, d3⟩
end Ob
namespace Ob
open PySem PySem.Spec PyProof.Rows L2
/-! ### own functions called by the names of their parameters alone -/
structure KB (fd : FuncData) (ps ks : List Str) (g : List Value → List Value) (gV : List V → List V) : Prop where
  to : ∀ (s : Shared) (ws : List Value), ws.length = ks.length → BindsTo s fd ⟨[], ks.zip ws⟩ (ps.zip (g ws))
  rel : ∀ {zs : List V} {ws : List Value}, Vals zs ws → zs.length = ks.length → Vals (gV zs) (g ws)
theorem Fun.kb {K : PySem.W.Frag} {x qual : Str} {st : Stmt} {f : Addr} {fd : FuncData} (F : Fun K x qual st f fd) {ps ks : List Str} {g : List Value → List Value} {gV : List V → List V}
    (h : ∀ (kV doc pm : Value) (an : Option Addr) (cdv ct : Value) (ws : List Value), ws.length = ks.length → bindArgs (PySem.W.fnOf x qual (defArgs st) (defBody st) (defScope st) .none kV doc pm an cdv ct) ⟨[], ks.zip ws⟩ = pure (ps.zip (g ws)))
    (r : ∀ {zs : List V} {ws : List Value}, Vals zs ws → zs.length = ks.length → Vals (gV zs) (g ws)) : KB fd ps ks g gV := by
  obtain ⟨oc, od, kV, doc, pm, an, c, ct, osl, rfl, look, code⟩ := F.ex
  exact ⟨fun s ws hl => .of_eq (h kV doc pm an c ct ws hl), r⟩
/-- reordering by places -/
def by_ {α : Type} [Inhabited α] (is : List Nat) (xs : List α) : List α := is.map fun i => xs.getD i default
theorem vals_nth {zs : List V} {ws : List Value} (r : Vals zs ws) : ∀ {i : Nat}, i < zs.length → ∃ v w, zs[i]? = some v ∧ ws[i]? = some w ∧ RelV v w := by
  induction r with
  | nil => intro i h; simp at h
  | cons h t ih =>
    intro i hi
    cases i with
    | zero => exact ⟨_, _, rfl, rfl, h⟩
    | succ i =>
      obtain ⟨v, w, e1, e2, e3⟩ := ih (i := i) (by simpa using hi)
      exact ⟨v, w, by simpa using e1, by simpa using e2, e3⟩
def nthV (zs : List V) (i : Nat) : V := (zs[i]?).getD .non
def nthW (ws : List Value) (i : Nat) : Value := (ws[i]?).getD .none
theorem vals_by (is : List Nat) {zs : List V} {ws : List Value} (r : Vals zs ws) (h : ∀ i ∈ is, i < zs.length) : Vals (is.map (nthV zs)) (is.map (nthW ws)) := by
  induction is with
  | nil => exact .nil
  | cons i is ih =>
    obtain ⟨v, w, e1, e2, e3⟩ := vals_nth r (h i (by simp))
    have a : nthV zs i = v := by simp [nthV, e1]
    have b : nthW ws i = w := by simp [nthW, e2]
    rw [List.map_cons, List.map_cons, a, b]
    exact .cons e3 (ih fun j hj => h j (by simp [hj]))
def tCallK (m : Nat) (sp : Sp) (gV : List V → List V) (E : XK) (tk : TA) : TE := fun σ H Q => tk σ H fun zs H1 => zs.length = m ∧ sp (gV zs) H1 Q E
theorem run_gk {X : Cx} {CX : CXT} {k : Nat} {f : Addr} {fd : FuncData} {ps ks : List Str} {sp : Sp} {E : XK} {g : List Value → List Value} {gV : List V → List V} {pins : List (Addr × Obj)} {σ : L2.St} {H : Hp} {s : Shared} {Q : VK} {ws : List Value} {zs : List V}
    (F : FnG X.prog X.w X.K X.mg X.base CX k f fd ps sp) (hg : X.A.guards = some []) (hr : Room k X.A) (hb : KB fd ps ks g gV) (hx : Passes CX X E)
    (I : Inv X pins σ H s) (rv : Vals zs ws) (hl : zs.length = ks.length) (hs : sp (gV zs) H Q E) : wpAny (model X.prog X.w) X.A (call (.ref f) [] (ks.zip ws)) (EP X pins σ Q) X.xe s := by
  have all := hb.rel rv hl
  refine wpAny_call (codeAny_mono (F.go X.A X.stack s H ⟨[], ks.zip ws⟩ (g ws) (gV zs) Q E hg hr I.env0 (hb.to s ws (rv.length.symm.trans hl)) all hs) fun r s' z => ?_)
  match r, z with
  | .error e, z => exact hx pins σ H s e s' I z
  | .ok (.ret u), z => exact I.after z
theorem pe_gk {X : Cx} {CX : CXT} {k : Nat} {f : Addr} {fd : FuncData} {ps ks : List Str} {sp : Sp} {E : XK} {g : List Value → List Value} {gV : List V → List V} {x : Str} {p pos : PySem.Pos} {kws : List Keyword} {tk : TA}
    (F : FnG X.prog X.w X.K X.mg X.base CX k f fd ps sp) (hg : X.A.guards = some []) (hr : Room k X.A) (gl : Gl X x) (hm : X.mg x = some (.ref f)) (hk : PySem.W.keepIn X.K (.ref f) = true) (hb : KB fd ps ks g gV) (hx : Passes CX X E) (hkw : PK X kws tk)
    (hall : (backToKw pos (keywordEach kws X.env)).all (·.1.isSome) = true := by rfl) (hks : (backToKw pos (keywordEach kws X.env)).filterMap (·.1) = ks := by rfl) (hdb : (x == ("__debug__" : Str)) = false := by decide)
    (hpl : ((backTo pos (starEach [] X.env)).any (·.1) || (backToKw pos (keywordEach kws X.env)).any (·.1.isNone)) = false := by rfl) :
    PE X (.Call (.Name x p) [] kws pos) (tCallK ks.length sp gV E tk) := by
  refine ⟨fun pins s σ H Q I h => ?_⟩
  refine wpAny_Call_Name_kw (ld_glob I gl hm ?_ hdb)
  refine PySem.W.callWith_KW0 (h₀ := X.base) I.ok.mod.kin hk hall ?_ hpl
  refine thn (hkw.run pos pins s σ H _ I h) fun ws s2 ⟨zs, H2, I2, rz, l2, q2⟩ => ⟨I2.kIn, ?_⟩
  rw [hks]
  exact run_gk F hg hr hb hx I2 rz l2 q2
theorem pe_ck {X : Cx} {k : Nat} {f : Addr} {fd : FuncData} {ps ks : List Str} {sp : Sp} {g : List Value → List Value} {gV : List V → List V} {x : Str} {p pos : PySem.Pos} {kws : List Keyword} {tk : TA}
    (C : Cal X.prog X.w X.K X.mg X.base x k f fd ps sp) (hb : KB fd ps ks g gV) (hg : X.A.guards = some []) (hr : Room k X.A) (gl : Gl X x) (hkw : PK X kws tk)
    (hall : (backToKw pos (keywordEach kws X.env)).all (·.1.isSome) = true := by rfl) (hks : (backToKw pos (keywordEach kws X.env)).filterMap (·.1) = ks := by rfl) (hdb : (x == ("__debug__" : Str)) = false := by decide)
    (hpl : ((backTo pos (starEach [] X.env)).any (·.1) || (backToKw pos (keywordEach kws X.env)).any (·.1.isNone)) = false := by rfl) :
    PE X (.Call (.Name x p) [] kws pos) (tCallK ks.length sp gV E0 tk) := pe_gk C.g hg hr gl C.m C.kp hb pass0 hkw hall hks hdb hpl
section
variable {K : PySem.W.Frag} {H : Hp} {σ : L2.St} {Q : VK} {tk : TA}
theorem rd_callK {m : Nat} {sp : Sp} {gV : List V → List V} {E : XK} (q : tk σ H fun zs H1 => zs.length = m ∧ sp (gV zs) H1 Q E) : tCallK m sp gV E tk σ H Q := q
theorem rd_kwl {zs : List V} {m : Nat} {A : Prop} (h : zs.length = m) (q : A) : zs.length = m ∧ A := ⟨h, q⟩
end
/-! ### lengths, by the numbers alone -/
def lowP (t u : Int) : Int × Int := (t.fdiv ((Int.gcd t u : Nat) : Int), u.fdiv ((Int.gcd t u : Nat) : Int))
theorem lowP_is {t u : Int} (h : 0 < u) : IsLow t u (lowP t u).1 (lowP t u).2 := (low_at (t := t) (u := u) (s := ((Int.gcd t u : Nat) : Int)) (by omega) (by rw [if_neg (by omega)])).1
theorem lowP_eq {t u m n : Int} (h : 0 < u) (l : IsLow t u m n) : m = (lowP t u).1 ∧ n = (lowP t u).2 := low_uniq l (lowP_is h) (by omega) (by omega) rfl
def lenS (st : Int × Int) : List Sn → Int × Int
  | [] => st
  | s :: t => lenS (lowP (st.1 * (lowP (s.u * s.y - s.x * s.v) (s.v * s.y)).2 + (lowP (s.u * s.y - s.x * s.v) (s.v * s.y)).1 * st.2) (st.2 * (lowP (s.u * s.y - s.x * s.v) (s.v * s.y)).2)) t
def SmallS (ss : List Sn) : Prop := ∀ s ∈ ss, Bd 60 s.x ∧ Bd 60 s.y ∧ Bd 60 s.u ∧ Bd 60 s.v
theorem arcD_small {x y u v : Int} (a : Bd 60 x) (b : Bd 60 y) (c : Bd 60 u) (d : Bd 60 v) : SmallS (arcD x y u v) := by
  have z : Bd 60 0 := Bd.lit (by decide +kernel)
  have o : Bd 60 1 := Bd.lit (by decide +kernel)
  intro s hs
  unfold arcD at hs
  split at hs
  · cases hs
  · split at hs
    · obtain rfl := List.mem_singleton.mp hs
      exact ⟨a, b, c, d⟩
    · split at hs
      · obtain rfl := List.mem_singleton.mp hs
        exact ⟨a, b, o, o⟩
      · rcases List.mem_append.mp hs with hs | hs
        · obtain rfl := List.mem_singleton.mp hs
          exact ⟨z, o, c, d⟩
        · obtain rfl := List.mem_singleton.mp hs
          exact ⟨a, b, o, o⟩
section
variable {K : PySem.W.Frag} {H : Hp} {Q : VK}
def shown5 (c : Bool) (B W : List Sn) (m n : Int) (h : Bool) : Str := PyData.shown (.list [.bool c, .list (B.map snD), .list (W.map snD), .tuple [.int m, .int n], .bool h])
theorem rd_repr5 {l lb lw z : Addr} {c h : Bool} {m n : Int} {wB wW : List V} {B W : List Sn} (hl : H l = some (.lst [.bl c, .ref lb, .ref lw, .ref z, .bl h])) (hb : H lb = some (.lst wB)) (sb : SnsAt K H wB B) (hw : H lw = some (.lst wW)) (sw : SnsAt K H wW W)
    (hz : SqT K H z [.int m, .int n]) (l1 : wB.length ≤ 40) (l2 : wW.length ≤ 40) (bm : Bd 900 m) (bn : Bd 900 n) (q : Q (.str (shown5 c B W m n h)) H) : rRepr K [.ref l] H Q := by
  obtain ⟨a1, a2, a3, _⟩ := sb.small
  obtain ⟨b1, b2, b3, _⟩ := sw.small
  have lm := bm.log
  have ln := bn.log
  refine ⟨l, .list [.bool c, .list (B.map snD), .list (W.map snD), .tuple [.int m, .int n], .bool h], rfl,
    Dp.lst (SqL.of hl) (.cons (.bl _) (.cons (Dp.lst (SqL.of hb) sb.dp) (.cons (Dp.lst (SqL.of hw) sw.dp) (.cons (Dp.tup hz (.cons (.int _) (.cons (.int _) .nil))) (.cons (.bl _) .nil))))), ?_, ?_, ?_, q⟩
  · simp only [sm, sms, a1, b1, Bool.and_true, Bool.true_and, Bool.and_eq_true, decide_eq_true_eq]
    omega
  · simp only [sz, szs]
    omega
  · simp only [PyData.depth, PyData.depthAll]
    omega
end
end Ob
namespace Ob
open PySem PySem.Spec PyProof.Rows L2
/-! ### sets of cuts as truth over the units of a grain -/
def Frm (g : Nat) (f : Nat → Bool) (ss : List Sn) : Prop := 0 < g ∧ SnsOf g (rruns f g).reverse ss
def inB (ps : List (Nat × Nat)) (u : Nat) : Bool := ps.any fun r => decide (r.1 ≤ u) && decide (u < r.2)
theorem inB_iff {ps : List (Nat × Nat)} {u : Nat} : inB ps u = true ↔ In u ps := by
  unfold inB In
  rw [List.any_eq_true]
  constructor
  · rintro ⟨r, hr, h⟩
    rw [Bool.and_eq_true, decide_eq_true_eq, decide_eq_true_eq] at h
    exact ⟨r, hr, h⟩
  · rintro ⟨r, hr, h⟩
    exact ⟨r, hr, by rw [Bool.and_eq_true, decide_eq_true_eq, decide_eq_true_eq]; exact h⟩
theorem frm_of {g : Nat} {ps : List (Nat × Nat)} {ss : List Sn} (g0 : 0 < g) (a : Asc 0 ps) (bd : ∀ x ∈ ps, x.2 ≤ g) (s : SnsOf g ps ss) : Frm g (inB ps) ss := by
  have e : ps = (rruns (inB ps) g).reverse := asc_ext a (asc_rev (rruns_ok _ g)) fun u => by
    rw [in_rruns, inB_iff]
    refine ⟨fun h => ⟨?_, h⟩, fun h => h.2⟩
    obtain ⟨r, hr, h1, h2⟩ := h
    exact Nat.lt_of_lt_of_le h2 (bd r hr)
  exact ⟨g0, e ▸ s⟩
theorem rruns_congr {g : Nat} {f h : Nat → Bool} (e : ∀ u, u < g → f u = h u) : (rruns f g).reverse = (rruns h g).reverse :=
  asc_ext (asc_rev (rruns_ok f g)) (asc_rev (rruns_ok h g)) fun u => by
    rw [in_rruns, in_rruns]
    constructor
    · rintro ⟨a, b⟩
      exact ⟨a, by rw [← e u a]; exact b⟩
    · rintro ⟨a, b⟩
      exact ⟨a, by rw [e u a]; exact b⟩
theorem Frm.congr {g : Nat} {f h : Nat → Bool} {ss : List Sn} (k : Frm g f ss) (e : ∀ u, u < g → f u = h u) : Frm g h ss := ⟨k.1, rruns_congr e ▸ k.2⟩
theorem Frm.uniq {g : Nat} {f h : Nat → Bool} {ss ts : List Sn} (k : Frm g f ss) (l : Frm g h ts) (e : ∀ u, u < g → f u = h u) : ss = ts := sns_uniq k.1 (k.congr e).2 l.2
theorem low_inj {lo lo' g : Nat} {x y : Int} (h : IsLow (lo : Int) (g : Int) x y) (k : IsLow (lo' : Int) (g : Int) x y) : lo = lo' := by
  have e : (lo : Int) * y = (lo' : Int) * y := h.2.2.1.symm.trans k.2.2.1
  have := Int.eq_of_mul_eq_mul_right (show y ≠ 0 by have := h.1; omega) e
  omega
theorem sns_inj {g : Nat} : ∀ {ps qs : List (Nat × Nat)} {ss : List Sn}, SnsOf g ps ss → SnsOf g qs ss → ps = qs
  | _, _, _, .nil, .nil => rfl
  | _, _, _, .cons a b t, .cons a' b' t' => by rw [low_inj a a', low_inj b b', sns_inj t t']
theorem Frm.inj {g : Nat} {f h : Nat → Bool} {ss : List Sn} (k : Frm g f ss) (l : Frm g h ss) : ∀ u, u < g → f u = h u := by
  have e := sns_inj k.2 l.2
  intro u hu
  have a := in_rruns f g u
  have b := in_rruns h g u
  rw [e] at a
  rw [Bool.eq_iff_iff]
  constructor
  · intro z
    exact (b.mp (a.mpr ⟨hu, z⟩)).2
  · intro z
    exact (a.mp (b.mpr ⟨hu, z⟩)).2
theorem sns_scale {g k : Nat} (g0 : 0 < g) (k0 : 0 < k) : ∀ {ps : List (Nat × Nat)} {ss : List Sn}, SnsOf g ps ss → SnsOf (g * k) (ps.map fun r => (r.1 * k, r.2 * k)) ss
  | _, _, .nil => .nil
  | _, _, .cons a b t => by
    have nz : ((g * k : Nat) : Int) ≠ 0 := by
      have := Nat.mul_pos g0 k0
      omega
    refine .cons (low_of a.1 a.2.1 ?_ nz) (low_of b.1 b.2.1 ?_ nz) (sns_scale g0 k0 t)
    · have := a.2.2.1
      push_cast
      grind
    · have := b.2.2.1
      push_cast
      grind
theorem asc_scale {k : Nat} (k0 : 0 < k) : ∀ {ps : List (Nat × Nat)} {i : Nat}, Asc i ps → Asc (i * k) (ps.map fun r => (r.1 * k, r.2 * k))
  | [], _, _ => .nil
  | (lo, hi) :: t, i, h => by
    cases h with
    | cons a b r =>
      refine .cons (Nat.mul_le_mul_right k a) (Nat.mul_lt_mul_of_pos_right b k0) ((asc_scale k0 r).dn ?_)
      have e : (hi + 1) * k = hi * k + k := Nat.succ_mul _ _
      show hi * k + 1 ≤ (hi + 1) * k
      omega
theorem Frm.scale {g k : Nat} {f : Nat → Bool} {ss : List Sn} (h : Frm g f ss) (k0 : 0 < k) : Frm (g * k) (fun u => f (u / k)) ss := by
  have G0 := Nat.mul_pos h.1 k0
  have a := asc_scale k0 (asc_rev (rruns_ok f g))
  rw [Nat.zero_mul] at a
  refine (frm_of G0 a (fun x hx => ?_) (sns_scale h.1 k0 h.2)).congr fun u hu => ?_
  · obtain ⟨r, hr, rfl⟩ := List.mem_map.mp hx
    exact Nat.mul_le_mul_right k ((rruns_ok f g).bnd r (List.mem_reverse.mp hr))
  · have hk : u / k < g := (Nat.div_lt_iff_lt_mul k0).mpr hu
    rw [Bool.eq_iff_iff, inB_iff]
    have e : In u ((rruns f g).reverse.map fun r => (r.1 * k, r.2 * k)) ↔ In (u / k) (rruns f g).reverse := by
      constructor
      · rintro ⟨r, hr, h1, h2⟩
        obtain ⟨q, hq, rfl⟩ := List.mem_map.mp hr
        exact ⟨q, hq, (Nat.le_div_iff_mul_le k0).mpr h1, (Nat.div_lt_iff_lt_mul k0).mpr h2⟩
      · rintro ⟨q, hq, h1, h2⟩
        exact ⟨_, List.mem_map.mpr ⟨q, hq, rfl⟩, (Nat.le_div_iff_mul_le k0).mp h1, (Nat.div_lt_iff_lt_mul k0).mp h2⟩
    rw [e, in_rruns]
    exact ⟨fun z => z.2, fun z => ⟨hk, z⟩⟩
theorem low_zero {g : Nat} (g0 : 0 < g) : IsLow ((0 : Nat) : Int) (g : Int) 0 1 := low_of (by decide) (by decide) (by simp) (by omega)
theorem low_full {g : Nat} (g0 : 0 < g) : IsLow (g : Int) (g : Int) 1 1 := low_of (by decide) (by decide) (by simp) (by omega)
theorem frm_all {g : Nat} (g0 : 0 < g) : Frm g (fun _ => true) [⟨0, 1, 1, 1⟩] := by
  refine (frm_of (ps := [(0, g)]) g0 (.cons (Nat.le_refl _) g0 .nil) (fun x hx => ?_) (.cons (low_zero g0) (low_full g0) .nil)).congr fun u hu => ?_
  · obtain rfl := List.mem_singleton.mp hx
    exact Nat.le_refl _
  · simp [inB, hu]
theorem frm_nil {g : Nat} (g0 : 0 < g) : Frm g (fun _ => false) [] := frm_of (ps := []) g0 .nil (fun x hx => by cases hx) .nil
theorem Frm.both {g : Nat} {f h : Nat → Bool} {ss ts : List Sn} (a : Frm g f ss) (b : Frm g h ts) : Frm g (fun u => f u && h u) (bothS ss ts) := ⟨a.1, both_form a.1 a.2 b.2⟩
theorem Frm.without {g : Nat} {f h : Nat → Bool} {ss ts : List Sn} (a : Frm g f ss) (b : Frm g h ts) : Frm g (fun u => f u && !h u) (bothS ss (gapsS (0, 1) ts)) := ⟨a.1, without_form a.1 a.2 b.2⟩
theorem frm_arc {X Y U V : Nat} (xy : X < Y) (uv : U < V) (g : Int.gcd (X : Int) (Y : Int) = 1) (g' : Int.gcd (U : Int) (V : Int) = 1) : ∃ f, Frm (Y * V) f (arcD X Y U V) := by
  have Y0 : 0 < Y := by omega
  have V0 : 0 < V := by omega
  have G0 := Nat.mul_pos Y0 V0
  have nz : ((Y * V : Nat) : Int) ≠ 0 := by omega
  have la : IsLow ((X * V : Nat) : Int) ((Y * V : Nat) : Int) X Y := low_of (by omega) g (by push_cast; grind) nz
  have lb : IsLow ((U * Y : Nat) : Int) ((Y * V : Nat) : Int) U V := low_of (by omega) g' (by push_cast; grind) nz
  have aG : X * V < Y * V := Nat.mul_lt_mul_of_pos_right xy V0
  have bG : U * Y < Y * V := by
    rw [Nat.mul_comm Y V]
    exact Nat.mul_lt_mul_of_pos_right uv Y0
  unfold arcD
  by_cases c : (X : Int) = U ∧ (Y : Int) = V
  · rw [if_pos c]
    exact ⟨_, frm_nil G0⟩
  · rw [if_neg c]
    have lt := low_lt la lb G0
    by_cases c2 : (X : Int) * V < U * Y
    · rw [if_pos c2]
      refine ⟨_, frm_of G0 (.cons (Nat.zero_le _) (lt.mp c2) .nil) (fun x hx => ?_) (.cons la lb .nil)⟩
      obtain rfl := List.mem_singleton.mp hx
      exact Nat.le_of_lt bG
    · rw [if_neg c2]
      have ne : U * Y ≠ X * V := fun e => by
        refine c (low_one (by omega) (by omega) g g' ?_)
        exact_mod_cast e.symm
      have lt2 : U * Y < X * V := by
        have : ¬ X * V < U * Y := fun z => c2 (lt.mpr z)
        omega
      by_cases c3 : (U : Int) = 0 ∧ (V : Int) = 1
      · rw [if_pos c3]
        refine ⟨_, frm_of G0 (ps := [(X * V, Y * V)]) (.cons (Nat.zero_le _) aG .nil) (fun x hx => ?_) (.cons la (low_full G0) .nil)⟩
        obtain rfl := List.mem_singleton.mp hx
        exact Nat.le_refl _
      · rw [if_neg c3]
        have U0 : 0 < U := by
          rcases Nat.eq_zero_or_pos U with z | z
          · subst z
            simp at g'
            omega
          · exact z
        have h0 : 0 < U * Y := Nat.mul_pos U0 Y0
        refine ⟨_, frm_of G0 (ps := [(0, U * Y), (X * V, Y * V)]) (.cons (Nat.le_refl _) h0 (.cons (by omega) aG .nil)) (fun x hx => ?_) (.cons (low_zero G0) lb (.cons la (low_full G0) .nil))⟩
        simp only [List.mem_cons, List.not_mem_nil, or_false] at hx
        rcases hx with rfl | rfl
        · exact Nat.le_of_lt bG
        · exact Nat.le_refl _
theorem cuts_of {g : Nat} (g0 : 0 < g) : ∀ {ps : List (Nat × Nat)} {ss : List Sn} {i : Nat}, Asc i ps → (∀ x ∈ ps, x.2 ≤ g) → SnsOf g ps ss → cutsB ss = true
  | _, _, _, _, _, .nil => rfl
  | _, _, _, h, bd, .cons (s := s) a b t => by
    cases h with
    | cons k lt r =>
      have ih := cuts_of g0 r (fun x hx => bd x (List.mem_cons_of_mem _ hx)) t
      unfold cutsB at ih ⊢
      rw [Bool.and_eq_true] at ih
      have ok : okS s = true := by
        have hb := bd _ List.mem_cons_self
        have e1 := a.2.2.1
        have e2 := b.2.2.1
        have y0 := a.1
        have v0 := b.1
        have x0 : 0 ≤ s.x := by
          have h1 : 0 ≤ s.x * (g : Int) := by rw [e1]; exact Int.mul_nonneg (by omega) (by omega)
          exact Int.nonneg_of_mul_nonneg_left h1 (by omega)
        have u1 : s.u ≤ s.v := by
          have h1 : s.u * (g : Int) ≤ s.v * (g : Int) := by
            rw [e2, Int.mul_comm s.v]
            exact Int.mul_le_mul_of_nonneg_right (by exact_mod_cast hb) (by omega)
          exact Int.le_of_mul_le_mul_right h1 (by omega)
        have l := (low_lt a b g0).mpr lt
        unfold okS
        simp [l]
        omega
      rw [Bool.and_eq_true]
      refine ⟨by simp [ok]; simpa using ih.1, ?_⟩
      cases t with
      | nil => simp
      | cons a' b' t' =>
        cases r with
        | cons k' lt' r' =>
          have l := (low_lt b a' g0).mpr (by omega)
          have ih2 := ih.2
          simp [okN, l] at ih2 ⊢
          exact ih2
theorem Frm.cuts {g : Nat} {f : Nat → Bool} {ss : List Sn} (h : Frm g f ss) : cutsB ss = true := cuts_of h.1 (asc_rev (rruns_ok f g)) (fun x hx => (rruns_ok f g).bnd x (List.mem_reverse.mp hx)) h.2
theorem Frm.has {g : Nat} {f : Nat → Bool} {ss : List Sn} (h : Frm g f ss) {x y : Int} (x0 : 0 ≤ x) (xy : x < y) (gg : Int.gcd x y = 1) : ∃ u : Nat, u < g ∧ ∀ {f' : Nat → Bool} {ts : List Sn}, Frm g f' ts → ts.any (hasS x y) = f' u := by
  have g0 := h.1
  have y0 : 0 < y := by omega
  have q0 : 0 ≤ x * g / y := Int.ediv_nonneg (Int.mul_nonneg x0 (by omega)) (by omega)
  have ql : x * g / y < g := by
    refine (Int.ediv_lt_iff_lt_mul y0).mpr ?_
    rw [Int.mul_comm (g : Int) y]
    exact Int.mul_lt_mul_of_pos_right xy (by omega)
  obtain ⟨u, hu⟩ := Int.eq_ofNat_of_zero_le q0
  refine ⟨u, by omega, fun {f' ts} k => ?_⟩
  have e := Int.emod_add_mul_ediv (x * g) y
  have low : IsLow ((u : Int) * y + (x * g) % y) ((g : Int) * y) x y := by
    refine low_of y0 gg ?_ (Int.mul_ne_zero (by omega) (by omega))
    rw [← hu]
    grind
  have hf := has_form low (by omega) y0 (Int.emod_nonneg _ (by omega)) (Int.emod_lt_of_pos _ y0) k.2
  rw [Bool.eq_iff_iff, hf]
  have m := in_rruns f' g u
  constructor
  · rintro ⟨r, hr, h1, h2⟩
    exact (m.mp ⟨r, hr, by omega, by omega⟩).2
  · intro z
    obtain ⟨r, hr, h1, h2⟩ := m.mpr ⟨by omega, z⟩
    exact ⟨r, hr, by omega, by omega⟩
/-! ### lengths -/
theorem cnt_two (f h : Nat → Bool) : ∀ n, cnt (fun u => f u && h u) n + cnt (fun u => f u && !h u) n = cnt f n
  | 0 => rfl
  | n + 1 => by
    have ih := cnt_two f h n
    rw [cnt, cnt, cnt]
    cases f n <;> cases h n <;> simp <;> omega
theorem tot_cnt (f : Nat → Bool) (g : Nat) : tot (rruns f g).reverse = cnt f g := by rw [tot_rev, rruns_tot, cnt_filter]
theorem Frm.empty {g : Nat} {f : Nat → Bool} {ss : List Sn} (h : Frm g f ss) : ss = [] ↔ ∀ u, u < g → f u = false := by
  constructor
  · rintro rfl u hu
    exact h.inj (frm_nil h.1) u hu
  · intro z
    exact h.uniq (frm_nil h.1) z
theorem Frm.same {g : Nat} {f h : Nat → Bool} {ss ts : List Sn} (a : Frm g f ss) (b : Frm g h ts) : ss = ts ↔ ∀ u, u < g → f u = h u := by
  constructor
  · rintro rfl
    exact a.inj b
  · exact a.uniq b
/-- a common grain of three sets -/
theorem frm_three {g1 g2 g3 : Nat} {f1 f2 f3 : Nat → Bool} {s1 s2 s3 : List Sn} (a : Frm g1 f1 s1) (b : Frm g2 f2 s2) (c : Frm g3 f3 s3) : ∃ g h1 h2 h3, Frm g h1 s1 ∧ Frm g h2 s2 ∧ Frm g h3 s3 := by
  have A := a.scale (k := g2 * g3) (Nat.mul_pos b.1 c.1)
  have B := b.scale (k := g1 * g3) (Nat.mul_pos a.1 c.1)
  have C := c.scale (k := g1 * g2) (Nat.mul_pos a.1 b.1)
  have e1 : g2 * (g1 * g3) = g1 * (g2 * g3) := by rw [← Nat.mul_assoc, Nat.mul_comm g2 g1, Nat.mul_assoc]
  have e2 : g3 * (g1 * g2) = g1 * (g2 * g3) := by rw [Nat.mul_comm, Nat.mul_assoc]
  rw [e1] at B
  rw [e2] at C
  exact ⟨_, _, _, _, A, B, C⟩
theorem frm_two {g1 g2 : Nat} {f1 f2 : Nat → Bool} {s1 s2 : List Sn} (a : Frm g1 f1 s1) (b : Frm g2 f2 s2) : ∃ h1 h2, Frm (g1 * g2) h1 s1 ∧ Frm (g1 * g2) h2 s2 := by
  have B := b.scale (k := g1) a.1
  rw [Nat.mul_comm] at B
  exact ⟨_, _, a.scale b.1, B⟩
/-! ### lists of spans compared -/
instance : DecidableEq Sn := fun s t => decidable_of_iff (s.x = t.x ∧ s.y = t.y ∧ s.u = t.u ∧ s.v = t.v) ⟨fun ⟨a, b, c, d⟩ => by cases s; cases t; simp only at a b c d; subst a b c d; rfl, fun e => by subst e; exact ⟨rfl, rfl, rfl, rfl⟩⟩
theorem eqv_num {x y u v : Int} : PyData.eqv (.tuple [.int x, .int y]) (.tuple [.int u, .int v]) = decide (x = u ∧ y = v) := eqv_two
theorem eqv_sn (s t : Sn) : PyData.eqv (snD s) (snD t) = decide (s = t) := by
  obtain ⟨a, b, c, d⟩ := s
  obtain ⟨a', b', c', d'⟩ := t
  have e1 := eqv_two (x := a) (y := b) (u := a') (v := b')
  have e2 := eqv_two (x := c) (y := d) (u := c') (v := d')
  have e : PyData.eqv (snD ⟨a, b, c, d⟩) (snD ⟨a', b', c', d'⟩) = (PyData.eqv (.tuple [.int a, .int b]) (.tuple [.int a', .int b']) && PyData.eqv (.tuple [.int c, .int d]) (.tuple [.int c', .int d'])) := by
    simp [snD, PyData.eqv, PyData.eqvAll]
  rw [e, e1, e2]
  by_cases h1 : a = a' <;> by_cases h2 : b = b' <;> by_cases h3 : c = c' <;> by_cases h4 : d = d' <;> simp [h1, h2, h3, h4]
theorem eqv_sns : ∀ ss ts : List Sn, PyData.eqvAll (ss.map snD) (ts.map snD) = decide (ss = ts)
  | [], [] => by simp [PyData.eqvAll]
  | [], t :: ts => by simp [PyData.eqvAll]
  | s :: ss, [] => by simp [PyData.eqvAll]
  | s :: ss, t :: ts => by
    rw [List.map_cons, List.map_cons, PyData.eqvAll, eqv_sn, eqv_sns ss ts]
    by_cases h1 : s = t <;> by_cases h2 : ss = ts <;> simp [h1, h2]
section
variable {K : PySem.W.Frag} {H : Hp} {a b : Addr} {rs zs : List V} {ss ts : List Sn} {Q : VK}
theorem rd_eqL (h : SqL K H a rs) (s : SnsAt K H rs ss) (k : SqL K H b zs) (t : SnsAt K H zs ts) (q : Q (.bl (decide (ss = ts))) H) : rEqD K (.ref a) (.ref b) H Q := by
  obtain ⟨a1, a2, a3, a4⟩ := s.small
  obtain ⟨b1, b2, b3, b4⟩ := t.small
  refine ⟨_, _, Dp.lst h s.dp, Dp.lst k t.dp, ?_, ?_, ?_⟩
  · have z : PyData.depthAll (ss.map snD) + 1 ≤ 64 := by omega
    simp [SeqAt.shaped, PyData.canLay0, PyData.depth, a4, z]
  · have z : PyData.depthAll (ts.map snD) + 1 ≤ 64 := by omega
    simp [SeqAt.shaped, PyData.canLay0, PyData.depth, b4, z]
  · have e : PyData.eqv (.list (ss.map snD)) (.list (ts.map snD)) = decide (ss = ts) := by
      rw [PyData.eqv, eqv_sns]
    rw [e]
    exact q
theorem rd_neL (h : SqL K H a rs) (s : SnsAt K H rs ss) (k : SqL K H b zs) (t : SnsAt K H zs ts) (q : Q (.bl (!decide (ss = ts))) H) : rNeD K (.ref a) (.ref b) H Q := by
  obtain ⟨a1, a2, a3, a4⟩ := s.small
  obtain ⟨b1, b2, b3, b4⟩ := t.small
  refine ⟨_, _, Dp.lst h s.dp, Dp.lst k t.dp, ?_, ?_, ?_⟩
  · have z : PyData.depthAll (ss.map snD) + 1 ≤ 64 := by omega
    simp [SeqAt.shaped, PyData.canLay0, PyData.depth, a4, z]
  · have z : PyData.depthAll (ts.map snD) + 1 ≤ 64 := by omega
    simp [SeqAt.shaped, PyData.canLay0, PyData.depth, b4, z]
  · have e : PyData.eqv (.list (ss.map snD)) (.list (ts.map snD)) = decide (ss = ts) := by
      rw [PyData.eqv, eqv_sns]
    rw [e]
    exact q
end
end Ob
namespace Ob
open PySem PySem.Spec PyProof.Rows L2
/-! ### three sets of cuts put together and taken away -/
def woS (s t : List Sn) : List Sn := bothS s (gapsS (0, 1) t)
def allS : List Sn := [⟨0, 1, 1, 1⟩]
theorem Frm.wo {g : Nat} {f h : Nat → Bool} {ss ts : List Sn} (a : Frm g f ss) (b : Frm g h ts) : Frm g (fun u => f u && !h u) (woS ss ts) := a.without b
theorem set_facts {g1 g2 g3 : Nat} {f1 f2 f3 : Nat → Bool} {s1 s2 s3 : List Sn} (a : Frm g1 f1 s1) (b : Frm g2 f2 s2) (c : Frm g3 f3 s3) :
    bothS (bothS s1 s2) (woS s1 s2) = [] ∧ bothS s1 s2 = bothS s2 s1 ∧ bothS (bothS s1 s2) s3 = bothS s1 (bothS s2 s3) ∧ woS (woS s1 s2) s3 = woS (woS s1 s3) s2 ∧
    woS s1 (woS s1 s2) = bothS s1 s2 ∧ woS allS (woS allS s1) = s1 ∧ ((woS s1 s2 = [] ∧ woS s2 s1 = []) ↔ s1 = s2) := by
  obtain ⟨g, h1, h2, h3, A, B, C⟩ := frm_three a b c
  have W := frm_all A.1
  refine ⟨?_, ?_, ?_, ?_, ?_, ?_, ?_⟩
  · exact ((A.both B).both (A.wo B)).empty.mpr fun u _ => by cases h1 u <;> cases h2 u <;> rfl
  · exact (A.both B).uniq (B.both A) fun u _ => by cases h1 u <;> cases h2 u <;> rfl
  · exact ((A.both B).both C).uniq (A.both (B.both C)) fun u _ => by cases h1 u <;> cases h2 u <;> cases h3 u <;> rfl
  · exact ((A.wo B).wo C).uniq ((A.wo C).wo B) fun u _ => by cases h1 u <;> cases h2 u <;> cases h3 u <;> rfl
  · exact (A.wo (A.wo B)).uniq (A.both B) fun u _ => by cases h1 u <;> cases h2 u <;> rfl
  · exact (W.wo (W.wo A)).uniq A fun u _ => by cases h1 u <;> rfl
  · rw [(A.wo B).empty, (B.wo A).empty, A.same B]
    constructor
    · rintro ⟨x, y⟩ u hu
      have p := x u hu
      have q := y u hu
      cases e1 : h1 u <;> cases e2 : h2 u <;> simp [e1, e2] at p q ⊢
    · intro x
      exact ⟨fun u hu => by rw [x u hu]; cases h2 u <;> rfl, fun u hu => by rw [x u hu]; cases h2 u <;> rfl⟩
theorem set_has {g1 g2 : Nat} {f1 f2 : Nat → Bool} {s1 s2 : List Sn} (a : Frm g1 f1 s1) (b : Frm g2 f2 s2) {x y : Int} (x0 : 0 ≤ x) (xy : x < y) (gg : Int.gcd x y = 1) :
    (bothS s1 s2).any (hasS x y) = (s1.any (hasS x y) && s2.any (hasS x y)) ∧ (woS s1 s2).any (hasS x y) = (s1.any (hasS x y) && !s2.any (hasS x y)) := by
  obtain ⟨h1, h2, A, B⟩ := frm_two a b
  obtain ⟨u, hu, k⟩ := A.has x0 xy gg
  rw [k A, k B, k (A.both B), k (A.wo B)]
  exact ⟨rfl, rfl⟩
theorem set_len {g : Nat} {f h : Nat → Bool} {s1 s2 : List Sn} (a : Frm g f s1) (b : Frm g h s2) {m1 n1 m2 n2 m n M N : Int} (l1 : IsLow (cnt (fun u => f u && h u) g : Int) (g : Int) m1 n1) (l2 : IsLow (cnt (fun u => f u && !h u) g : Int) (g : Int) m2 n2)
    (l : IsLow (m1 * n2 + m2 * n1) (n1 * n2) m n) (k : IsLow (cnt f g : Int) (g : Int) M N) : m = M ∧ n = N := by
  have g0 := a.1
  have e := cnt_two f h g
  have q := sum_form l1.2.2.1 l2.2.2.1 l1.1 l2.1 l.2.2.1
  have z : IsLow (cnt f g : Int) (g : Int) m n := low_of l.1 l.2.1 (by rw [q, ← e]; push_cast; rfl) (by omega)
  exact low_uniq z k (by omega) (by omega) rfl
theorem set_none {g : Nat} {f : Nat → Bool} {ss : List Sn} (a : Frm g f ss) {m n : Int} (l : IsLow (cnt f g : Int) (g : Int) m n) : (m = 0 ∧ n = 1) ↔ ss = [] := by
  rw [a.empty, ← cnt_none]
  have g0 := a.1
  obtain ⟨n0, gg, e, _⟩ := l
  constructor
  · rintro ⟨rfl, rfl⟩
    omega
  · intro z
    rw [z] at e
    have m0 : m = 0 := by
      rcases Int.mul_eq_zero.mp (show m * (g : Int) = 0 by rw [e]; simp) with w | w
      · exact w
      · omega
    refine ⟨m0, ?_⟩
    subst m0
    rw [Int.zero_gcd] at gg
    omega
theorem Frm.ends {g : Nat} {f : Nat → Bool} {ss : List Sn} (a : Frm g f ss) : ∀ s ∈ ss, 0 ≤ s.x ∧ s.x < s.y := by
  obtain ⟨g0, k⟩ := a
  have hb : ∀ r ∈ (rruns f g).reverse, r.1 < r.2 ∧ r.2 ≤ g := fun r hr => ⟨(rruns_ok f g).pos r (List.mem_reverse.mp hr), (rruns_ok f g).bnd r (List.mem_reverse.mp hr)⟩
  generalize (rruns f g).reverse = ps at k hb
  induction k with
  | nil => intro s hs; cases hs
  | @cons lo hi ps s0 ss h k t ih =>
    intro s hs
    rcases List.mem_cons.mp hs with rfl | hs
    · have q := hb _ List.mem_cons_self
      have q1 : lo < hi := q.1
      have q2 : hi ≤ g := q.2
      have y0 := h.1
      have e := h.2.2.1
      constructor
      · have h1 : 0 ≤ s.x * (g : Int) := by rw [e]; exact Int.mul_nonneg (by omega) (by omega)
        exact Int.nonneg_of_mul_nonneg_left h1 (by omega)
      · have h1 : s.x * (g : Int) < s.y * (g : Int) := by
          rw [e, Int.mul_comm s.y]
          exact Int.mul_lt_mul_of_pos_right (by omega) y0
        exact Int.lt_of_mul_lt_mul_right h1 (by omega)
    · exact ih (fun r hr => hb r (List.mem_cons_of_mem _ hr)) s hs
theorem Frm.gcds {g : Nat} {f : Nat → Bool} {ss : List Sn} (a : Frm g f ss) : ∀ s ∈ ss, 0 < s.y ∧ Int.gcd s.x s.y = 1 := by
  obtain ⟨g0, k⟩ := a
  generalize (rruns f g).reverse = ps at k
  induction k with
  | nil => intro s hs; cases hs
  | @cons lo hi ps s0 ss h k t ih =>
    intro s hs
    rcases List.mem_cons.mp hs with rfl | hs
    · exact ⟨h.1, h.2.1⟩
    · exact ih s hs
/-! ### a set of cuts at an address -/
def SetA (K : PySem.W.Frag) (H : Hp) (l : Addr) (ss : List Sn) (m G : Nat) : Prop := ∃ rs, H l = some (.lst rs) ∧ SnsAt K H rs ss ∧ rs.length ≤ m ∧ ∃ g f, Frm g f ss ∧ g ≤ 2 ^ G
section
variable {K : PySem.W.Frag} {H J : Hp} {a b l D : Addr} {ss ts : List Sn} {m n G G' : Nat} {xs : List V} {σ : L2.St} {te : TE} {g : TG} {vs : List Nat}
theorem SetA.same (s : Same H J) (h : SetA K H l ss m G) : SetA K J l ss m G := by
  obtain ⟨rs, e, t, n, k⟩ := h
  exact ⟨rs, s _ _ e, t.mono fun p xs h => sqt_same s h, n, k⟩
theorem SetA.kp (k : Kp b H J) (gb : Bag b H) (nb : l ≠ b) (h : SetA K H l ss m G) : SetA K J l ss m G := by
  obtain ⟨rs, e, t, n, z⟩ := h
  exact ⟨rs, k _ _ nb e, t.mono fun p xs h => sqt_bag k gb h, n, z⟩
theorem SetA.up (h : SetA K H l ss m G) (a : m ≤ n) (b : G ≤ G') : SetA K H l ss n G' := by
  obtain ⟨rs, e, t, r, g, f, z, w⟩ := h
  exact ⟨rs, e, t, Nat.le_trans r a, g, f, z, Nat.le_trans w (Nat.pow_le_pow_right (by decide) b)⟩
theorem frm_bothB (h : ∃ g f, Frm g f ss ∧ g ≤ 2 ^ G) (k : ∃ g f, Frm g f ts ∧ g ≤ 2 ^ G') : ∃ g f, Frm g f (bothS ss ts) ∧ g ≤ 2 ^ (G + G') := by
  obtain ⟨g1, f1, A, a⟩ := h
  obtain ⟨g2, f2, B, b⟩ := k
  obtain ⟨h1, h2, A', B'⟩ := frm_two A B
  exact ⟨_, _, A'.both B', by rw [Nat.pow_add]; exact Nat.mul_le_mul a b⟩
theorem frm_woB (h : ∃ g f, Frm g f ss ∧ g ≤ 2 ^ G) (k : ∃ g f, Frm g f ts ∧ g ≤ 2 ^ G') : ∃ g f, Frm g f (woS ss ts) ∧ g ≤ 2 ^ (G + G') := by
  obtain ⟨g1, f1, A, a⟩ := h
  obtain ⟨g2, f2, B, b⟩ := k
  obtain ⟨h1, h2, A', B'⟩ := frm_two A B
  exact ⟨_, _, A'.wo B', by rw [Nat.pow_add]; exact Nat.mul_le_mul a b⟩
theorem frm_arcB {x y u v : Int} (x0 : 0 ≤ x) (xy : x < y) (u0 : 0 ≤ u) (uv : u < v) (g : Int.gcd x y = 1) (g' : Int.gcd u v = 1) (by' : Bd 133 y) (bv : Bd 133 v) : ∃ g f, Frm g f (arcD x y u v) ∧ g ≤ 2 ^ 266 := by
  obtain ⟨X, rfl⟩ := Int.eq_ofNat_of_zero_le x0
  obtain ⟨Y, rfl⟩ := Int.eq_ofNat_of_zero_le (show 0 ≤ y by omega)
  obtain ⟨U, rfl⟩ := Int.eq_ofNat_of_zero_le u0
  obtain ⟨W, rfl⟩ := Int.eq_ofNat_of_zero_le (show 0 ≤ v by omega)
  obtain ⟨f, k⟩ := frm_arc (X := X) (Y := Y) (U := U) (V := W) (by omega) (by omega) g g'
  refine ⟨_, f, k, ?_⟩
  unfold Bd at by' bv
  have e : (2 : Nat) ^ 266 = 2 ^ 133 * 2 ^ 133 := by rw [← Nat.pow_add]
  rw [e]
  exact Nat.mul_le_mul (by omega) (by omega)
/-- [f(x) for x in t], t a tuple; f may lay objects -/
theorem lc_growT (P : List V → Hp → Prop) {Qd : Hp → Prop} (hT : ∀ J, Kp D H J → SqT K J a xs) (hl : xs.length ≤ 500) (hD : H D = none) (h0 : ∀ J, Kp D H J → P [] J)
    (he : ∀ (i : Nat) x ys J, xs[i]? = some x → i ≤ 500 → ys.length = i → Kp D H J → J D = some (.lst ys) → P ys J → g x (wipe σ vs) J fun σ2 J2 => wipe σ2 vs = wipe σ vs ∧ te σ2 J2 fun y J3 => LcEnd D H P (i + 1) y J3)
    (hd : ∀ ys J, ys.length = xs.length → Kp D H J → J D = some (.lst ys) → P ys J → Qd J) : Lc (Itt K a) g tYes te vs σ Qd H D := by
  refine lc_tup (xs := xs) (fun i J => ∃ ys, ys.length = i ∧ Kp D H J ∧ J D = some (.lst ys) ∧ P ys J) ⟨[], rfl, Kp.new hD, upd_same, h0 _ (Kp.new hD)⟩ (fun i J _ w => ?_) (fun i x J hx w => ?_) fun J w => ?_
  · obtain ⟨ys, _, k, _⟩ := w
    exact hT J k
  · obtain ⟨ys, e, k, hJ, p⟩ := w
    have lt : i < xs.length := (List.getElem?_eq_some_iff.mp hx).1
    exact he i x ys J hx (by omega) e k hJ p
  · obtain ⟨ys, e, k, hJ, p⟩ := w
    exact hd ys J e k hJ p
/-- what the loop over cuts goes through -/
def CutV (K : PySem.W.Frag) (H : Hp) (v : V) : Prop := ∃ p x y, v = .ref p ∧ Ra K H p x y ∧ 0 ≤ x ∧ x < y
theorem CutV.same (s : Same H J) {v : V} (h : CutV K H v) : CutV K J v := by
  obtain ⟨p, x, y, e, r, z⟩ := h
  exact ⟨p, x, y, e, r.mono fun xs h => sqt_same s h, z⟩
end
end Ob
namespace Ob
open PySem PySem.Spec PyProof.Rows L2
/-! ### zip(list, tuple) -/
def ItzM (K : PySem.W.Frag) (a b : Addr) : It :=
  ⟨fun n H => ∃ (us ws : List V) (u w : V), SqL K H a us ∧ SqT K H b ws ∧ us[n]? = some u ∧ ws[n]? = some w,
    fun n H v J => ∃ T u w, v = .ref T ∧ H T = none ∧ J = upd H T (.tup [u, w]) ∧ (∀ us, SqL K H a us → us[n]? = some u) ∧ ∀ ws, SqT K H b ws → ws[n]? = some w,
    fun n H => ∃ us ws : List V, SqL K H a us ∧ SqT K H b ws ∧ n ≤ us.length ∧ n ≤ ws.length ∧ (n = us.length ∨ n = ws.length)⟩
theorem sep_of {z p q k m a b : Addr} (D : ZipApart z p q k m a b) : ZipSep2 z p q k m [k, a] [m, b] :=
  ⟨D.TIz, D.TOz, D.TITO, D.TIi1, by simp, by simp [D.i1z.symm, D.l1z.symm], by simp [D.TOi1, D.l1TO.symm], D.TIi2, by simp, by simp [D.i2z.symm, D.l2z.symm], by simp [D.TOi2, D.l2TO.symm], by simp [D.i12, D.l2i1.symm], by simp [D.i12.symm, D.l1i2.symm]⟩
abbrev fp5 (z p q k m : Addr) : List Addr := [z, p, q, k, m]
theorem off5 {z p q k m c : Addr} (h : c ∉ fp5 z p q k m) : c ≠ z ∧ c ≠ q ∧ c ≠ k ∧ c ≠ m := by
  simp only [fp5, List.mem_cons, List.not_mem_nil, or_false, not_or] at h
  exact ⟨h.1, h.2.2.1, h.2.2.2.1, h.2.2.2.2⟩
theorem turn_zipM {P : Program} {w : World} {K : PySem.W.Frag} {elts : List Expr} {kk : Nat} {tpos : PySem.Pos} {a b z p q k m : Addr} (D : ZipApart z p q k m a b) :
    Turn P w K (.Tuple elts kk tpos) (ItzM K a b) (fp5 z p q k m) z (fun n h => (IsZip h z p q .none ∧ IsPair h p (.ref k) (.ref m)) ∧ (∃ u v, IsPair h q u v) ∧ h.IsListIter k a n ∧ h.IsTupleIter m b n) where
  mem := by simp [fp5]
  obj := fun n h st c hc => by
    obtain ⟨⟨hz, hp⟩, ⟨u, v, hq⟩, ⟨o1, e1, _, d1⟩, ⟨o2, e2, _, d2⟩⟩ := st
    have hc2 : c = z ∨ c = p ∨ c = q ∨ c = k ∨ c = m := by simpa [fp5] using hc
    rcases hc2 with rfl | rfl | rfl | rfl | rfl
    · exact ⟨_, hz, fun _ r => nomatch r⟩
    · exact ⟨_, hp, fun _ r => nomatch r⟩
    · exact ⟨_, hq, fun _ r => nomatch r⟩
    · exact ⟨o1, e1, fun _ r => by rw [d1] at r; cases r⟩
    · exact ⟨o2, e2, fun _ r => by rw [d2] at r; cases r⟩
  keep := fun n h h' st kp => by
    obtain ⟨⟨hz, hp⟩, ⟨u, v, hq⟩, hk, hm⟩ := st
    have kz := kp z (by simp [fp5])
    have kp' := kp p (by simp [fp5])
    have kq := kp q (by simp [fp5])
    exact ⟨⟨kz _ hz, kp' _ hp⟩, ⟨u, v, kq _ hq⟩, hk.at fun o r => kp k (by simp [fp5]) o r, hm.at fun o r => kp m (by simp [fp5]) o r⟩
  item := by
    intro X eP ew eK hc n pins s σ H E I hf st hg
    subst eP ew eK
    obtain ⟨⟨hz, hp⟩, ⟨u0, v0, hq⟩, hk, hm⟩ := st
    obtain ⟨us, ws, u, w, qa, qb, eu, ew⟩ := hg
    obtain ⟨is1, rv1, p1, _⟩ := I.list qa
    obtain ⟨is2, rv2, p2, _⟩ := I.tuple qb
    obtain ⟨x, hx, rx⟩ := rv1.get eu
    obtain ⟨y, hy, ry⟩ := rv2.get ew
    have hh : X.A.in1.handled = none := I.ok.hd hc
    have D1 := Draws.list (prog := X.prog) (w := X.w) hh k a D.l1i1 is1.toArray
    have D2 := Draws.tuple (prog := X.prog) (w := X.w) hh m b D.l2i2 is2.toArray
    have zl : z < s.heap.objs.size := Heap.lt_size hz
    have n1 : n < is1.toArray.size := by
      have := (List.getElem?_eq_some_iff.mp hx).1
      simpa using this
    have n2 : n < is2.toArray.size := by
      have := (List.getElem?_eq_some_iff.mp hy).1
      simpa using this
    refine wpAny_pyNext_zipD2_item (sep_of D) D1 D2 hz hp hq ⟨hk, p1.isList⟩ ⟨hm, p2⟩ n1 n2 fun x1 x2 h' tk g1 g2 hz' hq' st1 st2 hT hsz kp => ?_
    have ex : x1 = x := by
      have g1' : is1[n]? = some x1 := by simpa using g1
      exact Option.some.inj (g1'.symm.trans hx)
    have ey : x2 = y := by
      have g2' : is2[n]? = some x2 := by simpa using g2
      exact Option.some.inj (g2'.symm.trans hy)
    subst ex ey
    refine ⟨_, rfl, wpAny_letOwnedTupleGo_zip (s := { s with heap := h', toks := tk }) hz' fun g gz sb => ?_⟩
    have hT2 : g.get? s.heap.objs.size = some { cls := .type "tuple", data := .seq #[x1, x2] } := (sb.2 _ (Nat.ne_of_gt zl)).trans hT
    have laid : ObjOk X.prog X.w (upd H s.heap.objs.size (.tup [u, w])) g s.heap.objs.size (.tup [u, w]) :=
      ⟨by show 2 ≤ sizeLine; decide, [x1, x2], .cons rx (.cons ry .nil), ⟨_, hT2, rfl, _, rfl⟩⟩
    have I2 : Inv X pins σ (upd H s.heap.objs.size (.tup [u, w])) { s with heap := g, toks := tk } :=
      I.turnedNew (t' := tk) (ch := fp5 z p q k m) (fun c o hb r => (sb.2 c (off5 hb).1).trans (kp c o (off5 hb).1 (off5 hb).2.1 (off5 hb).2.2.1 (off5 hb).2.2.2 r)) hf (Nat.le_refl _) laid
    refine ⟨.ref s.heap.objs.size, _, I2, rfl, ⟨_, u, w, rfl, I.hok.fresh (Nat.le_refl _), rfl, fun l hl => by rw [I.list_inj hl qa]; exact eu, fun l hl => by rw [I.tuple_inj hl qb]; exact ew⟩, ⟨⟨gz, ?_⟩, ⟨x1, x2, ?_⟩, ?_, ?_⟩, fun c hcm => ?_⟩
    · exact (sb.2 _ D.TIz).trans (kp _ _ D.TIz D.TITO D.TIi1 D.TIi2 hp)
    · exact (sb.2 _ D.TOz).trans hq'
    · exact st1.1.at fun o r => (sb.2 _ D.i1z).trans r
    · exact st2.1.at fun o r => (sb.2 _ D.i2z).trans r
    · obtain ⟨o, eo⟩ : ∃ o, s.heap.get? c = some o := by
        have hc2 : c = z ∨ c = p ∨ c = q ∨ c = k ∨ c = m := by simpa [fp5] using hcm
        rcases hc2 with rfl | rfl | rfl | rfl | rfl
        · exact ⟨_, hz⟩
        · exact ⟨_, hp⟩
        · exact ⟨_, hq⟩
        · obtain ⟨o, e, _⟩ := hk
          exact ⟨o, e⟩
        · obtain ⟨o, e, _⟩ := hm
          exact ⟨o, e⟩
      rw [upd_ne (Nat.ne_of_lt (Heap.lt_size eo))]
      exact (hf c hcm).1
  done := by
    intro X eP ew eK hc n pins s σ H E I hf st hg
    subst eP ew eK
    obtain ⟨⟨hz, hp⟩, ⟨u0, v0, hq⟩, hk, hm⟩ := st
    obtain ⟨us, ws, qa, qb, le1, le2, hend⟩ := hg
    obtain ⟨is1, rv1, p1, _⟩ := I.list qa
    obtain ⟨is2, rv2, p2, _⟩ := I.tuple qb
    have hh : X.A.in1.handled = none := I.ok.hd hc
    have D1 := Draws.list (prog := X.prog) (w := X.w) hh k a D.l1i1 is1.toArray
    have D2 := Draws.tuple (prog := X.prog) (w := X.w) hh m b D.l2i2 is2.toArray
    have s1 : is1.toArray.size = us.length := by
      have := rv1.length
      simp
      omega
    have s2 : is2.toArray.size = ws.length := by
      have := rv2.length
      simp
      omega
    exact wpAny_pyNext_zipD2_end (sep_of D) D1 D2 hz hp hq ⟨hk, p1.isList⟩ ⟨hm, p2⟩ (by omega) (by omega) (by omega) fun h' tk kp => ⟨rfl, I.turnedL (t' := tk) (ch := fp5 z p q k m) (fun c o hb r => kp c o (off5 hb).1 (off5 hb).2.1 (off5 hb).2.2.1 (off5 hb).2.2.2 r) hf⟩
  self := fun A n s Q E st h => wpAny_pyIter_zip st.1.1 h
def iZipM (K : PySem.W.Frag) (ta : TA) : TI := fun σ H R => ta σ H fun vs J => ∃ a b us ws, vs = [.ref a, .ref b] ∧ (SqL K J a us ∧ SqT K J b ws) ∧ R (ItzM K a b) J
theorem pi_zipM {X : Cx} {e1 e2 : Expr} {ta : TA} {ps qs ts : PySem.Pos} {elts : List Expr} {kk : Nat} (gl : Gl X "zip") (hm : X.mg "zip" = none) (ha : PA X [e1, e2] ta)
    (hse : starEach [e1, e2] X.env = (false, eval e1 X.env) :: starEach [e2] X.env := by rfl) (hpn : (backTo qs (starEach [e2] X.env)).any (·.1) = false := by rfl) :
    PI X (.Tuple elts kk ts) (.Call (.Name "zip" ps) [e1, e2] [] qs) (iZipM X.K ta) := by
  refine ⟨fun pins s σ H R I h => Call_ (ld_blt I gl hm PyProof.Rows.boot_zip (PyProof.Rows.callWith_type1 (thn (ha.run qs pins s σ H _ I h) fun us s1 w => ?_) hse hpn))⟩
  obtain ⟨vs, J, I1, rv, a, b, xs, ys, rfl, ⟨qa, qb⟩, q⟩ := w
  obtain ⟨u, us, rfl⟩ : ∃ u t, us = u :: t := by
    cases rv
    exact ⟨_, _, rfl⟩
  cases rv with
  | cons ra rv =>
  obtain ⟨w2, us, rfl⟩ : ∃ u t, us = u :: t := by
    cases rv
    exact ⟨_, _, rfl⟩
  cases rv with
  | cons rb rv =>
  cases rv
  cases ra
  cases rb
  obtain ⟨is1, rv1, p1, _⟩ := I1.list qa
  obtain ⟨is2, rv2, p2, _⟩ := I1.tuple qb
  obtain ⟨o2, ho2, _⟩ := id p2
  refine zip_begins2 (begins_list a is1.toArray) (begins_tuple b is2.toArray) p1.isList p2 fun h' hz hp hq g1 g2 hsz kp => wpAny_pyIter_zip hz ?_
  have D := PySem.W.ktu_apart s1.heap.objs.size a b p1.lt (Heap.lt_size ho2)
  refine ⟨s1.heap.objs.size + 4, fp5 (s1.heap.objs.size + 4) (s1.heap.objs.size + 2) (s1.heap.objs.size + 3) s1.heap.objs.size (s1.heap.objs.size + 1), _, _, J, rfl, I1.kept (t' := s1.toks) kp, turn_zipM D, ⟨⟨hz, hp⟩, ⟨_, _, hq⟩, ⟨_, g1, rfl, rfl⟩, ⟨_, g2, rfl, rfl⟩⟩, fun c hcm => ?_, q⟩
  have le : s1.heap.objs.size ≤ c := by
    simp only [fp5, List.mem_cons, List.not_mem_nil, or_false] at hcm
    rcases hcm with rfl | rfl | rfl | rfl | rfl
    · exact Nat.le_add_right _ _
    · exact Nat.le_add_right _ _
    · exact Nat.le_add_right _ _
    · exact Nat.le_refl _
    · exact Nat.le_add_right _ _
  exact I1.fpOk le (I1.hok.fresh le)
theorem piZM {X : Cx} {K : PySem.W.Frag} (h : X.K = K) {e1 e2 : Expr} {ta : TA} {ps qs ts : PySem.Pos} {elts : List Expr} {kk : Nat} (gl : Gl X "zip") (hm : X.mg "zip" = none) (ha : PA X [e1, e2] ta)
    (hse : starEach [e1, e2] X.env = (false, eval e1 X.env) :: starEach [e2] X.env := by rfl) (hpn : (backTo qs (starEach [e2] X.env)).any (·.1) = false := by rfl) :
    PI X (.Tuple elts kk ts) (.Call (.Name "zip" ps) [e1, e2] [] qs) (iZipM K ta) := h ▸ pi_zipM gl hm ha hse hpn
end Ob
namespace Ob
open PySem PySem.Spec PyProof.Rows L2
/-! ### repr of data with texts -/
mutual
def szT : PyData → Nat
  | .none => 4
  | .bool _ => 5
  | .int i => i.natAbs.log2 + 2
  | .str x => (reprText x).length
  | .list xs => szsT xs + 2
  | .tuple xs => szsT xs + 2
  | .dict _ => 0
def szsT : List PyData → Nat
  | [] => 0
  | x :: xs => szT x + 2 + szsT xs
end
mutual
def smT : PyData → Bool
  | .none => true
  | .bool _ => true
  | .int i => decide (i.natAbs.log2 < 1900)
  | .str _ => true
  | .list xs => smsT xs
  | .tuple xs => smsT xs
  | .dict _ => false
def smsT : List PyData → Bool
  | [] => true
  | x :: xs => smT x && smsT xs
end
mutual
theorem shownT_le : ∀ d : PyData, smT d = true → d.shown.length ≤ szT d ∧ d.showable = true ∧ d.hasDict = false
  | .none, _ => ⟨by decide +kernel, by simp [PyData.showable], by simp [PyData.hasDict]⟩
  | .bool b, _ => ⟨by cases b <;> decide +kernel, by simp [PyData.showable], by simp [PyData.hasDict]⟩
  | .int i, h => by
    have h1 : i.natAbs.log2 < 1900 := by simpa [smT] using h
    refine ⟨?_, by simp [PyData.showable]; omega, by simp [PyData.hasDict]⟩
    have e := int_text_length_le (a := i) (k := i.natAbs.log2 + 1) (by omega) (by omega)
    have e3 : (PyData.int i).shown = Str.ofString (toString i) := by simp only [PyData.shown]
    rw [e3, PySem.ofString_length, szT]
    omega
  | .str x, _ => ⟨by simp [PyData.shown, szT], by simp [PyData.showable], by simp [PyData.hasDict]⟩
  | .dict _, h => by simp [smT] at h
  | .list xs, h => by
    have q := shownsT_le xs (by simpa [smT] using h)
    refine ⟨?_, by simp [PyData.showable, q.2.1], by simp [PyData.hasDict, q.2.2]⟩
    have e := list_le (PyData.shownAll xs)
    simp only [PyData.shown, szT]
    omega
  | .tuple xs, h => by
    have q := shownsT_le xs (by simpa [smT] using h)
    refine ⟨?_, by simp [PyData.showable, q.2.1], by simp [PyData.hasDict, q.2.2]⟩
    have e := fmt_text (PyData.shownAll xs)
    simp only [PyData.shown, szT]
    omega
theorem shownsT_le : ∀ xs : List PyData, smsT xs = true → piled (PyData.shownAll xs) ≤ szsT xs ∧ PyData.showableAll xs = true ∧ PyData.hasDictAll xs = false
  | [], _ => ⟨Nat.zero_le _, by simp [PyData.showableAll], by simp [PyData.hasDictAll]⟩
  | x :: xs, h => by
    have h2 : smT x = true ∧ smsT xs = true := by simpa [smsT] using h
    have p := shownT_le x h2.1
    have q := shownsT_le xs h2.2
    refine ⟨?_, by simp [PyData.showableAll, p.2.1, q.2.1], by simp [PyData.hasDictAll, p.2.2, q.2.2]⟩
    have e : PyData.shownAll (x :: xs) = x.shown :: PyData.shownAll xs := by simp only [PyData.shownAll]
    rw [e, piled_cons, szsT]
    omega
end
/-- repr of an int, None, a truth value, or data at an address -/
def rReprT (K : PySem.W.Frag) : List V → Hp → VK → Prop := fun xs H Q => (∃ i : Int, xs = [.int i] ∧ i.natAbs.log2 < 1920 ∧ Q (.str (toString i)) H) ∨ (xs = [.non] ∧ Q (.str "None") H) ∨
  ∃ (a : Addr) (d : PyData), xs = [.ref a] ∧ Dp K H (.ref a) d ∧ smT d = true ∧ szT d ≤ 1000000 ∧ d.depth ≤ 50 ∧ Q (.str d.shown) H
section
variable {X : Cx} {K : PySem.W.Frag}
theorem cr_reprT (hg : X.A.guards = some []) (hu : X.A.units + 64 < cLine) : CallR X (.builtin "repr") (rReprT X.K) := by
  intro pins s σ H xs us Q I r h
  rcases h with h | ⟨rfl, q⟩ | ⟨a, d, rfl, hd, hs, hz, hp, q⟩
  · exact SkE.call_repr_int pins s σ H xs us Q I r h
  · obtain ⟨u, rfl, t⟩ := vals1 r
    cases t
    exact PySem.P.repr_of_none ⟨.str _, H, I.tok _, ⟨_, rfl⟩, q⟩
  · obtain ⟨u, rfl, ru⟩ := vals1 r
    cases ru
    obtain ⟨as, rd⟩ := Dp.reads I d _ _ hd rfl
    obtain ⟨h1, h2, h3⟩ := shownT_le d hs
    exact repr_of_reads' rd h2 (PyData.noDict_hsm h3) hg (by omega) (fun _ _ e => e) (fun h' u tk k => ⟨.str _, H, I.kept k, ⟨_, rfl⟩, q⟩) (Nat.le_trans h1 (Nat.le_trans hz (by decide)))
theorem reprT (h : X.K = K) (hg : X.A.guards = some []) (hu : X.A.units + 64 < cLine) : CallR X (.builtin "repr") (rReprT K) := h ▸ cr_reprT hg hu
theorem rd_reprTD {H : Hp} {Q : VK} {a : Addr} {d : PyData} (h : Dp K H (.ref a) d) (h1 : smT d = true) (h2 : szT d ≤ 1000000) (h3 : d.depth ≤ 50) (q : Q (.str d.shown) H) : rReprT K [.ref a] H Q := .inr (.inr ⟨a, d, rfl, h, h1, h2, h3, q⟩)
theorem rd_reprTI {H : Hp} {Q : VK} {i : Int} {n : Nat} (b : Bd n i) (q : Q (.str (toString i)) H) (h0 : 0 < n := by decide) (h1 : n ≤ 1900 := by decide) : rReprT K [.int i] H Q := .inl ⟨i, rfl, by have := b.log h0; omega, q⟩
theorem rd_reprTN {H : Hp} {Q : VK} (q : Q (.str "None") H) : rReprT K [.non] H Q := .inr (.inl ⟨rfl, q⟩)
/-! ### divmod, tuple(x), what is never reached -/
def rDm : List V → Hp → VK → Prop := fun xs H Q => ∃ i j : Int, xs = [.int i, .int j] ∧ 0 < j ∧ j.natAbs < 2 ^ 9000 ∧ kT Q [.int (i / j), .int (i % j)] H
theorem cr_dm : CallR X (.builtin "divmod") rDm := by
  intro pins s σ H xs us Q I r h
  obtain ⟨i, j, e, j0, jb, _, q⟩ := h
  exact call_divmodW pins s σ H xs us Q I r ⟨i, j, e, ⟨j0, PyProof.noPylong_of_log2 (PySem.Flt.log2_lt_of (by decide) jb)⟩, q⟩
theorem rd_dm {H : Hp} {Q : VK} {i j : Int} (j0 : 0 < j) (jb : j.natAbs < 2 ^ 9000) (q : ∀ p J, H p = none → Same H J → J p = some (.tup [.int (i / j), .int (i % j)]) → Q (.ref p) J) : rDm [.int i, .int j] H Q := ⟨i, j, rfl, j0, jb, rd_kT rfl q⟩
def rTupL (K : PySem.W.Frag) : List V → Hp → VK → Prop := fun xs H Q => ∃ p ys, xs = [.ref p] ∧ ((SqL K H p ys ∧ ∀ l, H l = none → Q (.ref l) (upd H l (.tup ys))) ∨ (SqT K H p ys ∧ Q (.ref p) H))
theorem tupK (h : X.K = K) : CallR X (.type "tuple") (rTupL K) := h ▸ call_tuple_of
theorem rd_tupL {H : Hp} {Q : VK} {p : Addr} {ys : List V} (h : SqL K H p ys) (q : ∀ l J, H l = none → Same H J → J l = some (.tup ys) → Q (.ref l) J) : rTupL K [.ref p] H Q := ⟨p, ys, rfl, .inl ⟨h, fun l nl => q l _ nl (same_new nl) upd_same⟩⟩
theorem ps_dead {st : Stmt} : PS X st (fun _ _ _ => False) := ⟨fun _ _ _ _ _ _ h => h.elim⟩
end
section
variable {K : PySem.W.Frag} {H : Hp} {σ : L2.St} {a : Addr} {xs : List V} {g : TG}
theorem rd_forT {tl : TE} {tb : TS} {E : Ends} (q : tl σ H fun x H1 => ∃ a, x = .ref a ∧ (∃ xs, SqT K H1 a xs) ∧ Lp (Itt K a) g tb E σ H1) : tFor (iTup K tl) g tb E σ H := q
theorem lp_tup {tb : TS} {E : Ends} (Pv : Nat → L2.St → Hp → Prop) (h0 : Pv 0 σ H) (hl : ∀ i σ H, i ≤ xs.length → Pv i σ H → SqT K H a xs)
    (hs : ∀ i x σ H, xs[i]? = some x → Pv i σ H → g x σ H fun σ2 H2 => tb { E with nx := Pv (i + 1), ct := Pv (i + 1), bk := E.nx } σ2 H2) (hd : ∀ σ H, Pv xs.length σ H → E.nx σ H) : Lp (Itt K a) g tb E σ H := for_tup Pv h0 hl hs hd
theorem rd_iZM {ta : TA} {R : It → Hp → Prop} (q : ta σ H fun vs J => ∃ a b us ws, vs = [.ref a, .ref b] ∧ (SqL K J a us ∧ SqT K J b ws) ∧ R (ItzM K a b) J) : iZipM K ta σ H R := q
/-- over zip(list, tuple) of one length -/
theorem lc_zipM {te : TE} {vs : List Nat} {b D : Addr} {ys : List V} (P : List V → Hp → Prop) {Qd : Hp → Prop} (ha : H a = some (.lst xs)) (hb : H b = some (.tup ys)) (hxy : xs.length = ys.length) (hl : xs.length ≤ 500) (hD : H D = none) (h0 : ∀ J, Kp D H J → P [] J)
    (hP : ∀ zs J J', Same J J' → P zs J → P zs J')
    (he : ∀ (i : Nat) x y zs J T, xs[i]? = some x → ys[i]? = some y → i ≤ 500 → zs.length = i → Kp D H J → J D = some (.lst zs) → P zs J → J T = some (.tup [x, y]) → g (.ref T) (wipe σ vs) J fun σ2 J2 => wipe σ2 vs = wipe σ vs ∧ te σ2 J2 fun y J3 => LcEnd D H P (i + 1) y J3)
    (hd : ∀ zs J, zs.length = xs.length → Kp D H J → J D = some (.lst zs) → P zs J → Qd J) : Lc (ItzM K a b) g tYes te vs σ Qd H D := by
  have na : a ≠ D := ne_of_none ha hD
  have nb : b ≠ D := ne_of_none hb hD
  let W : Nat → Hp → Prop := fun i J => ∃ zs, zs.length = i ∧ Kp D H J ∧ J D = some (.lst zs) ∧ P zs J
  refine ⟨fun i m J => m = xs.length - i ∧ i ≤ xs.length ∧ W i J, ⟨_, rfl, Nat.zero_le _, [], rfl, Kp.new hD, upd_same, h0 _ (Kp.new hD)⟩, ?_⟩
  rintro i m J ⟨rfl, le, zs, e, k, hJ, p⟩
  have qa : SqL K J a xs := SqL.of (k a _ na ha)
  have qb : SqT K J b ys := SqT.of (k b _ nb hb)
  by_cases lt : i < xs.length
  · have hx : xs[i]? = some xs[i] := List.getElem?_eq_getElem lt
    have hy : ys[i]? = some ys[i] := List.getElem?_eq_getElem (by omega)
    refine .inr ⟨⟨xs, ys, _, _, qa, qb, hx, hy⟩, W (i + 1), fun J' w => ⟨xs.length - (i + 1), by omega, rfl, by omega, w⟩, fun v J' y => ?_⟩
    obtain ⟨T, x', y', rfl, nT, rfl, fx, fy⟩ := y
    have kT : Kp D H (upd J T (.tup [x', y'])) := k.trans (Kp.new nT)
    exact he i x' y' zs _ T (fx xs qa) (fy ys qb) (by omega) e kT (new_any nT hJ) (hP _ _ _ (same_new nT) p) upd_same
  · have ei : i = xs.length := by omega
    exact .inl ⟨⟨xs, ys, qa, qb, by omega, by omega, .inl ei⟩, hd zs J (by omega) k hJ p⟩
end
end Ob
namespace Ob
open PySem PySem.Spec PyProof.Rows L2
/-! ### entries: what they give, over a grain -/
structure Ent where
  first : Nat
  many : Nat
  am : List (Int × Int)
/-- the units of an amount -/
def unit (G : Nat) (r : Int × Int) : Int := r.1 * (G : Int) / r.2
def uts (G : Nat) (e : Ent) : List Int := e.am.map (unit G)
def Fits (G : Nat) (am : List (Int × Int)) : Prop := ∀ r ∈ am, 0 < r.2 ∧ r.2 ∣ (G : Int)
theorem unit_eq {G : Nat} {r : Int × Int} (h : r.2 ∣ (G : Int)) : unit G r * r.2 = r.1 * (G : Int) := Int.ediv_mul_cancel (Int.dvd_mul_of_dvd_right h)
/-- the sum of the first n of a pattern that goes on and on -/
def rnd (us : List Int) (n : Nat) : Int := ((n / us.length : Nat) : Int) * us.sum + (us.take (n % us.length)).sum
theorem take_succ_sum (us : List Int) (i : Nat) : (us.take (i + 1)).sum = (us.take i).sum + us.getD i 0 := by
  rw [List.take_add_one, List.sum_append]
  cases e : us[i]? with
  | none => simp [List.getD, e]
  | some x => simp [List.getD, e]
theorem rnd_succ {us : List Int} (h : us ≠ []) (n : Nat) : rnd us (n + 1) = rnd us n + us.getD (n % us.length) 0 := by
  have L0 : 0 < us.length := List.length_pos_iff.mpr h
  have hr := Nat.mod_lt n L0
  have hd := Nat.div_add_mod n us.length
  unfold rnd
  by_cases c : n % us.length + 1 < us.length
  · have e1 : (n + 1) % us.length = n % us.length + 1 := by
      rw [Nat.add_mod, Nat.mod_eq_of_lt (show 1 < us.length by omega), Nat.mod_eq_of_lt c]
    have e2 : (n + 1) / us.length = n / us.length := by
      rw [Nat.div_eq_iff L0]
      rw [Nat.mul_comm] at hd
      constructor <;> omega
    rw [e1, e2, take_succ_sum]
    omega
  · have el : n % us.length + 1 = us.length := by omega
    have en : n + 1 = (n / us.length + 1) * us.length := by
      rw [Nat.add_mul, Nat.one_mul, Nat.mul_comm]
      omega
    have e1 : (n + 1) % us.length = 0 := by rw [en, Nat.mul_mod_left]
    have e2 : (n + 1) / us.length = n / us.length + 1 := by rw [en, Nat.mul_div_cancel _ L0]
    have es : us.sum = (us.take (n % us.length)).sum + us.getD (n % us.length) 0 := by
      rw [← take_succ_sum, el, List.take_length]
    rw [e1, e2, List.take_zero]
    push_cast
    rw [Int.add_mul, Int.one_mul, es]
    simp
    omega
theorem rnd_zero (us : List Int) : rnd us 0 = 0 := by simp [rnd]
def bE (G : Nat) (e : Ent) (d : Nat) : Int := rnd (uts G e) (min (d - e.first) e.many)
def uE (G : Nat) (e : Ent) (d : Nat) : Int := if e.first ≤ d ∧ d < e.first + e.many then (uts G e).getD ((d - e.first) % e.am.length) 0 else 0
theorem uts_len (G : Nat) (e : Ent) : (uts G e).length = e.am.length := List.length_map ..
theorem bE_succ {G : Nat} {e : Ent} (h : e.am ≠ []) (d : Nat) : bE G e (d + 1) = bE G e d + uE G e d := by
  have h2 : uts G e ≠ [] := by
    unfold uts
    simpa using h
  unfold bE uE
  by_cases c : e.first ≤ d ∧ d < e.first + e.many
  · rw [if_pos c, show min (d + 1 - e.first) e.many = min (d - e.first) e.many + 1 by omega, rnd_succ h2, uts_len, show min (d - e.first) e.many = d - e.first by omega]
  · rw [if_neg c, show min (d + 1 - e.first) e.many = min (d - e.first) e.many by omega, Int.add_zero]
def bS (G : Nat) (es : List Ent) (d : Nat) : Int := (es.map fun e => bE G e d).sum
def uS (G : Nat) (es : List Ent) (d : Nat) : Int := (es.map fun e => uE G e d).sum
theorem bS_succ {G : Nat} : ∀ {es : List Ent}, (∀ e ∈ es, e.am ≠ []) → ∀ d, bS G es (d + 1) = bS G es d + uS G es d
  | [], _, d => by simp [bS, uS]
  | e :: es, h, d => by
    have ih := bS_succ (G := G) (es := es) (fun x hx => h x (List.mem_cons_of_mem _ hx)) d
    have h1 := bE_succ (G := G) (h e List.mem_cons_self) d
    unfold bS uS at ih ⊢
    rw [List.map_cons, List.map_cons, List.map_cons, List.sum_cons, List.sum_cons, List.sum_cons, ih, h1]
    omega
theorem bS_zero (G : Nat) : ∀ es : List Ent, bS G es 0 = 0
  | [] => by simp [bS]
  | e :: es => by
    have ih := bS_zero G es
    unfold bS at ih ⊢
    rw [List.map_cons, List.sum_cons, ih]
    simp [bE, rnd_zero]
theorem uS_far {G : Nat} : ∀ {es : List Ent} {d : Nat}, (∀ e ∈ es, e.first + e.many ≤ d) → uS G es d = 0
  | [], _, _ => by simp [uS]
  | e :: es, d, h => by
    have ih := uS_far (G := G) (es := es) (d := d) fun x hx => h x (List.mem_cons_of_mem _ hx)
    have h1 := h e List.mem_cons_self
    unfold uS at ih ⊢
    rw [List.map_cons, List.sum_cons, ih, uE, if_neg (by omega)]
    rfl
/-! what often each amount comes -/
def dotF (f : Nat → Int) : List Int → Int
  | [] => 0
  | u :: us => u * f 0 + dotF (fun i => f (i + 1)) us
theorem dotF_const (q : Int) : ∀ us : List Int, dotF (fun _ => q) us = q * us.sum
  | [] => by simp [dotF]
  | u :: us => by rw [dotF, dotF_const q us, List.sum_cons, Int.mul_add, Int.mul_comm u q]
theorem dotF_times (q : Int) : ∀ (us : List Int) (r : Nat), dotF (fun i => if i < r then q + 1 else q) us = q * us.sum + (us.take r).sum
  | [], r => by simp [dotF]
  | u :: us, 0 => by
    have e : (fun i : Nat => if i < 0 then q + 1 else q) = fun _ => q := funext fun i => if_neg (by omega)
    rw [e, dotF_const]
    simp
  | u :: us, r + 1 => by
    have e : (fun i : Nat => if i + 1 < r + 1 then q + 1 else q) = fun i => if i < r then q + 1 else q := funext fun i => by
      by_cases c : i < r
      · rw [if_pos c, if_pos (by omega)]
      · rw [if_neg c, if_neg (by omega)]
    rw [dotF, if_pos (by omega), e, dotF_times q us r, List.sum_cons, List.take_succ_cons, List.sum_cons, Int.mul_add, Int.mul_add]
    rw [Int.mul_comm u q]
    omega
def dots (f : Nat → Int) (us : List Int) : List Int := (List.range us.length).map fun i => us.getD i 0 * f i
theorem dots_sum : ∀ (f : Nat → Int) (us : List Int), (dots f us).sum = dotF f us
  | f, [] => by simp [dots, dotF]
  | f, u :: us => by
    have ih := dots_sum (fun i => f (i + 1)) us
    unfold dots at ih ⊢
    rw [List.length_cons, List.range_succ_eq_map, List.map_cons, List.map_map, List.sum_cons, dotF, ← ih]
    congr 1
theorem dots_len (f : Nat → Int) (us : List Int) : (dots f us).length = us.length := by simp [dots]
theorem dots_get {f : Nat → Int} {us : List Int} {i : Nat} {u : Int} (h : us[i]? = some u) : (dots f us)[i]? = some (u * f i) := by
  have lt := (List.getElem?_eq_some_iff.mp h).1
  unfold dots
  rw [List.getElem?_map, List.getElem?_range lt]
  simp [List.getD, h]
/-! bounds -/
theorem bd_sum {n : Nat} : ∀ {us : List Int}, (∀ u ∈ us, Bd n u) → us.sum.natAbs ≤ us.length * 2 ^ n
  | [], _ => by simp
  | u :: us, h => by
    have ih := bd_sum (us := us) fun x hx => h x (List.mem_cons_of_mem _ hx)
    have h1 := h u List.mem_cons_self
    unfold Bd at h1
    rw [List.sum_cons, List.length_cons, Nat.succ_mul]
    have := Int.natAbs_add_le u us.sum
    omega
theorem bd_sums {n m : Nat} {us : List Int} (h : ∀ u ∈ us, Bd n u) (l : us.length < 2 ^ m) : Bd (m + n) us.sum := by
  have := bd_sum h
  unfold Bd
  rw [Nat.pow_add]
  exact Nat.lt_of_le_of_lt this (Nat.mul_lt_mul_of_pos_right l (Nat.pow_pos (by decide)))
theorem natAbs_ediv_le (u : Int) {v : Int} (h : 0 < v) : (u / v).natAbs ≤ u.natAbs := by
  have := natAbs_fdiv_le u h
  rwa [Int.fdiv_eq_ediv_of_nonneg u (by omega)] at this
theorem unit_bd {G n m : Nat} {r : Int × Int} (h : 0 < r.2) (a : Bd n r.1) (g : G < 2 ^ m) : Bd (n + m) (unit G r) := by
  have h1 : Bd (n + m) (r.1 * (G : Int)) := a.mul (by unfold Bd; omega)
  exact h1.le (natAbs_ediv_le _ h)
/-! ### entries at addresses -/
inductive AmsAt (H : Hp) : List V → List (Int × Int) → Prop
  | nil : AmsAt H [] []
  | cons {p : Addr} {rs : List V} {x y : Int} {l : List (Int × Int)} (h : H p = some (.tup [.int x, .int y])) (y0 : 0 < y) (g : Int.gcd x y = 1) (bx : Bd 20 x) (bu : Bd 20 y) (t : AmsAt H rs l) : AmsAt H (.ref p :: rs) ((x, y) :: l)
def EntAt (H : Hp) (v : V) (e : Ent) : Prop := ∃ p a rs, v = .ref p ∧ H p = some (.tup [.str "entry", .int (e.first : Int), .int (e.many : Int), .ref a]) ∧ H a = some (.tup rs) ∧ AmsAt H rs e.am ∧ e.am ≠ [] ∧ e.am.length ≤ 4 ∧ e.first + e.many ≤ 10 ^ 30 ∧ 1 ≤ e.many
inductive EntsAt (H : Hp) : List V → List Ent → Prop
  | nil : EntsAt H [] []
  | cons {v : V} {vs : List V} {e : Ent} {es : List Ent} (h : EntAt H v e) (t : EntsAt H vs es) : EntsAt H (v :: vs) (e :: es)
section
variable {K : PySem.W.Frag} {H J : Hp}
theorem AmsAt.mono (m : ∀ p xs, H p = some (.tup xs) → J p = some (.tup xs)) : ∀ {rs : List V} {l : List (Int × Int)}, AmsAt H rs l → AmsAt J rs l
  | _, _, .nil => .nil
  | _, _, .cons h a b c d t => .cons (m _ _ h) a b c d (t.mono m)
theorem AmsAt.len : ∀ {rs : List V} {l : List (Int × Int)}, AmsAt H rs l → rs.length = l.length
  | _, _, .nil => rfl
  | _, _, .cons _ _ _ _ _ t => by rw [List.length_cons, List.length_cons, t.len]
theorem AmsAt.get : ∀ {rs : List V} {l : List (Int × Int)}, AmsAt H rs l → ∀ {i : Nat} {v : V}, rs[i]? = some v → ∃ p x y, v = .ref p ∧ l[i]? = some (x, y) ∧ H p = some (.tup [.int x, .int y]) ∧ 0 < y ∧ Int.gcd x y = 1 ∧ Bd 20 x ∧ Bd 20 y
  | _, _, .nil, i, v, e => by simp at e
  | _, _, .cons h a b c d t, 0, v, e => by
    simp at e
    exact ⟨_, _, _, e.symm, rfl, h, a, b, c, d⟩
  | _, _, .cons h a b c d t, i + 1, v, e => by
    simp at e
    obtain ⟨p, x, y, e1, e2, e3⟩ := t.get e
    exact ⟨p, x, y, e1, by simpa using e2, e3⟩
theorem AmsAt.snoc {p : Addr} {x y : Int} (h : H p = some (.tup [.int x, .int y])) (y0 : 0 < y) (g : Int.gcd x y = 1) (bx : Bd 20 x) (bu : Bd 20 y) : ∀ {rs : List V} {l : List (Int × Int)}, AmsAt H rs l → AmsAt H (rs ++ [.ref p]) (l ++ [(x, y)])
  | _, _, .nil => .cons h y0 g bx bu .nil
  | _, _, .cons a b c d e t => .cons a b c d e (t.snoc h y0 g bx bu)
theorem AmsAt.bds : ∀ {rs : List V} {l : List (Int × Int)}, AmsAt H rs l → ∀ r ∈ l, 0 < r.2 ∧ Int.gcd r.1 r.2 = 1 ∧ Bd 20 r.1 ∧ Bd 20 r.2
  | _, _, .nil => fun r hr => by cases hr
  | _, _, .cons _ a b c d t => fun r hr => by
    rcases List.mem_cons.mp hr with rfl | hr
    · exact ⟨a, b, c, d⟩
    · exact t.bds r hr
theorem AmsAt.dp : ∀ {rs : List V} {l : List (Int × Int)}, AmsAt H rs l → DpAll K H rs (l.map ratD)
  | _, _, .nil => .nil
  | _, _, .cons h _ _ _ _ t => .cons (.tup (SqT.of h) (.cons (.int _) (.cons (.int _) .nil))) t.dp
theorem EntAt.mono (m : ∀ p xs, H p = some (.tup xs) → J p = some (.tup xs)) {v : V} {e : Ent} (h : EntAt H v e) : EntAt J v e := by
  obtain ⟨p, a, rs, e1, h1, h2, h3, r⟩ := h
  exact ⟨p, a, rs, e1, m _ _ h1, m _ _ h2, h3.mono m, r⟩
theorem EntsAt.mono (m : ∀ p xs, H p = some (.tup xs) → J p = some (.tup xs)) : ∀ {vs : List V} {es : List Ent}, EntsAt H vs es → EntsAt J vs es
  | _, _, .nil => .nil
  | _, _, .cons h t => .cons (h.mono m) (t.mono m)
theorem EntsAt.len : ∀ {vs : List V} {es : List Ent}, EntsAt H vs es → vs.length = es.length
  | _, _, .nil => rfl
  | _, _, .cons _ t => by rw [List.length_cons, List.length_cons, t.len]
theorem EntsAt.get : ∀ {vs : List V} {es : List Ent}, EntsAt H vs es → ∀ {i : Nat} {v : V}, vs[i]? = some v → ∃ e, es[i]? = some e ∧ EntAt H v e
  | _, _, .nil, i, v, e => by simp at e
  | _, _, .cons h t, 0, v, e => by
    simp at e
    subst e
    exact ⟨_, rfl, h⟩
  | _, _, .cons h t, i + 1, v, e => by
    simp at e
    obtain ⟨x, e1, e2⟩ := t.get e
    exact ⟨x, by simpa using e1, e2⟩
theorem EntsAt.snoc {v : V} {e : Ent} (h : EntAt H v e) : ∀ {vs : List V} {es : List Ent}, EntsAt H vs es → EntsAt H (vs ++ [v]) (es ++ [e])
  | _, _, .nil => .cons h .nil
  | _, _, .cons a t => .cons a (t.snoc h)
theorem EntsAt.all : ∀ {vs : List V} {es : List Ent}, EntsAt H vs es → ∀ e ∈ es, e.am ≠ [] ∧ e.am.length ≤ 4 ∧ e.first + e.many ≤ 10 ^ 30 ∧ 1 ≤ e.many ∧ ∀ r ∈ e.am, 0 < r.2 ∧ Int.gcd r.1 r.2 = 1 ∧ Bd 20 r.1 ∧ Bd 20 r.2
  | _, _, .nil => fun e he => by cases he
  | _, _, .cons h t => fun e he => by
    rcases List.mem_cons.mp he with rfl | he
    · obtain ⟨p, a, rs, _, _, _, am, h1, h2, h3, h4⟩ := h
      exact ⟨h1, h2, h3, h4, am.bds⟩
    · exact t.all e he
def entD (e : Ent) : PyData := .tuple [.str "entry", .int (e.first : Int), .int (e.many : Int), .tuple (e.am.map ratD)]
theorem EntsAt.dp : ∀ {vs : List V} {es : List Ent}, EntsAt H vs es → DpAll K H vs (es.map entD)
  | _, _, .nil => .nil
  | _, _, .cons h t => by
    obtain ⟨p, a, rs, rfl, h1, h2, h3, _⟩ := h
    exact .cons (.tup (SqT.of h1) (.cons (.str _) (.cons (.int _) (.cons (.int _) (.cons (.tup (SqT.of h2) h3.dp) .nil))))) t.dp
theorem ams_small : ∀ {l : List (Int × Int)}, (∀ r ∈ l, Bd 20 r.1 ∧ Bd 20 r.2) → smsT (l.map ratD) = true ∧ szsT (l.map ratD) ≤ 60 * l.length ∧ PyData.depthAll (l.map ratD) ≤ 2
  | [], _ => ⟨by simp [smsT], by simp [szsT], by simp [PyData.depthAll]⟩
  | r :: l, h => by
    obtain ⟨a, b, c⟩ := ams_small (l := l) fun x hx => h x (List.mem_cons_of_mem _ hx)
    obtain ⟨h1, h2⟩ := h r List.mem_cons_self
    have l1 := h1.log
    have l2 := h2.log
    refine ⟨?_, ?_, ?_⟩
    · simp only [List.map_cons, ratD, smsT, smT, a, Bool.and_true, Bool.and_eq_true, decide_eq_true_eq]
      omega
    · simp only [List.map_cons, ratD, szsT, szT, List.length_cons]
      omega
    · simp only [List.map_cons, ratD, PyData.depthAll, PyData.depth]
      omega
theorem tx_entry : (reprText "entry").length = 7 := by decide +kernel
theorem ents_small : ∀ {es : List Ent}, (∀ e ∈ es, e.am.length ≤ 4 ∧ e.first + e.many ≤ 10 ^ 30 ∧ ∀ r ∈ e.am, Bd 20 r.1 ∧ Bd 20 r.2) → smsT (es.map entD) = true ∧ szsT (es.map entD) ≤ 600 * es.length ∧ PyData.depthAll (es.map entD) ≤ 5
  | [], _ => ⟨by simp [smsT], by simp [szsT], by simp [PyData.depthAll]⟩
  | e :: es, h => by
    obtain ⟨a, b, c⟩ := ents_small (es := es) fun x hx => h x (List.mem_cons_of_mem _ hx)
    obtain ⟨h1, h2, h3⟩ := h e List.mem_cons_self
    obtain ⟨a', b', c'⟩ := ams_small h3
    have l1 : (e.first : Int).natAbs.log2 < 100 := PySem.Flt.log2_lt_of (by decide) (by omega)
    have l2 : (e.many : Int).natAbs.log2 < 100 := PySem.Flt.log2_lt_of (by decide) (by omega)
    refine ⟨?_, ?_, ?_⟩
    · simp only [List.map_cons, entD, smsT, smT, a, a', Bool.and_true, Bool.and_eq_true, decide_eq_true_eq, Bool.true_and]
      omega
    · simp only [List.map_cons, entD, szsT, szT, List.length_cons, tx_entry]
      omega
    · simp only [List.map_cons, entD, PyData.depthAll, PyData.depth]
      omega
theorem rd_reprE {l : Addr} {vs : List V} {es : List Ent} {Q : VK} (h : SqL K H l vs) (s : EntsAt H vs es) (hl : vs.length ≤ 100) (q : Q (.str (PyData.shown (.list (es.map entD)))) H) : rReprT K [.ref l] H Q := by
  have al := s.all
  obtain ⟨a, b, c⟩ := ents_small (es := es) fun e he => ⟨(al e he).2.1, (al e he).2.2.1, fun r hr => ((al e he).2.2.2.2 r hr).2.2⟩
  have ln := s.len
  refine rd_reprTD (Dp.lst h s.dp) (by simpa [smT] using a) ?_ ?_ q
  · simp only [szT]
    omega
  · simp only [PyData.depth]
    omega
/-! ### fractions to be added -/
inductive FrsAt (K : PySem.W.Frag) (H : Hp) (G : Nat) : List V → List Int → Prop
  | nil : FrsAt K H G [] []
  | cons {p : Addr} {rs : List V} {x y u : Int} {us : List Int} (h : SqT K H p [.int x, .int y]) (y0 : 0 < y) (e : x * (G : Int) = u * y) (bx : Bd 1500 x) (bu : Bd 1500 y) (t : FrsAt K H G rs us) : FrsAt K H G (.ref p :: rs) (u :: us)
theorem FrsAt.mono {G : Nat} (m : ∀ p xs, SqT K H p xs → SqT K J p xs) : ∀ {rs : List V} {us : List Int}, FrsAt K H G rs us → FrsAt K J G rs us
  | _, _, .nil => .nil
  | _, _, .cons h a b c d t => .cons (m _ _ h) a b c d (t.mono m)
theorem FrsAt.len {G : Nat} : ∀ {rs : List V} {us : List Int}, FrsAt K H G rs us → rs.length = us.length
  | _, _, .nil => rfl
  | _, _, .cons _ _ _ _ _ t => by rw [List.length_cons, List.length_cons, t.len]
theorem FrsAt.get {G : Nat} : ∀ {rs : List V} {us : List Int}, FrsAt K H G rs us → ∀ {i : Nat} {v : V}, rs[i]? = some v → ∃ p x y u, v = .ref p ∧ us[i]? = some u ∧ SqT K H p [.int x, .int y] ∧ 0 < y ∧ x * (G : Int) = u * y ∧ Bd 1500 x ∧ Bd 1500 y
  | _, _, .nil, i, v, e => by simp at e
  | _, _, .cons h a b c d t, 0, v, e => by
    simp at e
    exact ⟨_, _, _, _, e.symm, rfl, h, a, b, c, d⟩
  | _, _, .cons h a b c d t, i + 1, v, e => by
    simp at e
    obtain ⟨p, x, y, u, e1, e2, e3⟩ := t.get e
    exact ⟨p, x, y, u, e1, by simpa using e2, e3⟩
theorem FrsAt.snoc {G : Nat} {p : Addr} {x y u : Int} (h : SqT K H p [.int x, .int y]) (y0 : 0 < y) (e : x * (G : Int) = u * y) (bx : Bd 1500 x) (bu : Bd 1500 y) : ∀ {rs : List V} {us : List Int}, FrsAt K H G rs us → FrsAt K H G (rs ++ [.ref p]) (us ++ [u])
  | _, _, .nil => .cons h y0 e bx bu .nil
  | _, _, .cons a b c d f t => .cons a b c d f (t.snoc h y0 e bx bu)
end
theorem lc_sig {J : It} {g : TG} {tt : TT} {te : TE} {vs : List Nat} {σ τ : L2.St} {Qd : Hp → Prop} {H1 : Hp} {D : Addr} (e : σ = τ) (q : Lc J g tt te vs τ Qd H1 D) : Lc J g tt te vs σ Qd H1 D := e ▸ q
theorem frac_bd {x y u : Int} {G n m : Nat} (y0 : 0 < y) (e : x * (G : Int) = u * y) (bx : Bd n x) (g : G < 2 ^ m) : Bd (n + m) u := by
  have h1 : Bd (n + m) (x * (G : Int)) := bx.mul (by unfold Bd; omega)
  rw [e] at h1
  refine h1.le ?_
  rw [Int.natAbs_mul]
  exact Nat.le_mul_of_pos_right _ (by omega)
theorem bE_bd {G : Nat} {e : Ent} {d : Nat} (l4 : e.am.length ≤ 4) (h : ∀ r ∈ e.am, 0 < r.2 ∧ Bd 20 r.1) (g : G < 2 ^ 500) (m30 : e.many ≤ 10 ^ 30) : Bd 640 (bE G e d) := by
  have hu : ∀ u ∈ uts G e, Bd 520 u := fun u hu => by
    obtain ⟨r, hr, rfl⟩ := List.mem_map.mp hu
    exact unit_bd (h r hr).1 (h r hr).2 g
  have s1 : Bd (3 + 520) (uts G e).sum := bd_sums hu (by rw [uts_len]; omega)
  have hn : min (d - e.first) e.many ≤ 10 ^ 30 := by omega
  unfold bE rnd
  generalize min (d - e.first) e.many = N at hn
  have s2 : Bd (3 + 520) ((uts G e).take (N % (uts G e).length)).sum := bd_sums (fun u k => hu u (List.mem_of_mem_take k)) (by rw [List.length_take, uts_len]; omega)
  have q1 : Bd 100 ((N / (uts G e).length : Nat) : Int) := by
    have h := Nat.div_le_self N (uts G e).length
    unfold Bd
    rw [Int.natAbs_natCast]
    exact Nat.lt_of_le_of_lt h (by omega)
  exact ((q1.mul s1).add (s2.mono (by decide))).mono (by decide)
theorem bS_bd {G : Nat} {es : List Ent} {d : Nat} (l : es.length ≤ 10) (h : ∀ e ∈ es, e.am.length ≤ 4 ∧ e.many ≤ 10 ^ 30 ∧ ∀ r ∈ e.am, 0 < r.2 ∧ Bd 20 r.1) (g : G < 2 ^ 500) : Bd 650 (bS G es d) := by
  have hu : ∀ u ∈ es.map (fun e => bE G e d), Bd 640 u := fun u hu => by
    obtain ⟨e, he, rfl⟩ := List.mem_map.mp hu
    exact bE_bd (h e he).1 (h e he).2.2 g (h e he).2.1
  exact (bd_sums (m := 4) hu (by rw [List.length_map]; omega)).mono (by decide)
/-- a list of entries at an address, and a grain that fits them -/
def Led (H : Hp) (l : Addr) (es : List Ent) (G : Nat) : Prop := ∃ vs, H l = some (.lst vs) ∧ EntsAt H vs es ∧ (∀ e ∈ es, Fits G e.am) ∧ 0 < G ∧ G < 2 ^ 500 ∧ vs.length ≤ 10
section
variable {H J : Hp} {l b : Addr} {es : List Ent} {G : Nat}
theorem Led.same (s : Same H J) (h : Led H l es G) : Led J l es G := by
  obtain ⟨vs, e, t, r⟩ := h
  exact ⟨vs, s _ _ e, t.mono fun p xs h => s _ _ h, r⟩
theorem Led.kp (k : Kp b H J) (gb : Bag b H) (nb : l ≠ b) (h : Led H l es G) : Led J l es G := by
  obtain ⟨vs, e, t, r⟩ := h
  exact ⟨vs, k _ _ nb e, t.mono fun p xs h => k.tup gb h, r⟩
theorem Led.pos (h : Led H l es G) : 0 < G := by
  obtain ⟨vs, e, t, f, g, r⟩ := h
  exact g
theorem Led.lt (h : Led H l es G) : G < 2 ^ 500 := by
  obtain ⟨vs, e, t, f, g, r, _⟩ := h
  exact r
theorem Led.bd (h : Led H l es G) (d : Nat) : Bd 650 (bS G es d) := by
  obtain ⟨vs, e, t, f, g, r, n⟩ := h
  have al := t.all
  have ln := t.len
  exact bS_bd (by omega) (fun e he => ⟨(al e he).2.1, by have := (al e he).2.2.1; omega, fun r hr => ⟨((al e he).2.2.2.2 r hr).1, ((al e he).2.2.2.2 r hr).2.2.1⟩⟩) r
end
theorem low_neg {t m n x y : Int} {g : Nat} (h : IsLow t (g : Int) m n) (l : IsLow (0 * n - m * 1) (1 * n) x y) (g0 : 0 < g) : IsLow (-t) (g : Int) x y := by
  refine low_of l.1 l.2.1 ?_ (by omega)
  have e1 := h.2.2.1
  have e2 := l.2.2.1
  have n0 := h.1
  refine Int.eq_of_mul_eq_mul_right (show n ≠ 0 by omega) ?_
  grind
theorem low_mod {t x y : Int} {g : Nat} (h : IsLow t (g : Int) x y) (g0 : 0 < g) : IsLow (t.fmod (g : Int)) (g : Int) (x.fmod y) y := by
  obtain ⟨y0, gg, e, b1, b2⟩ := h
  have d : y ∣ (g : Int) := by
    have : y ∣ x * (g : Int) := ⟨t, by rw [e, Int.mul_comm]⟩
    exact dvd_gcd1 gg this
  obtain ⟨k, ek⟩ := d
  have k0 : 0 < k := Int.pos_of_mul_pos_right (show 0 < y * k by omega) (by omega)
  have et : t = x * k := by
    refine Int.eq_of_mul_eq_mul_right (show y ≠ 0 by omega) ?_
    rw [← e, ek]
    grind
  refine low_of y0 ?_ ?_ (by omega)
  · rw [Int.gcd_comm, gcd_turn]
    exact gg
  · rw [Int.fmod_eq_emod_of_nonneg _ (by omega), Int.fmod_eq_emod_of_nonneg _ (by omega), ek, et, Int.mul_comm x k, Int.mul_comm y k, Int.mul_emod_mul_of_pos _ _ k0]
    grind
/-! ### what the drawing of a ledger keeps -/
def Kd (b D : Addr) (H J : Hp) : Prop := ∀ a o, a ≠ b → a ≠ D → H a = some o → J a = some o
section
variable {K : PySem.W.Frag} {H J M : Hp} {a b D p : Addr} {xs : List V}
theorem Kd.start (o : HO) : Kd b D H (upd H D o) := fun a u _ n e => by rw [upd_ne n]; exact e
theorem Kd.kp (k : Kd b D H J) (h : Kp b J M) : Kd b D H M := fun a o n1 n2 e => h _ _ n1 (k a o n1 n2 e)
theorem Kd.same (k : Kd b D H J) (h : Same J M) : Kd b D H M := fun a o n1 n2 e => h _ _ (k a o n1 n2 e)
theorem Kd.pu (k : Kd b D H J) (h : Pu D J M) : Kd b D H M := fun a o n1 n2 e => h.1 _ _ n2 (k a o n1 n2 e)
theorem Kd.tup (k : Kd b D H J) (gb : Bag b H) (nD : H D = none) (e : H a = some (.tup xs)) : J a = some (.tup xs) := k a _ (fun z => by
  obtain ⟨x, y, q⟩ := gb
  subst z
  cases e.symm.trans q) (ne_of_none e nD) e
theorem Kd.of (k : Kd b D H J) (nD : H D = none) : Kp b H J := fun a o n e => k a o n (ne_of_none e nD) e
end
/-! ### the least common grain -/
theorem lcm_at (G U : Nat) : ((G : Int) * (U : Int)).fdiv ((Int.gcd (G : Int) (U : Int) : Nat) : Int) = ((Nat.lcm G U : Nat) : Int) := by
  rw [Int.fdiv_eq_ediv_of_nonneg _ (by omega)]
  have e : Int.gcd (G : Int) (U : Int) = Nat.gcd G U := rfl
  rw [e]
  unfold Nat.lcm
  push_cast
  rfl
theorem lcm_le {G U a b : Nat} (g0 : 0 < G) (h : G ≤ 2 ^ a) (u0 : 0 < U) (k : U ≤ 2 ^ b) : 0 < Nat.lcm G U ∧ Nat.lcm G U ≤ 2 ^ (a + b) := by
  refine ⟨Nat.lcm_pos g0 u0, ?_⟩
  have h1 : Nat.lcm G U ≤ G * U := Nat.le_of_dvd (Nat.mul_pos g0 u0) (Nat.lcm_dvd (Nat.dvd_mul_right _ _) (Nat.dvd_mul_left _ _))
  rw [Nat.pow_add]
  exact Nat.le_trans h1 (Nat.mul_le_mul h k)
theorem Fits.up {G G' : Nat} {am : List (Int × Int)} (h : Fits G am) (d : G ∣ G') : Fits G' am := fun r hr => ⟨(h r hr).1, Int.dvd_trans (h r hr).2 (Int.natCast_dvd_natCast.mpr d)⟩
/-! ### statements -/
structure Stm where
  first : Nat
  many : Nat
  num : Int
def StmAt (H : Hp) (v : V) (s : Stm) : Prop := ∃ p, v = .ref p ∧ H p = some (.tup [.str "statement", .int (s.first : Int), .int (s.many : Int), .int s.num])
inductive StmsAt (H : Hp) : List V → List Stm → Prop
  | nil : StmsAt H [] []
  | cons {v : V} {vs : List V} {s : Stm} {ss : List Stm} (h : StmAt H v s) (t : StmsAt H vs ss) : StmsAt H (v :: vs) (s :: ss)
theorem StmAt.mono {H J : Hp} (m : ∀ p xs, H p = some (.tup xs) → J p = some (.tup xs)) {v : V} {s : Stm} (h : StmAt H v s) : StmAt J v s := by
  obtain ⟨p, e1, h1⟩ := h
  exact ⟨p, e1, m _ _ h1⟩
theorem StmsAt.mono {H J : Hp} (m : ∀ p xs, H p = some (.tup xs) → J p = some (.tup xs)) : ∀ {vs : List V} {es : List Stm}, StmsAt H vs es → StmsAt J vs es
  | _, _, .nil => .nil
  | _, _, .cons h t => .cons (h.mono m) (t.mono m)
theorem StmsAt.snoc {H : Hp} {v : V} {e : Stm} (h : StmAt H v e) : ∀ {vs : List V} {es : List Stm}, StmsAt H vs es → StmsAt H (vs ++ [v]) (es ++ [e])
  | _, _, .nil => .cons h .nil
  | _, _, .cons a t => .cons a (t.snoc h)
theorem StmsAt.len {H : Hp} : ∀ {vs : List V} {es : List Stm}, StmsAt H vs es → vs.length = es.length
  | _, _, .nil => rfl
  | _, _, .cons _ t => by rw [List.length_cons, List.length_cons, t.len]
theorem StmsAt.get {H : Hp} : ∀ {vs : List V} {es : List Stm}, StmsAt H vs es → ∀ {i : Nat} {v : V}, vs[i]? = some v → ∃ e, es[i]? = some e ∧ StmAt H v e
  | _, _, .nil, i, v, e => by simp at e
  | _, _, .cons h t, 0, v, e => by
    simp at e
    subst e
    exact ⟨_, rfl, h⟩
  | _, _, .cons h t, i + 1, v, e => by
    simp at e
    obtain ⟨x, e1, e2⟩ := t.get e
    exact ⟨x, by simpa using e1, e2⟩
def toldN (G : Nat) (es : List Ent) (u : Int) (i n : Nat) : Int := (bS G es (i + n) + u).fdiv (G : Int) - (bS G es i + u).fdiv (G : Int)
/-- what is drawn: entries, statements, a last day, a grain -/
structure Case (K : PySem.W.Frag) (H : Hp) (l s : Addr) (es : List Ent) (ss : List Stm) (last G : Nat) : Prop where
  led : Led H l es G
  g : G ≤ 2 ^ 320
  len : es.length ≤ 4
  first : ∀ e ∈ es, e.first + e.many ≤ last + 1
  lo : 2 ≤ last
  hi : last ≤ 13
  at_ : ∃ ws, H s = some (.lst ws) ∧ StmsAt H ws ss
  stm : ∀ x ∈ ss, 1 ≤ x.many ∧ x.first + x.many ≤ last + 1 ∧ Bd 700 x.num
theorem Case.same {K : PySem.W.Frag} {H J : Hp} {l s : Addr} {es : List Ent} {ss : List Stm} {last G : Nat} (h : Same H J) (c : Case K H l s es ss last G) : Case K J l s es ss last G :=
  ⟨c.led.same h, c.g, c.len, c.first, c.lo, c.hi, let ⟨ws, e, t⟩ := c.at_; ⟨ws, h _ _ e, t.mono fun p xs z => h _ _ z⟩, c.stm⟩
theorem Case.kp {K : PySem.W.Frag} {H J : Hp} {l s b : Addr} {es : List Ent} {ss : List Stm} {last G : Nat} (k : Kp b H J) (gb : Bag b H) (nl : l ≠ b) (ns : s ≠ b) (c : Case K H l s es ss last G) : Case K J l s es ss last G :=
  ⟨c.led.kp k gb nl, c.g, c.len, c.first, c.lo, c.hi, let ⟨ws, e, t⟩ := c.at_; ⟨ws, k _ _ ns e, t.mono fun p xs z => k.tup gb z⟩, c.stm⟩
theorem kl_tup {H J : Hp} {c a : Addr} {zs xs : List V} (k : Kp c H J) (hc : H c = some (.lst zs)) (e : H a = some (.tup xs)) : J a = some (.tup xs) := k a _ (fun z => by
  subst z
  cases hc.symm.trans e) e
theorem Case.kl {K : PySem.W.Frag} {H J : Hp} {l s c : Addr} {es : List Ent} {ss : List Stm} {last G : Nat} {zs : List V} (k : Kp c H J) (hc : H c = some (.lst zs)) (nl : l ≠ c) (ns : s ≠ c) (h : Case K H l s es ss last G) : Case K J l s es ss last G :=
  ⟨let ⟨ws, e, t, r⟩ := h.led; ⟨ws, k _ _ nl e, t.mono fun p xs z => kl_tup k hc z, r⟩, h.g, h.len, h.first, h.lo, h.hi, let ⟨ws, e, t⟩ := h.at_; ⟨ws, k _ _ ns e, t.mono fun p xs z => kl_tup k hc z⟩, h.stm⟩
theorem Bag.kl {H J : Hp} {b c : Addr} (k : Kp c H J) (n : b ≠ c) (g : Bag b H) : Bag b J := by
  obtain ⟨x, y, e⟩ := g
  exact ⟨x, y, k _ _ n e⟩
theorem rats_small : ∀ {l : List (Int × Int)}, (∀ r ∈ l, Bd 1500 r.1 ∧ Bd 1500 r.2) → smsT (l.map ratD) = true ∧ szsT (l.map ratD) ≤ 4000 * l.length ∧ PyData.depthAll (l.map ratD) ≤ 2
  | [], _ => ⟨by simp [smsT], by simp [szsT], by simp [PyData.depthAll]⟩
  | r :: l, h => by
    obtain ⟨a, b, c⟩ := rats_small (l := l) fun x hx => h x (List.mem_cons_of_mem _ hx)
    obtain ⟨h1, h2⟩ := h r List.mem_cons_self
    have l1 := h1.log
    have l2 := h2.log
    refine ⟨?_, ?_, ?_⟩
    · simp only [List.map_cons, ratD, smsT, smT, a, Bool.and_true, Bool.and_eq_true, decide_eq_true_eq]
      omega
    · simp only [List.map_cons, ratD, szsT, szT, List.length_cons]
      omega
    · simp only [List.map_cons, ratD, PyData.depthAll, PyData.depth]
      omega
theorem rd_reprRs {K : PySem.W.Frag} {H : Hp} {a : Addr} {vs : List V} {l : List (Int × Int)} {Q : VK} (h : SqL K H a vs) (t : DpAll K H vs (l.map ratD)) (b : ∀ r ∈ l, Bd 1500 r.1 ∧ Bd 1500 r.2) (n : l.length ≤ 100) (q : Q (.str (PyData.shown (.list (l.map ratD)))) H) : rReprT K [.ref a] H Q := by
  obtain ⟨s1, s2, s3⟩ := rats_small b
  refine rd_reprTD (Dp.lst h t) (by simpa [smT] using s1) ?_ ?_ q
  · simp only [szT]
    omega
  · simp only [PyData.depth]
    omega
theorem rd_reprR1 {K : PySem.W.Frag} {H : Hp} {a : Addr} {x y : Int} {Q : VK} (h : SqT K H a [.int x, .int y]) (bx : Bd 1500 x) (bu : Bd 1500 y) (q : Q (.str (PyData.shown (ratD (x, y)))) H) : rReprT K [.ref a] H Q := by
  have l1 := bx.log
  have l2 := bu.log
  refine rd_reprTD (d := ratD (x, y)) (Dp.tup h (.cons (.int _) (.cons (.int _) .nil))) ?_ ?_ ?_ q
  · simp only [ratD, smT, smsT, Bool.and_true, Bool.and_eq_true, decide_eq_true_eq]
    omega
  · simp only [ratD, szT, szsT]
    omega
  · simp only [ratD, PyData.depth, PyData.depthAll]
    omega
theorem dp3 {K : PySem.W.Frag} {H : Hp} {p1 p2 p3 : Addr} {x1 y1 x2 y2 x3 y3 : Int} (h1 : SqT K H p1 [.int x1, .int y1]) (h2 : SqT K H p2 [.int x2, .int y2]) (h3 : SqT K H p3 [.int x3, .int y3]) : DpAll K H [.ref p1, .ref p2, .ref p3] ([(x1, y1), (x2, y2), (x3, y3)].map ratD) :=
  .cons (.tup h1 (.cons (.int _) (.cons (.int _) .nil))) (.cons (.tup h2 (.cons (.int _) (.cons (.int _) .nil))) (.cons (.tup h3 (.cons (.int _) (.cons (.int _) .nil))) .nil))
/-- how it is told in lowest terms by anyone -/
theorem low_same {t t' x y x' y' : Int} {g : Nat} (h : IsLow t (g : Int) x y) (k : IsLow t' (g : Int) x' y') (g0 : 0 < g) (e : t = t') : x = x' ∧ y = y' := by
  subst e
  exact low_uniq h k (by omega) (by omega) rfl
theorem low_bd {t x y : Int} {g n : Nat} (h : IsLow t (g : Int) x y) (bt : Bd n t) (bg : g < 2 ^ n) : Bd n x ∧ Bd n y := ⟨bt.le h.2.2.2.1, Nat.lt_of_le_of_lt h.2.2.2.2 (by omega)⟩
theorem fmod_bd {x : Int} {g n : Nat} (g0 : 0 < g) (bg : g < 2 ^ n) : Bd n (x.fmod (g : Int)) := by
  have := fmod_rng (x := x) (n := (g : Int)) (by omega)
  unfold Bd
  omega
theorem rd_extK {H : Hp} {Q : VK} {l c : Addr} {xs zs : List V} (h : H l = some (.lst xs)) (k : H c = some (.lst zs)) (hz : xs.length + zs.length ≤ 1000) (q : ∀ J, Pu l H J → J l = some (.lst (xs ++ zs)) → Q .non J) : rExtend (.ref l) [.ref c] H Q :=
  ⟨l, c, xs, zs, rfl, rfl, h, k, Nat.le_of_lt (small1000 hz), q _ ⟨Kp.at, ⟨_, h⟩, ⟨_, upd_same⟩⟩ upd_same⟩
end Ob
namespace Ob
open PySem PySem.Spec PyProof.Rows L2
/-! ### repr of anything made of ints, truth values, None, texts, lists, tuples -/
def rReprH (K : PySem.W.Frag) : List V → Hp → VK → Prop := fun xs H Q => ∃ (v : V) (d : PyData), xs = [v] ∧ Dp K H v d ∧ smT d = true ∧ szT d ≤ 1000000 ∧ d.depth ≤ 50 ∧ Q (.str d.shown) H
section
variable {X : Cx} {K : PySem.W.Frag}
theorem cr_reprH (hg : X.A.guards = some []) (hu : X.A.units + 64 < cLine) : CallR X (.builtin "repr") (rReprH X.K) := by
  intro pins s σ H xs us Q I r h
  obtain ⟨v, d, rfl, hd, hs, hz, hp, q⟩ := h
  cases hd with
  | non =>
    obtain ⟨u, rfl, t⟩ := vals1 r
    cases t
    exact PySem.P.repr_of_none ⟨.str _, H, I.tok _, ⟨_, rfl⟩, by simpa [PyData.shown] using q⟩
  | bl b =>
    obtain ⟨u, rfl, t⟩ := vals1 r
    cases t
    exact PySem.P.repr_of_bool ⟨.str _, H, I.tok _, ⟨_, rfl⟩, by simpa [PyData.shown] using q⟩
  | int i =>
    have h1 : i.natAbs.log2 < 1900 := by simpa [smT] using hs
    exact SkE.call_repr_int pins s σ H _ us Q I r ⟨i, rfl, by omega, by simpa [PyData.shown] using q⟩
  | str x =>
    obtain ⟨u, rfl, t⟩ := vals1 r
    obtain ⟨tk, rfl⟩ := t
    exact PySem.P.repr_of_str ⟨.str _, H, I.tok _, ⟨_, rfl⟩, by simpa [PyData.shown] using q⟩ (by
      have : szT (.str x) = (reprText x).length := by simp [szT]
      rw [← this]
      exact Nat.le_trans hz (by decide))
  | lst a b => exact cr_reprT hg hu pins s σ H _ us Q I r (.inr (.inr ⟨_, _, rfl, .lst a b, hs, hz, hp, q⟩))
  | tup a b => exact cr_reprT hg hu pins s σ H _ us Q I r (.inr (.inr ⟨_, _, rfl, .tup a b, hs, hz, hp, q⟩))
theorem reprH (h : X.K = K) (hg : X.A.guards = some []) (hu : X.A.units + 64 < cLine) : CallR X (.builtin "repr") (rReprH K) := h ▸ cr_reprH hg hu
theorem rd_reprH {H : Hp} {Q : VK} {v : V} {d : PyData} (h : Dp K H v d) (h1 : smT d = true) (h2 : szT d ≤ 1000000) (h3 : d.depth ≤ 50) (q : Q (.str d.shown) H) : rReprH K [v] H Q := ⟨v, d, rfl, h, h1, h2, h3, q⟩
theorem rd_isNB {a b : Bool} {H : Hp} {Q : VK} (q : Q (.bl (!decide (a = b))) H) : rNotB (.bl a) (.bl b) H Q := ⟨a, b, rfl, rfl, q⟩
theorem pe_revK (h : X.K = K) {e : Expr} {te : TE} {k : Nat} {p1 p2 p3 pos : PySem.Pos} (he : PE X e te) : PE X (.Subscript e (.Slice none none (some (.UnaryOp .USub (.Constant (.int 1) k p1) p2)) p3) pos) (tRevL K te) := h ▸ pe_revL he
theorem rd_revL {σ : L2.St} {H : Hp} {Q : VK} {te : TE} (q : te σ H fun x H1 => ∃ a xs, x = .ref a ∧ SqL K H1 a xs ∧ ∀ p, H1 p = none → Q (.ref p) (upd H1 p (.lst xs.reverse))) : tRevL K te σ H Q := q
theorem rd_revA' {H : Hp} {Q : VK} {a : Addr} {xs : List V} (h : SqL K H a xs) (q : ∀ p J, H p = none → Same H J → J p = some (.lst xs.reverse) → Q (.ref p) J) : ∃ b ys, V.ref a = .ref b ∧ SqL K H b ys ∧ ∀ p, H p = none → Q (.ref p) (upd H p (.lst ys.reverse)) := ⟨a, xs, rfl, h, fun p np => q p _ np (same_new np) upd_same⟩
end
/-! ### any thing -/
inductive Th
  | non
  | bl (b : Bool)
  | int (i : Int)
  | str (s : Str)
  | tup (l : List Th)
  | lst (l : List Th)
mutual
/-- the thing t stands at v, none of its lists at b -/
inductive ThAt (K : PySem.W.Frag) (b : Addr) (H : Hp) : V → Th → Prop
  | non : ThAt K b H .non .non
  | bl (c : Bool) : ThAt K b H (.bl c) (.bl c)
  | int (i : Int) (h : Bd 900 i) : ThAt K b H (.int i) (.int i)
  | str (s : Str) : ThAt K b H (.str s) (.str s)
  | tup {a : Addr} {xs : List V} {ts : List Th} (h : SqT K H a xs) (t : ThsAt K b H xs ts) : ThAt K b H (.ref a) (.tup ts)
  | lst {a : Addr} {xs : List V} {ts : List Th} (n : a ≠ b) (h : H a = some (.lst xs)) (t : ThsAt K b H xs ts) : ThAt K b H (.ref a) (.lst ts)
inductive ThsAt (K : PySem.W.Frag) (b : Addr) (H : Hp) : List V → List Th → Prop
  | nil : ThsAt K b H [] []
  | cons {v : V} {vs : List V} {t : Th} {ts : List Th} (h : ThAt K b H v t) (k : ThsAt K b H vs ts) : ThsAt K b H (v :: vs) (t :: ts)
end
mutual
def thD : Th → PyData
  | .non => .none
  | .bl b => .bool b
  | .int i => .int i
  | .str s => .str s
  | .tup l => .tuple (thDs l)
  | .lst l => .list (thDs l)
def thDs : List Th → List PyData
  | [] => []
  | t :: ts => thD t :: thDs ts
end
def tyN : Th → String
  | .non => "NoneType"
  | .bl _ => "bool"
  | .int _ => "int"
  | .str _ => "str"
  | .tup _ => "tuple"
  | .lst _ => "list"
section
variable {K : PySem.W.Frag} {b : Addr} {H J : Hp}
mutual
theorem ThAt.mono (mt : ∀ a xs, SqT K H a xs → SqT K J a xs) (ml : ∀ a xs, a ≠ b → H a = some (.lst xs) → J a = some (.lst xs)) : ∀ {v : V} {t : Th}, ThAt K b H v t → ThAt K b J v t
  | _, _, .non => .non
  | _, _, .bl c => .bl c
  | _, _, .int i h => .int i h
  | _, _, .str s => .str s
  | _, _, .tup h t => .tup (mt _ _ h) (t.mono mt ml)
  | _, _, .lst n h t => .lst n (ml _ _ n h) (t.mono mt ml)
theorem ThsAt.mono (mt : ∀ a xs, SqT K H a xs → SqT K J a xs) (ml : ∀ a xs, a ≠ b → H a = some (.lst xs) → J a = some (.lst xs)) : ∀ {vs : List V} {ts : List Th}, ThsAt K b H vs ts → ThsAt K b J vs ts
  | _, _, .nil => .nil
  | _, _, .cons h k => .cons (h.mono mt ml) (k.mono mt ml)
end
theorem ThAt.same (s : Same H J) {v : V} {t : Th} (h : ThAt K b H v t) : ThAt K b J v t := h.mono (fun a xs => sqt_same s) fun a xs _ e => s _ _ e
theorem ThsAt.same (s : Same H J) {v : List V} {t : List Th} (h : ThsAt K b H v t) : ThsAt K b J v t := h.mono (fun a xs => sqt_same s) fun a xs _ e => s _ _ e
theorem ThAt.kp (k : Kp b H J) (g : Bag b H) {v : V} {t : Th} (h : ThAt K b H v t) : ThAt K b J v t := h.mono (fun a xs => sqt_bag k g) fun a xs n e => k _ _ n e
theorem ThsAt.kp (k : Kp b H J) (g : Bag b H) {v : List V} {t : List Th} (h : ThsAt K b H v t) : ThsAt K b J v t := h.mono (fun a xs => sqt_bag k g) fun a xs n e => k _ _ n e
mutual
theorem ThAt.dp : ∀ {v : V} {t : Th}, ThAt K b H v t → Dp K H v (thD t)
  | _, _, .non => by rw [thD]; exact .non
  | _, _, .bl c => by rw [thD]; exact .bl c
  | _, _, .int i h => by rw [thD]; exact .int i
  | _, _, .str s => by rw [thD]; exact .str s
  | _, _, .tup h t => by rw [thD]; exact .tup h t.dp
  | _, _, .lst n h t => by rw [thD]; exact .lst (SqL.of h) t.dp
theorem ThsAt.dp : ∀ {vs : List V} {ts : List Th}, ThsAt K b H vs ts → DpAll K H vs (thDs ts)
  | _, _, .nil => by rw [thDs]; exact .nil
  | _, _, .cons h k => by rw [thDs]; exact .cons h.dp k.dp
end
mutual
theorem ThAt.sm : ∀ {v : V} {t : Th}, ThAt K b H v t → smT (thD t) = true
  | _, _, .non => by simp [thD, smT]
  | _, _, .bl c => by simp [thD, smT]
  | _, _, .int i h => by
    have := h.log
    simp only [thD, smT, decide_eq_true_eq]
    omega
  | _, _, .str s => by simp [thD, smT]
  | _, _, .tup h t => by simpa [thD, smT] using t.sm
  | _, _, .lst n h t => by simpa [thD, smT] using t.sm
theorem ThsAt.sm : ∀ {vs : List V} {ts : List Th}, ThsAt K b H vs ts → smsT (thDs ts) = true
  | _, _, .nil => by simp [thDs, smsT]
  | _, _, .cons h k => by simp [thDs, smsT, h.sm, k.sm]
end
theorem ThAt.ty {v : V} {t : Th} (h : ThAt K b H v t) : TyX K H v (.type (tyN t)) := by
  cases h with
  | non => exact .base .non
  | bl c => exact .base (.bl c)
  | int i h => exact .base (.int i)
  | str s => exact .base (.str s)
  | tup h t => exact tyT h
  | lst n h t => exact .base (.lst h)
theorem ThsAt.len : ∀ {vs : List V} {ts : List Th}, ThsAt K b H vs ts → vs.length = ts.length
  | _, _, .nil => rfl
  | _, _, .cons _ k => by rw [List.length_cons, List.length_cons, k.len]
theorem ThsAt.get : ∀ {vs : List V} {ts : List Th}, ThsAt K b H vs ts → ∀ {i : Nat} {v : V}, vs[i]? = some v → ∃ t, ts[i]? = some t ∧ ThAt K b H v t
  | _, _, .nil, i, v, e => by simp at e
  | _, _, .cons h k, 0, v, e => by
    simp at e
    subst e
    exact ⟨_, rfl, h⟩
  | _, _, .cons h k, i + 1, v, e => by
    simp at e
    obtain ⟨t, e1, e2⟩ := k.get e
    exact ⟨t, by simpa using e1, e2⟩
theorem ThsAt.app {us : List V} {rs : List Th} (k : ThsAt K b H us rs) : ∀ {vs : List V} {ts : List Th}, ThsAt K b H vs ts → ThsAt K b H (vs ++ us) (ts ++ rs)
  | _, _, .nil => k
  | _, _, .cons h t => .cons h (ThsAt.app k t)
theorem ThsAt.take : ∀ {vs : List V} {ts : List Th}, ThsAt K b H vs ts → ∀ n, ThsAt K b H (vs.take n) (ts.take n)
  | _, _, _, 0 => .nil
  | _, _, .nil, n + 1 => .nil
  | _, _, .cons h k, n + 1 => .cons h (k.take n)
theorem ThsAt.drop : ∀ {vs : List V} {ts : List Th}, ThsAt K b H vs ts → ∀ n, ThsAt K b H (vs.drop n) (ts.drop n)
  | _, _, k, 0 => k
  | _, _, .nil, n + 1 => .nil
  | _, _, .cons h k, n + 1 => k.drop n
theorem ThsAt.rev : ∀ {vs : List V} {ts : List Th}, ThsAt K b H vs ts → ThsAt K b H vs.reverse ts.reverse
  | _, _, .nil => .nil
  | _, _, .cons h k => by
    rw [List.reverse_cons, List.reverse_cons]
    exact ThsAt.app (.cons h .nil) k.rev
end
/-! sizes -/
def szH (t : Th) : Nat := szT (thD t)
theorem szsT_app : ∀ (a c : List PyData), szsT (a ++ c) = szsT a + szsT c
  | [], c => by simp [szsT]
  | x :: a, c => by
    rw [List.cons_append, szsT, szsT, szsT_app a c]
    omega
theorem thDs_app : ∀ (a c : List Th), thDs (a ++ c) = thDs a ++ thDs c
  | [], c => rfl
  | x :: a, c => by rw [List.cons_append, thDs, thDs, thDs_app a c]; rfl
/-! ### ratios, spans, sets of cuts among the things -/
def asRat : Th → Option (Int × Int)
  | .tup [.int x, .int y] => if 0 < y ∧ Int.gcd x y = 1 then some (x, y) else none
  | _ => none
def isRat (t : Th) : Bool := (asRat t).isSome
def asSn : Th → Option Sn
  | .tup [l, h] => match asRat l, asRat h with
    | some (x, y), some (u, v) => if okS ⟨x, y, u, v⟩ = true then some ⟨x, y, u, v⟩ else none
    | _, _ => none
  | _ => none
def isSpan (t : Th) : Bool := (asSn t).isSome
def sns : List Th → List Sn
  | [] => []
  | t :: ts => match asSn t with
    | some s => s :: sns ts
    | none => sns ts
def isCuts : Th → Bool
  | .lst ts => ts.all isSpan && (List.zipWith okN (sns ts) (sns ts).tail).all id
  | _ => false
theorem sns_len : ∀ {ts : List Th}, (∀ t ∈ ts, isSpan t = true) → (sns ts).length = ts.length
  | [], _ => rfl
  | t :: ts, h => by
    have h1 := h t List.mem_cons_self
    unfold isSpan at h1
    unfold sns
    cases e : asSn t with
    | none => rw [e] at h1; cases h1
    | some s => rw [List.length_cons, List.length_cons, sns_len fun x hx => h x (List.mem_cons_of_mem _ hx)]
section
variable {K : PySem.W.Frag} {b : Addr} {H : Hp}
theorem rat_at {v : V} {t : Th} {r : Int × Int} (h : ThAt K b H v t) (e : asRat t = some r) : ∃ p, v = .ref p ∧ t = .tup [.int r.1, .int r.2] ∧ Ra K H p r.1 r.2 := by
  unfold asRat at e
  split at e
  · split at e
    · next x y c =>
      cases e
      cases h with
      | tup hq t =>
        cases t with
        | cons h1 t =>
          cases t with
          | cons h2 t =>
            cases t
            cases h1 with
            | int i bi =>
              cases h2 with
              | int j bj => exact ⟨_, rfl, rfl, hq, c.1, c.2, bi.mono (by decide), bj.mono (by decide)⟩
    · cases e
  · cases e
theorem span_at {v : V} {t : Th} {s : Sn} (h : ThAt K b H v t) (e : asSn t = some s) : SnAt K H v s ∧ okS s = true := by
  unfold asSn at e
  split at e
  · next l g =>
    split at e
    · next x y u w e1 e2 =>
      split at e
      · next c =>
        cases e
        cases h with
        | tup hq t =>
          cases t with
          | cons h1 t =>
            cases t with
            | cons h2 t =>
              cases t
              obtain ⟨p, rfl, _, r1⟩ := rat_at h1 e1
              obtain ⟨q, rfl, _, r2⟩ := rat_at h2 e2
              exact ⟨⟨_, p, q, rfl, hq, r1, r2⟩, c⟩
      · cases e
    · cases e
  · cases e
theorem spans_at : ∀ {vs : List V} {ts : List Th}, ThsAt K b H vs ts → (∀ t ∈ ts, isSpan t = true) → SnsAt K H vs (sns ts)
  | _, _, .nil, _ => .nil
  | _, _, .cons (t := t) h k, hs => by
    have h1 := hs t List.mem_cons_self
    unfold isSpan at h1
    unfold sns
    cases e : asSn t with
    | none => rw [e] at h1; cases h1
    | some s => exact .cons (span_at h e).1 (spans_at k fun x hx => hs x (List.mem_cons_of_mem _ hx))
end
/-! a set of cuts as a thing -/
def ratT (x y : Int) : Th := .tup [.int x, .int y]
def snT (s : Sn) : Th := .tup [ratT s.x s.y, ratT s.u s.v]
section
variable {K : PySem.W.Frag} {b : Addr} {H : Hp}
theorem th_rat {p : Addr} {x y : Int} (h : SqT K H p [.int x, .int y]) (bx : Bd 900 x) (bu : Bd 900 y) : ThAt K b H (.ref p) (ratT x y) := .tup h (.cons (.int _ bx) (.cons (.int _ bu) .nil))
end
theorem tyN_int {t : Th} : tyN t = "int" ↔ ∃ i, t = .int i := by
  cases t <;> simp [tyN]
theorem tyN_in (t : Th) : tyN t = "NoneType" ∨ tyN t = "bool" ∨ tyN t = "int" ∨ tyN t = "str" ∨ tyN t = "list" ∨ tyN t = "tuple" := by
  cases t <;> simp [tyN]
theorem isRat_two {t u : Th} (h : ¬ (tyN t = "int" ∧ tyN u = "int")) : isRat (.tup [t, u]) = false := by
  cases t <;> cases u <;> first | rfl | (exact absurd ⟨rfl, rfl⟩ h)
theorem isRat_int (x y : Int) : isRat (.tup [.int x, .int y]) = (decide (0 < y) && decide (Int.gcd x y = 1)) := by
  unfold isRat asRat
  by_cases a : 0 < y <;> by_cases b : Int.gcd x y = 1 <;> simp [a, b]
theorem isRat_len {ts : List Th} (h : ts.length ≠ 2) : isRat (.tup ts) = false := by
  match ts, h with
  | [], _ => rfl
  | [t], _ => cases t <;> rfl
  | [t, u], h => simp at h
  | t :: u :: w :: r, _ => cases t <;> cases u <;> rfl
theorem isSpan_len {ts : List Th} (h : ts.length ≠ 2) : isSpan (.tup ts) = false := by
  match ts, h with
  | [], _ => rfl
  | [t], _ => rfl
  | [t, u], h => simp at h
  | t :: u :: w :: r, _ => rfl
theorem isSpan_off {t u : Th} (h : ¬ (isRat t = true ∧ isRat u = true)) : isSpan (.tup [t, u]) = false := by
  unfold isRat at h
  cases e1 : asRat t with
  | none => simp [isSpan, asSn, e1]
  | some r =>
    cases e2 : asRat u with
    | none => simp [isSpan, asSn, e1, e2]
    | some r2 =>
      rw [e1, e2] at h
      exact absurd ⟨rfl, rfl⟩ h
theorem isSpan_two {t u : Th} {x y z w : Int} (h : asRat t = some (x, y)) (k : asRat u = some (z, w)) : isSpan (.tup [t, u]) = okS ⟨x, y, z, w⟩ := by
  by_cases c : okS ⟨x, y, z, w⟩ = true
  · simp [isSpan, asSn, h, k, c]
  · simp [isSpan, asSn, h, k, c]
theorem isRat_some {t : Th} (h : isRat t = true) : ∃ x y, asRat t = some (x, y) := by
  unfold isRat at h
  cases e : asRat t with
  | none => rw [e] at h; cases h
  | some r => exact ⟨r.1, r.2, rfl⟩
theorem isCuts_off {ts : List Th} (h : ts.all isSpan = false) : isCuts (.lst ts) = false := by
  show (ts.all isSpan && _) = false
  rw [h, Bool.false_and]
theorem isCuts_on {ts : List Th} (h : ts.all isSpan = true) : isCuts (.lst ts) = (List.zipWith okN (sns ts) (sns ts).tail).all id := by
  show (ts.all isSpan && _) = _
  rw [h, Bool.true_and]
/-- a tuple of two has no long tuples in it -/
def Shallow : Th → Prop
  | .tup [t, u] => (∀ ts, t = .tup ts → ts.length ≤ 500) ∧ ∀ ts, u = .tup ts → ts.length ≤ 500
  | _ => True
/-! sizes whatever the ints -/
mutual
def szC : Th → Nat
  | .non => 4
  | .bl _ => 5
  | .int _ => 902
  | .str s => (reprText s).length
  | .tup l => szsC l + 2
  | .lst l => szsC l + 2
def szsC : List Th → Nat
  | [] => 0
  | t :: ts => szC t + 2 + szsC ts
end
mutual
def dC : Th → Nat
  | .non => 0
  | .bl _ => 0
  | .int _ => 0
  | .str _ => 0
  | .tup l => dsC l + 1
  | .lst l => dsC l + 1
def dsC : List Th → Nat
  | [] => 0
  | t :: ts => max (dC t) (dsC ts)
end
section
variable {K : PySem.W.Frag} {b : Addr} {H J : Hp}
mutual
theorem ThAt.szle : ∀ {v : V} {t : Th}, ThAt K b H v t → szT (thD t) ≤ szC t
  | _, _, .non => by simp [thD, szT, szC]
  | _, _, .bl c => by simp [thD, szT, szC]
  | _, _, .int i h => by
    have := h.log
    simp only [thD, szT, szC]
    omega
  | _, _, .str s => by simp [thD, szT, szC]
  | _, _, .tup h t => by
    have := t.szle
    simp only [thD, szT, szC]
    omega
  | _, _, .lst n h t => by
    have := t.szle
    simp only [thD, szT, szC]
    omega
theorem ThsAt.szle : ∀ {vs : List V} {ts : List Th}, ThsAt K b H vs ts → szsT (thDs ts) ≤ szsC ts
  | _, _, .nil => by simp [thDs, szsT, szsC]
  | _, _, .cons h k => by
    have := h.szle
    have := k.szle
    simp only [thDs, szsT, szsC]
    omega
end
end
mutual
theorem depth_le : ∀ t : Th, (thD t).depth ≤ dC t
  | .non => by simp [thD, PyData.depth]
  | .bl _ => by simp [thD, PyData.depth]
  | .int _ => by simp [thD, PyData.depth]
  | .str _ => by simp [thD, PyData.depth]
  | .tup l => by
    have := depths_le l
    simp only [thD, PyData.depth, dC]
    omega
  | .lst l => by
    have := depths_le l
    simp only [thD, PyData.depth, dC]
    omega
theorem depths_le : ∀ l : List Th, PyData.depthAll (thDs l) ≤ dsC l
  | [] => by simp [thDs, PyData.depthAll]
  | t :: ts => by
    have := depth_le t
    have := depths_le ts
    simp only [thDs, PyData.depthAll, dsC]
    omega
end
theorem szsC_app : ∀ a c : List Th, szsC (a ++ c) = szsC a + szsC c
  | [], c => by simp [szsC]
  | x :: a, c => by
    rw [List.cons_append, szsC, szsC, szsC_app a c]
    omega
theorem dsC_app : ∀ a c : List Th, dsC (a ++ c) = max (dsC a) (dsC c)
  | [], c => by simp [dsC]
  | x :: a, c => by
    rw [List.cons_append, dsC, dsC, dsC_app a c]
    omega
theorem sz_sn (s : Sn) : szC (snT s) = 3626 ∧ dC (snT s) = 2 := ⟨by simp [snT, ratT, szC, szsC], by simp [snT, ratT, dC, dsC]⟩
theorem szs_sn : ∀ ss : List Sn, szsC (ss.map snT) = 3628 * ss.length ∧ dsC (ss.map snT) ≤ 2
  | [] => ⟨by simp [szsC], by simp [dsC]⟩
  | s :: ss => by
    obtain ⟨a, c⟩ := szs_sn ss
    obtain ⟨d, e⟩ := sz_sn s
    refine ⟨?_, ?_⟩
    · rw [List.map_cons, szsC, a, d, List.length_cons]
      omega
    · rw [List.map_cons, dsC, e]
      omega
theorem shallow_sn (s : Sn) : Shallow (snT s) := ⟨fun ts e => by cases e; show 2 ≤ 500; decide, fun ts e => by cases e; show 2 ≤ 500; decide⟩
/-- a thing that may be shown and looked at -/
structure Fine (t : Th) : Prop where
  sz : szC t ≤ 300000
  dp : dC t ≤ 20
  lst : ∀ ts, t = .lst ts → ts.length ≤ 400 ∧ ∀ u ∈ ts, Shallow u
/-- the spans of a drawn form as things -/
theorem ths_form {K : PySem.W.Frag} {b : Addr} {H : Hp} {g : Nat} (g1 : g ≤ 30) : ∀ {rs : List V} {ss : List Sn} {ps : List (Nat × Nat)}, SnsAt K H rs ss → SnsOf g ps ss → (∀ r ∈ ps, r.1 ≤ g ∧ r.2 ≤ g) →
    ThsAt K b H rs (ss.map snT) ∧ ∀ s ∈ ss, Bd 10 s.x ∧ Bd 10 s.y ∧ Bd 10 s.u ∧ Bd 10 s.v
  | _, _, _, .nil, .nil, _ => ⟨.nil, fun s hs => by cases hs⟩
  | _, _, _, .cons (s := s) h t, .cons a c k, hb => by
    obtain ⟨i1, i2⟩ := ths_form (b := b) g1 t k fun r hr => hb r (List.mem_cons_of_mem _ hr)
    obtain ⟨q1, q2⟩ := hb _ List.mem_cons_self
    obtain ⟨p, p1, p2, rfl, hp, h1, h2⟩ := h
    have b1 : Bd 10 s.x := by
      have := a.2.2.2.1
      have q1' : _ ≤ g := q1
      unfold Bd
      omega
    have b2 : Bd 10 s.y := by
      have := a.2.2.2.2
      unfold Bd
      omega
    have b3 : Bd 10 s.u := by
      have := c.2.2.2.1
      have q2' : _ ≤ g := q2
      unfold Bd
      omega
    have b4 : Bd 10 s.v := by
      have := c.2.2.2.2
      unfold Bd
      omega
    refine ⟨.cons (.tup hp (.cons (th_rat h1.sq (b1.mono (by decide)) (b2.mono (by decide))) (.cons (th_rat h2.sq (b3.mono (by decide)) (b4.mono (by decide))) .nil))) i1, fun s' hs => ?_⟩
    rcases List.mem_cons.mp hs with rfl | hs
    · exact ⟨b1, b2, b3, b4⟩
    · exact i2 s' hs
section
variable {K : PySem.W.Frag} {H : Hp} {Q : VK}
theorem rd_reprThing {b : Addr} {v : V} {t : Th} (h : ThAt K b H v t) (f : Fine t) (q : Q (.str (thD t).shown) H) : rReprH K [v] H Q :=
  rd_reprH h.dp h.sm (Nat.le_trans h.szle (Nat.le_trans f.sz (by decide))) (Nat.le_trans (depth_le t) (Nat.le_trans f.dp (by decide))) q
theorem rd_reprBB {a : Addr} {c d : Bool} (h : H a = some (.lst [.bl c, .bl d])) (q : Q (.str (PyData.shown (.list [.bool c, .bool d]))) H) : rReprH K [.ref a] H Q :=
  rd_reprH (Dp.lst (SqL.of h) (.cons (.bl _) (.cons (.bl _) .nil))) (by simp [smT, smsT]) (by simp [szT, szsT]) (by simp [PyData.depth, PyData.depthAll]) q
theorem rd_lstOfT {p : Addr} {ys : List V} (h : SqT K H p ys) (q : ∀ l J, H l = none → Same H J → J l = some (.lst ys) → Q (.ref l) J) : rLstOf K [.ref p] H Q := ⟨p, ys, rfl, .inr h, fun l nl => q l _ nl (same_new nl) upd_same⟩
end
theorem asRat_of {x y : Int} (h : 0 < y) (g : Int.gcd x y = 1) : asRat (ratT x y) = some (x, y) := by simp [asRat, ratT, h, g]
theorem asSn_of {K : PySem.W.Frag} {H : Hp} {r : V} {s : Sn} (h : SnAt K H r s) (o : okS s = true) : asSn (snT s) = some s := by
  obtain ⟨c, p, q, _, _, h1, h2⟩ := h
  have e1 := asRat_of h1.pos h1.gcd
  have e2 := asRat_of h2.pos h2.gcd
  simp [asSn, snT, e1, e2, o]
theorem sns_of {K : PySem.W.Frag} {H : Hp} : ∀ {rs : List V} {ss : List Sn}, SnsAt K H rs ss → (ss.map okS).all id = true → sns (ss.map snT) = ss ∧ (ss.map snT).all isSpan = true
  | _, _, .nil, _ => ⟨rfl, rfl⟩
  | _, _, .cons (s := s) h t, o => by
    rw [List.map_cons, List.all_cons, Bool.and_eq_true] at o
    have e := asSn_of h o.1
    obtain ⟨i1, i2⟩ := sns_of t o.2
    refine ⟨?_, ?_⟩
    · rw [List.map_cons, sns, e, i1]
    · rw [List.map_cons, List.all_cons, i2, Bool.and_true]
      unfold isSpan
      rw [e]
      rfl
theorem isCuts_form {K : PySem.W.Frag} {H : Hp} {rs : List V} {ss : List Sn} (h : SnsAt K H rs ss) (c : cutsB ss = true) : isCuts (.lst (ss.map snT)) = true := by
  unfold cutsB at c
  rw [Bool.and_eq_true] at c
  obtain ⟨e1, e2⟩ := sns_of h c.1
  rw [isCuts_on e2, e1]
  exact c.2
theorem snT_two (s : Sn) : (∀ ts, ratT s.x s.y = .tup ts → ts.length ≤ 500) ∧ ∀ ts, ratT s.u s.v = .tup ts → ts.length ≤ 500 := ⟨fun ts e => by cases e; show 2 ≤ 500; decide, fun ts e => by cases e; show 2 ≤ 500; decide⟩
theorem fine_lst {l : List Th} (a : szsC l ≤ 290000) (d : dsC l ≤ 15) (n : l.length ≤ 400) (s : ∀ u ∈ l, Shallow u) : Fine (.lst l) := ⟨by rw [szC]; omega, by rw [dC]; omega, fun ts e => by cases e; exact ⟨n, s⟩⟩
theorem fine_tup {l : List Th} (a : szsC l ≤ 290000) (d : dsC l ≤ 15) : Fine (.tup l) := ⟨by rw [szC]; omega, by rw [dC]; omega, fun ts e => by cases e⟩
theorem shallow_sns (ss : List Sn) : ∀ u ∈ ss.map snT, Shallow u := fun u hu => by
  obtain ⟨s, _, rfl⟩ := List.mem_map.mp hu
  exact shallow_sn s
end Ob
namespace Ob
open PySem PySem.Spec PyProof.Rows L2
def top (i : Nat) : Stmt := PySem.Challenge.pw_onecut_k07_sets_of_cuts_known.main.body.getD i (.Pass ⟨0, 0, 0, 0⟩)
local macro_rules | `(tactic| walk_at "hp") => `(tactic| (first
  | assumption
  | exact L2.upd_same
  | ((with_reducible refine SqT.of ?h); (case h => walk_at "hp"))
  | ((with_reducible refine SqL.of ?h); (case h => walk_at "hp"))
  | ((with_reducible refine Scr.sq ?h); (case h => walk_at "hp"))
  | ((with_reducible refine Bag.new ?h ?k); (case h => walk_at "hp"); (case k => assumption))
  | ((with_reducible refine Scr.new ?k ?h); (case k => assumption); (case h => walk_at "hp"))
  | ((with_reducible refine Scr.kp (b := ?bb) (H := ?hh) ?k ?g ?h); (case k => assumption); (case g => walk_at "hp"); (case h => walk_at "hp"))
  | ((with_reducible refine Bag.same (H := ?hh) ?k ?h); (case k => assumption); (case h => walk_at "hp"))
  | ((with_reducible refine Scr.same (H := ?hh) ?k ?h); (case k => assumption); (case h => walk_at "hp"))
  | ((with_reducible refine same_any (H := ?hh) ?k ?h); (case k => assumption); (case h => walk_at "hp"))
  | ((with_reducible refine new_any ?k ?h); (case k => assumption); (case h => walk_at "hp"))
  | ((with_reducible refine set_tup (ys := ?ys) ?k ?h); (case k => assumption); (case h => walk_at "hp"))
  | ((with_reducible refine Bag.put ?k ?h); (case k => assumption); (case h => walk_at "hp"))
  | ((with_reducible refine Kp.tup (b := ?bb) (H := ?hh) ?k ?g ?h); (case k => assumption); (case g => walk_at "hp"); (case h => walk_at "hp"))
  | ((with_reducible refine Kp.lst (b := ?bb) (H := ?hh) ?k ?g ?h); (case k => assumption); (case g => walk_at "hp"); (case h => walk_at "hp"))
  | ((with_reducible refine Bag.off (H := ?hh) ?h ?g); (case h => assumption); (case g => walk_at "hp"))
  | (with_reducible exact Kp.refl)
  | (with_reducible exact Kp.new (by assumption))))
local macro_rules | `(tactic| walk_at "dp") => `(tactic| (first
  | exact Dp.int _
  | exact Dp.bl _
  | exact Dp.non
  | exact Dp.str _
  | exact DpAll.nil
  | ((refine DpAll.cons (d := ?d) (ds := ?ds) ?h ?k); (case h => walk_at "dp"); (case k => walk_at "dp"))
  | ((refine Dp.lst (xs := ?xs) (ds := ?ds) ?h ?k); (case h => walk_at "hp"); (case k => walk_at "dp"))
  | ((refine Dp.tup (xs := ?xs) (ds := ?ds) ?h ?k); (case h => walk_at "hp"); (case k => walk_at "dp"))))
local macro_rules | `(tactic| walk_at "small") => `(tactic| first | decide +kernel | (simp only [sm, sms, sz, szs, Bool.and_true, Bool.and_eq_true, decide_eq_true_eq, and_true, true_and]; (first | done | omega | (repeat' constructor) <;> first | omega | decide +kernel)))
local macro_rules | `(tactic| walk_at "side") => `(tactic| (first
  | ((with_reducible show IntMulOk _ _); first | exact rd_mulB (by assumption) (by assumption) | (refine rd_mulok ?_; omega))
  | ((with_reducible show CDv _ _); exact rd_dvB _ (Int.ne_of_gt (by assumption)) (by assumption))
  | ((with_reducible show CDv _ _); refine rd_dvI _ ?_ ?_ <;> first | assumption | omega | decide)
  | ((with_reducible show CPow _ _); exact ⟨by decide, by decide, by first | decide | omega⟩)
  | omega
  | assumption
  | decide
  | (refine rd_mulB (m := 400) (n := 400) (Bd.lit ?_) (Bd.lit ?_) <;> decide +kernel)))
local macro_rules | `(tactic| walk_at "rd1") => `(tactic| (first
  | ((with_reducible refine rd_var (v := ?v) ?h ?_); (case h => exact rfl))
  | (with_reducible refine rd_c ?_)
  | (with_reducible refine rd_op ?_)
  | (with_reducible refine rd_cons ?_)
  | (with_reducible refine rd_nil ?_)
  | ((with_reducible refine rd_sxT (xs := ?xs) (v := ?v) ?h ?a ?_); (case h => walk_at "hp"); (case a => exact rfl))
  | ((with_reducible refine rd_sxL (xs := ?xs) (v := ?v) ?h ?a ?_); (case h => walk_at "hp"); (case a => exact rfl))
  | (with_reducible refine rd_I0 ?_)
  | ((with_reducible refine rd_I ?c ?_); (case c => walk_at "side"))
  | ((with_reducible refine rd_name (τ := ?t) ?e ?_); (case e => exact rfl))
  | (with_reducible refine rd_seq ?_)
  | (with_reducible refine rd_asg ?_)
  | (with_reducible refine rd_call ?_)
  | (with_reducible refine rd_CB ?_)
  | (with_reducible refine rd_tup ?_)
  | ((with_reducible refine rd_new ?h ?_); (case h => exact rfl))
  | (with_reducible refine rd_test ?_)
  | (with_reducible refine rd_bl ?_)
  | (with_reducible refine rd_U ?_)
  | (with_reducible refine rd_un ?_)
  | (with_reducible refine rd_neI ?_)
  | (with_reducible refine rd_eqI ?_)
  | (with_reducible refine rd_tpar ?_)
  | (with_reducible refine rd_lc ?_)
  | (with_reducible refine rd_iTup ?_)
  | (with_reducible refine rd_iLst ?_)
  | (with_reducible refine rd_iR1 ?_)
  | (with_reducible refine rd_BM ?_)
  | ((with_reducible refine rd_iTupA (xs := ?xs) ?h ?_); (case h => walk_at "hp"))
  | ((with_reducible refine rd_iLstA (xs := ?xs) ?h ?_); (case h => walk_at "hp"))
  | ((with_reducible refine rd_tyl (xs := ?xs) ?h ?_); (case h => walk_at "hp"))
  | ((with_reducible refine rd_app (xs := ?xs) ?h ?a ?_); (case h => walk_at "hp"); (case a => exact Nat.le_of_ble_eq_true rfl))
  | ((with_reducible refine rd_cat (xs := ?xs) (zs := ?zs) ?h ?k ?a ?_); (case h => walk_at "hp"); (case k => walk_at "hp"); (case a => exact Nat.le_of_ble_eq_true rfl))
  | ((with_reducible refine rd_rep (xs := ?xs) (ys := ?ys) ?h ?a ?b ?c ?_); (case h => walk_at "hp"); (case a => decide); (case b => exact Nat.le_of_ble_eq_true rfl); (case c => exact rfl))
  | (with_reducible refine rd_ret ?_)
  | (with_reducible refine rd_next ?_)
  | (with_reducible refine rd_drop ?_)
  | (with_reducible refine rd_ifS ?_)
  | (with_reducible refine rd_B ?_)
  | (with_reducible refine rd_not ?_)
  | (with_reducible refine rd_and ?_)
  | (with_reducible refine rd_or ?_)
  | (with_reducible refine rd_andV ?_)
  | (with_reducible refine rd_orV ?_)
  | (with_reducible refine rd_notV ?_)
  | (with_reducible refine rd_ifE ?_)
  | (with_reducible refine rd_lst ?_)
  | ((with_reducible refine rd_for1b ?h ?_); (case h => constructor <;> (repeat' split) <;> omega))
  | (with_reducible refine rd_one ?_)
  | (with_reducible refine rd_two ?_)
  | (with_reducible refine rd_int ?_)
  | (with_reducible refine rd_intB ?_)
  | (with_reducible refine rd_gcd ?_)
  | ((with_reducible refine rd_par (τ := ?t) ?e ?_); (case e => exact rfl))
  | (with_reducible refine rd_sub ?_)
  | (with_reducible refine rd_for1 ?_)
  | ((with_reducible refine rd_len (ys := ?ys) ?h ?_); (case h => walk_at "hp"))
  | ((with_reducible refine rd_lenTu (ys := ?ys) ?h ?_); (case h => walk_at "hp"))
  | ((with_reducible refine rd_repr (d := ?d) ?h ?a ?b ?c ?_); (case h => walk_at "dp"); (case a => walk_at "small"); (case b => walk_at "small"); (case c => simp only [PyData.depth, PyData.depthAll]; omega))
  | ((with_reducible refine rd_nsame ?h ?_); (case h => exact rfl))
  | ((with_reducible refine rd_same ?h ?_); (case h => exact rfl))
  | ((with_reducible refine rd_gtup (xs := ?xs) ?h ?a ?_); (case h => walk_at "hp"); (case a => exact rfl))
  | (with_reducible refine rd_gcons ?_)
  | (with_reducible refine rd_gnil ?_)
  | ((with_reducible refine rd_isiI (b := true) ?a ?_); (case a => decide +kernel))
  | ((with_reducible refine rd_isiI (b := false) ?a ?_); (case a => decide +kernel))
  | ((with_reducible refine rd_isiB (b := true) ?a ?_); (case a => decide +kernel))
  | ((with_reducible refine rd_isiB (b := false) ?a ?_); (case a => decide +kernel))
  | ((with_reducible refine rd_isiN (b := true) ?a ?_); (case a => decide +kernel))
  | ((with_reducible refine rd_isiN (b := false) ?a ?_); (case a => decide +kernel))
  | ((with_reducible refine rd_isiS (b := true) ?a ?_); (case a => decide +kernel))
  | ((with_reducible refine rd_isiS (b := false) ?a ?_); (case a => decide +kernel))
  | ((with_reducible refine rd_isiT (b := true) (xs := ?xs) ?h ?a ?_); (case a => decide +kernel); (case h => walk_at "hp"))
  | ((with_reducible refine rd_isiT (b := false) (xs := ?xs) ?h ?a ?_); (case a => decide +kernel); (case h => walk_at "hp"))
  | ((with_reducible refine rd_isiL (b := true) (xs := ?xs) ?h ?a ?_); (case a => decide +kernel); (case h => walk_at "hp"))
  | ((with_reducible refine rd_isiL (b := false) (xs := ?xs) ?h ?a ?_); (case a => decide +kernel); (case h => walk_at "hp"))
  | ((with_reducible refine rd_isi (t := ?t) (b := true) ?h ?a ?_); (case h => assumption); (case a => decide +kernel))
  | ((with_reducible refine rd_isi (t := ?t) (b := false) ?h ?a ?_); (case h => assumption); (case a => decide +kernel))
  | (with_reducible refine rd_chain ?_)
  | ((with_reducible refine rd_eqDs (d := ?d) ?h ?k ?s ?_); (case h => walk_at "dp"); (case k => walk_at "dp"); (case s => first | rfl | decide | simp [SeqAt.shaped]))
  | ((with_reducible refine rd_neDs (d := ?d) ?h ?k ?s ?_); (case h => walk_at "dp"); (case k => walk_at "dp"); (case s => first | rfl | decide | simp [SeqAt.shaped]))
  | ((with_reducible refine rd_setL (xs := ?xs) (ys := ?ys) (j := ?j) ?h ?a ?e ?_); (case h => walk_at "hp"); (case a => exact rfl); (case e => exact rfl))))
local macro_rules | `(tactic| walk_at "rdm1") => `(tactic| (first
  | ((with_reducible refine rd_md ?c ?_); (case c => first | omega | decide); intro r r0 r1)
  | walk_at "rd1"))
local macro_rules | `(tactic| walk_at "rdm") => `(tactic| (repeat walk_at "rdm1"))
local macro_rules | `(tactic| walk_at "rd") => `(tactic| (repeat walk_at "rd1"))

/-! ### the drawing -/
theorem prime_at {n : Int} (h0 : 0 ≤ n) (h : n < 7) : ∃ p, atI [V.int 2147483647, V.int 2147483629, V.int 2147483587, V.int 2147483579, V.int 2147483563, V.int 2147483549, V.int 2147483543] n = some (.int p) ∧ 0 < p ∧ p ≤ 2147483647 := by
  obtain ⟨p, e, m⟩ := pick_int (ns := [2147483647, 2147483629, 2147483587, 2147483579, 2147483563, 2147483549, 2147483543]) h0 h
  refine ⟨p, e, ?_⟩
  simp only [List.mem_cons, List.not_mem_nil, or_false] at m
  omega
theorem rd_prime {K : PySem.W.Frag} {H : Hp} {t : Addr} {i : Int} {Q : VK} (h : H t = some (.tup [V.int 2147483647, V.int 2147483629, V.int 2147483587, V.int 2147483579, V.int 2147483563, V.int 2147483549, V.int 2147483543]))
    (h0 : 0 ≤ i) (h1 : i < 7) (q : ∀ p : Int, 0 < p → p ≤ 2147483647 → Q (.int p) H) : rIx K (.ref t) (.int i) H Q := by
  obtain ⟨p, e, p0, p1⟩ := prime_at h0 h1
  exact rd_sxT (SqT.of h) e (q p p0 p1)
def sp__law_bag (K : PySem.W.Frag) : Sp := fun vs H Q _ => ∃ (a : Addr) (ns : List Int) (n : Int), vs = [.ref a, .int n] ∧ Scr K H a (ns.map V.int) ∧ ns.length ≤ 63 ∧ 0 ≤ n ∧ n ≤ 62 ∧
  ∀ b J, H b = none → Same H J → Bag b J → Q (.ref b) J
theorem ar__law_bag (K : PySem.W.Frag) : ∀ vs H Q E, sp__law_bag K vs H Q E → vs.length = 2 := by
  intro vs H Q E h
  obtain ⟨a, ns, n, rfl, _⟩ := h
  rfl
abbrev S__law_bag : Stmt := top 11
abbrev N__law_bag : List Str := ["_law_script", "_law_at", "_law_primes", "_law_cell", "_law_large", "_law_mixed"]
theorem sc__law_bag : FnScope N__law_bag ["_law_script", "_law_at"] (defScope S__law_bag) := ⟨rfl, rfl, rfl, by decide +kernel, rfl, by decide +kernel, by decide +kernel⟩
theorem ok__law_bag {P : Program} {w : World} {K : PySem.W.Frag} {mg : Str → Option Value} {base : Heap} {f : Addr} {fd : FuncData} (F : Fun K "_law_bag" "_law_bag" S__law_bag f fd) (m_abs : mg "abs" = none) (m_len : mg "len" = none) :
    FnG P w K mg base CX0 1 f fd ["_law_script", "_law_at"] (sp__law_bag K) := by
  refine Fun_okG F sc__law_bag (ar__law_bag K) (fun cdv A outer s H vs Q E hg hr h => ?_)
  obtain ⟨a, ns, n, rfl, hS, hl, n0, n1, q⟩ := h
  refine ⟨_, (pss_cons (ps_set (i := 2) sc__law_bag.nd rfl (Or.inl rfl) (pe_tup (pa_cons pe_int (pa_cons pe_int (pa_cons pe_int (pa_cons pe_int (pa_cons pe_int (pa_cons pe_int (pa_cons pe_int pa_nil)))))))))
    (pss_cons (ps_set (i := 3) sc__law_bag.nd rfl (Or.inl rfl) (pe_ifExp (pt_cmpR op_lt (pv 1) (pe_callB (id := "len") (lenK (K := K) rfl) (by rfl) m_len (by decide +kernel) (pa_cons (pv 0) pa_nil)) (nomark _)) (pe_ix (ixK (K := K) rfl) (pv 0) (pv 1) (fun _ _ => rfl)) pe_int))
    (pss_cons (ps_set (i := 4) sc__law_bag.nd rfl (Or.inl rfl) (pe_ifExp (pt_cmpR op_ge (pe_callB (id := "abs") call_abs (by rfl) m_abs (by decide +kernel) (pa_cons (pv 3) pa_nil)) (pe_op op_pow pe_int pe_int) (nomark _)) (pe_callB (id := "abs") call_abs (by rfl) m_abs (by decide +kernel) (pa_cons (pv 3) pa_nil)) pe_int))
    (pss_cons (ps_set (i := 5) sc__law_bag.nd rfl (Or.inl rfl) (pe_op op_modN (pe_op op_pow (pe_op op_add (pe_op op_add (pe_op op_modN (pv 3) pe_int) (pe_op op_ml pe_int (pv 1))) pe_int) pe_int) (pe_ix (ixK (K := K) rfl) (pv 2) (pe_op op_modN (pv 1) pe_int) (fun _ _ => rfl))))
    (pss_one (ps_ret (pe_lst (pa_cons (pv 4) (pa_cons (pe_op op_add (pe_op op_modN (pe_op op_ml (pv 5) (pe_op op_add (pe_op op_add (pe_op op_dv (pv 5) pe_int) (pe_op op_ml pe_int (pv 1))) pe_int)) (pe_ix (ixK (K := K) rfl) (pv 2) (pe_op op_modN (pe_op op_add (pv 1) pe_int) pe_int) (fun _ _ => rfl))) pe_int) pa_nil))))))))), ?_⟩
  walk_at "rd"
  intro t nt
  have hS2 : Scr K (upd H t (.tup [V.int 2147483647, V.int 2147483629, V.int 2147483587, V.int 2147483579, V.int 2147483563, V.int 2147483549, V.int 2147483543])) a (ns.map V.int) := by walk_at "hp"
  walk_at "rd"
  refine rd_if (fun c => ?_) (fun c => ?_)
  · rw [List.length_map] at c
    obtain ⟨v, hv, _⟩ := pick_int (ns := ns) n0 c
    walk_at "rd"
    refine rd_sxL hS2.sq hv ?_
    walk_at "rd"
    refine rd_if (fun c2 => ?_) (fun c2 => ?_)
    all_goals walk_at "rdm"
    all_goals refine rd_prime (by walk_at "hp") (by omega) (by omega) (fun p1 p1a p1b => ?_)
    all_goals walk_at "rdm"
    all_goals refine rd_prime (by walk_at "hp") (by omega) (by omega) (fun p2 p2a p2b => ?_)
    all_goals walk_at "rdm"
    all_goals intro p np
    all_goals exact q _ _ ((same_new nt).free np) ((same_new nt).trans (same_new np)) ⟨_, _, upd_same⟩
  · walk_at "rd"
    refine rd_if (fun c2 => ?_) (fun c2 => ?_)
    all_goals walk_at "rdm"
    all_goals refine rd_prime (by walk_at "hp") (by omega) (by omega) (fun p1 p1a p1b => ?_)
    all_goals walk_at "rdm"
    all_goals refine rd_prime (by walk_at "hp") (by omega) (by omega) (fun p2 p2a p2b => ?_)
    all_goals walk_at "rdm"
    all_goals intro p np
    all_goals exact q _ _ ((same_new nt).free np) ((same_new nt).trans (same_new np)) ⟨_, _, upd_same⟩
def sp__law_take (K : PySem.W.Frag) : Sp := fun vs H Q _ => ∃ (b : Addr) (n : Int), vs = [.ref b, .int n] ∧ Bag b H ∧ 0 < n ∧ n.natAbs < 2 ^ 400 ∧ ∀ (r : Int) J, 0 ≤ r → r < n → Kp b H J → Bag b J → Q (.int r) J
theorem ar__law_take (K : PySem.W.Frag) : ∀ vs H Q E, sp__law_take K vs H Q E → vs.length = 2 := by
  intro vs H Q E h
  obtain ⟨b, n, rfl, _⟩ := h
  rfl
abbrev S__law_take : Stmt := top 12
abbrev N__law_take : List Str := ["_law_bag_here", "_law_size", "_law_digit"]
theorem sc__law_take : FnScope N__law_take ["_law_bag_here", "_law_size"] (defScope S__law_take) := ⟨rfl, rfl, rfl, by decide +kernel, rfl, by decide +kernel, by decide +kernel⟩
theorem ok__law_take {P : Program} {w : World} {K : PySem.W.Frag} {mg : Str → Option Value} {base : Heap} {f : Addr} {fd : FuncData} (F : Fun K "_law_take" "_law_take" S__law_take f fd) :
    FnG P w K mg base CX0 1 f fd ["_law_bag_here", "_law_size"] (sp__law_take K) := by
  refine Fun_okG F sc__law_take (ar__law_take K) (fun cdv A outer s H vs Q E hg hr h => ?_)
  obtain ⟨b, n, rfl, ⟨x, y, hb⟩, n0, n1, q⟩ := h
  refine ⟨_, (pss_cons (ps_if (pt_cmpR op_gt (pe_ix (ixK (K := K) rfl) (pv 0) pe_int (fun _ _ => rfl)) pe_int (nomark _)) (pss_cons (ps_set (i := 2) sc__law_take.nd rfl (Or.inl rfl) (pe_op op_modN (pe_ix (ixK (K := K) rfl) (pv 0) pe_int (fun _ _ => rfl)) (pv 1)))
    (pss_cons (ps_asg (pe_op op_dv (pe_ix (ixK (K := K) rfl) (pv 0) pe_int (fun _ _ => rfl)) (pv 1)) (pg_sub (pv 0) pe_int set_list))
    (pss_one (ps_ret (pv 2))))) pss_nil)
    (pss_cons (ps_asg (pe_op op_modN (pe_op op_ml (pe_ix (ixK (K := K) rfl) (pv 0) pe_int (fun _ _ => rfl)) pe_int) pe_int) (pg_sub (pv 0) pe_int set_list))
    (pss_one (ps_ret (pe_op op_modN (pe_op op_dv (pe_op op_modN (pe_op op_ml (pe_ix (ixK (K := K) rfl) (pv 0) pe_int (fun _ _ => rfl)) pe_int) pe_int) (pe_op op_pow pe_int pe_int)) (pv 1)))))), ?_⟩
  walk_at "rd"
  refine rd_if (fun c => ?_) (fun c => ?_)
  · walk_at "rd"
    exact q _ _ (fmod_rng n0).1 (fmod_rng n0).2 Kp.at ⟨_, _, upd_same⟩
  · walk_at "rd"
    exact q _ _ (fmod_rng n0).1 (fmod_rng n0).2 Kp.at ⟨_, _, upd_same⟩
def sp__law_part (K : PySem.W.Frag) : Sp := fun vs H Q _ => ∃ m n : Int, vs = [.int m, .int n] ∧ Q (.int (Int.gcd m n)) H
theorem ar__law_part (K : PySem.W.Frag) : ∀ vs H Q E, sp__law_part K vs H Q E → vs.length = 2 := by
  intro vs H Q E h
  obtain ⟨b, n, rfl, _⟩ := h
  rfl
abbrev S__law_part : Stmt := top 13
abbrev N__law_part : List Str := ["_law_one", "_law_other"]
theorem sc__law_part : FnScope N__law_part ["_law_one", "_law_other"] (defScope S__law_part) := ⟨rfl, rfl, rfl, by decide +kernel, rfl, by decide +kernel, by decide +kernel⟩
theorem ok__law_part {P : Program} {w : World} {K : PySem.W.Frag} {mg : Str → Option Value} {base : Heap} {f : Addr} {fd : FuncData} (F : Fun K "_law_part" "_law_part" S__law_part f fd) (m_abs : mg "abs" = none) :
    FnG P w K mg base CX0 1 f fd ["_law_one", "_law_other"] (sp__law_part K) := by
  refine Fun_okG F sc__law_part (ar__law_part K) (fun cdv A outer s H vs Q E hg hr h => ?_)
  obtain ⟨m, n, rfl, q⟩ := h
  refine ⟨_, (pss_cons (ps_while PassesOwn.never (pt_cmpR op_ne (pv 1) pe_int (nomark _)) (pss_one (ps_par (i := 0) (j := 1) rfl sc__law_part.nd rfl rfl (by decide) rfl rfl (pa_cons (pv 1) (pa_cons (pe_op op_modN (pv 0) (pv 1)) pa_nil)) (by rfl))))
    (pss_one (ps_ret (pe_callB (id := "abs") call_abs (by rfl) m_abs (by decide +kernel) (pa_cons (pv 0) pa_nil))))), ?_⟩
  walk_at "rd"
  refine while_by (fun σ' H' => ∃ x y : Int, σ' = [some (.int x), some (.int y)] ∧ H' = H ∧ Int.gcd x y = Int.gcd m n) (fun σ' _ => msr σ') ⟨m, n, rfl, rfl, rfl⟩ (fun σ' H' w => ?_) fun σ' H' R R' f h => ?_
  · obtain ⟨x, y, rfl, rfl, e⟩ := w
    walk_at "rd"
    refine rd_ifn (fun c => ?_) (fun c => ?_)
    · walk_at "rd"
      exact ⟨⟨_, _, rfl, rfl, by rw [gcd_turn]; exact e⟩, fmod_abs c⟩
    · subst c
      walk_at "rd"
      have e2 : (if x < 0 then -x else x) = ((Int.gcd m n : Nat) : Int) := by
        rw [← e, Int.gcd_zero_right]
        split <;> omega
      rw [e2]
      exact q
  · obtain ⟨v, h1, h2, k, h3, h4⟩ := h
    exact ⟨v, h1, h2, k, h3, f _ _ h4⟩

def sp__law_lowest (K : PySem.W.Frag) : Sp := fun vs H Q _ => ∃ t u : Int, vs = [.int t, .int u] ∧ u ≠ 0 ∧ Bd 8000 u ∧ ∀ x y p J, IsLow t u x y → H p = none → Same H J → J p = some (.tup [.int x, .int y]) → Q (.ref p) J
theorem ar__law_lowest (K : PySem.W.Frag) : ∀ vs H Q E, sp__law_lowest K vs H Q E → vs.length = 2 := by
  intro vs H Q E h
  obtain ⟨b, n, rfl, _⟩ := h
  rfl
abbrev S__law_lowest : Stmt := top 14
abbrev N__law_lowest : List Str := ["_law_top", "_law_under", "_law_part_here"]
theorem sc__law_lowest : FnScope N__law_lowest ["_law_top", "_law_under"] (defScope S__law_lowest) := ⟨rfl, rfl, rfl, by decide +kernel, rfl, by decide +kernel, by decide +kernel⟩
theorem ok__law_lowest {P : Program} {w : World} {K : PySem.W.Frag} {mg : Str → Option Value} {base : Heap} {f : Addr} {fd : FuncData} (F : Fun K "_law_lowest" "_law_lowest" S__law_lowest f fd) {f__law_part : Addr} {fd__law_part : FuncData} (C__law_part : Cal P w K mg base "_law_part" 1 f__law_part fd__law_part ["_law_one", "_law_other"] (sp__law_part K)) :
    FnG P w K mg base CX0 2 f fd ["_law_top", "_law_under"] (sp__law_lowest K) := by
  refine Fun_okG F sc__law_lowest (ar__law_lowest K) (fun cdv A outer s H vs Q E hg hr h => ?_)
  obtain ⟨t, u, rfl, u0, hu, q⟩ := h
  refine ⟨_, (pss_cons (ps_set (i := 2) sc__law_lowest.nd rfl (Or.inl rfl) (pe_c C__law_part hg (hr.mono (by decide)) rfl (pa_cons (pv 0) (pa_cons (pv 1) pa_nil))))
    (pss_cons (ps_if (pt_cmpR op_lt (pv 1) pe_int (nomark _)) (pss_one (ps_set (i := 2) sc__law_lowest.nd rfl (Or.inl rfl) (pe_un un_neg (pv 2)))) pss_nil)
    (pss_one (ps_ret (pe_tup (pa_cons (pe_op op_dv (pv 0) (pv 2)) (pa_cons (pe_op op_dv (pv 1) (pv 2)) pa_nil))))))), ?_⟩
  walk_at "rd"
  refine ⟨t, u, rfl, ?_⟩
  walk_at "rd"
  refine rd_if (fun c => ?_) (fun c => ?_)
  · walk_at "rd"
    obtain ⟨h1, h2, h3⟩ := low_at (t := t) u0 (s := -((Int.gcd t u : Nat) : Int)) (by rw [if_pos c])
    refine rd_I (rd_dvB _ h2 (hu.le h3)) ?_
    walk_at "rd"
    refine rd_I (rd_dvB _ h2 (hu.le h3)) ?_
    walk_at "rd"
    intro p np
    exact q _ _ _ _ h1 np (same_new np) upd_same
  · walk_at "rd"
    obtain ⟨h1, h2, h3⟩ := low_at (t := t) u0 (s := ((Int.gcd t u : Nat) : Int)) (by rw [if_neg c])
    refine rd_I (rd_dvB _ h2 (hu.le h3)) ?_
    walk_at "rd"
    refine rd_I (rd_dvB _ h2 (hu.le h3)) ?_
    walk_at "rd"
    intro p np
    exact q _ _ _ _ h1 np (same_new np) upd_same

local macro_rules | `(tactic| walk_at "hp_6") => `(tactic| (first
  | assumption
  | exact L2.upd_same
  | (with_reducible exact TupC.sq (by assumption) _)
  | ((with_reducible refine SqT.of ?h); (case h => walk_at "hp_6"))
  | ((with_reducible refine sqt_same (H := ?hh) ?k ?h); (case k => assumption); (case h => walk_at "hp_6"))
  | ((with_reducible refine sqt_bag (b := ?bb) (H := ?hh) ?k ?g ?h); (case k => assumption); (case g => walk_at "hp_6"); (case h => walk_at "hp_6"))
  | ((with_reducible refine sqt_pu (l := ?ll) (H := ?hh) ?k ?h); (case k => assumption); (case h => walk_at "hp_6"))
  | ((with_reducible refine sqt_new ?k ?h); (case k => assumption); (case h => walk_at "hp_6"))
  | ((with_reducible refine SqL.of ?h); (case h => walk_at "hp_6"))
  | ((with_reducible refine Scr.sq ?h); (case h => walk_at "hp_6"))
  | ((with_reducible refine Bag.new ?h ?k); (case h => walk_at "hp_6"); (case k => assumption))
  | ((with_reducible refine Scr.new ?k ?h); (case k => assumption); (case h => walk_at "hp_6"))
  | ((with_reducible refine Scr.kp (b := ?bb) (H := ?hh) ?k ?g ?h); (case k => assumption); (case g => walk_at "hp_6"); (case h => walk_at "hp_6"))
  | ((with_reducible refine Bag.same (H := ?hh) ?k ?h); (case k => assumption); (case h => walk_at "hp_6"))
  | ((with_reducible refine Scr.same (H := ?hh) ?k ?h); (case k => assumption); (case h => walk_at "hp_6"))
  | ((with_reducible refine same_any (H := ?hh) ?k ?h); (case k => assumption); (case h => walk_at "hp_6"))
  | ((with_reducible refine new_any ?k ?h); (case k => assumption); (case h => walk_at "hp_6"))
  | ((with_reducible refine set_tup (ys := ?ys) ?k ?h); (case k => assumption); (case h => walk_at "hp_6"))
  | ((with_reducible refine Bag.put ?k ?h); (case k => assumption); (case h => walk_at "hp_6"))
  | ((with_reducible refine Kp.tup (b := ?bb) (H := ?hh) ?k ?g ?h); (case k => assumption); (case g => walk_at "hp_6"); (case h => walk_at "hp_6"))
  | ((with_reducible refine Pu.bag (l := ?ll) (H := ?hh) ?k ?n ?h); (case k => assumption); (case n => walk_at "hp_6"); (case h => walk_at "hp_6"))
  | ((with_reducible refine Pu.scr (l := ?ll) (H := ?hh) ?k ?h); (case k => assumption); (case h => walk_at "hp_6"))
  | ((with_reducible refine Pu.tup (l := ?ll) (H := ?hh) ?k ?h); (case k => assumption); (case h => walk_at "hp_6"))
  | ((with_reducible refine Pu.lst (l := ?ll) (H := ?hh) ?k ?n ?h); (case k => assumption); (case n => walk_at "hp_6"); (case h => walk_at "hp_6"))
  | ((with_reducible refine Kp.lst (b := ?bb) (H := ?hh) ?k ?g ?h); (case k => assumption); (case g => walk_at "hp_6"); (case h => walk_at "hp_6"))
  | ((with_reducible refine Bag.off (H := ?hh) ?h ?g); (case h => assumption); (case g => walk_at "hp_6"))
  | (with_reducible exact Kp.refl)
  | (with_reducible exact Kp.new (by assumption))))
local macro_rules | `(tactic| walk_at "dp_6") => `(tactic| (first
  | exact Dp.int _
  | exact Dp.bl _
  | exact Dp.non
  | exact Dp.str _
  | exact DpAll.nil
  | ((refine DpAll.cons (d := ?d) (ds := ?ds) ?h ?k); (case h => walk_at "dp_6"); (case k => walk_at "dp_6"))
  | ((refine Dp.lst (xs := ?xs) (ds := ?ds) ?h ?k); (case h => walk_at "hp_6"); (case k => walk_at "dp_6"))
  | ((refine Dp.tup (xs := ?xs) (ds := ?ds) ?h ?k); (case h => walk_at "hp_6"); (case k => walk_at "dp_6"))))
local macro_rules | `(tactic| walk_at "small_6") => `(tactic| first | decide +kernel | (simp only [sm, sms, sz, szs, Bool.and_true, Bool.and_eq_true, decide_eq_true_eq, and_true, true_and]; (first | done | omega | (repeat' constructor) <;> first | omega | decide +kernel)))
local macro_rules | `(tactic| walk_at "side_6") => `(tactic| (first
  | ((with_reducible show IntMulOk _ _); first | exact rd_mulB (by assumption) (by assumption) | (refine rd_mulok ?_; omega))
  | ((with_reducible show CDv _ _); exact rd_dvB _ (Int.ne_of_gt (by assumption)) (by assumption))
  | ((with_reducible show CDv _ _); refine rd_dvI _ ?_ ?_ <;> first | assumption | omega | decide)
  | ((with_reducible show CPow _ _); exact ⟨by decide, by decide, by first | decide | omega⟩)
  | omega
  | assumption
  | decide
  | (refine rd_mulB (m := 400) (n := 400) (Bd.lit ?_) (Bd.lit ?_) <;> decide +kernel)))
local macro_rules | `(tactic| walk_at "rd1_6") => `(tactic| (first
  | ((with_reducible refine rd_var (v := ?v) ?h ?_); (case h => exact rfl))
  | (with_reducible refine rd_c ?_)
  | (with_reducible refine rd_op ?_)
  | (with_reducible refine rd_cons ?_)
  | (with_reducible refine rd_nil ?_)
  | ((with_reducible refine rd_sxT (xs := ?xs) (v := ?v) ?h ?a ?_); (case h => walk_at "hp_6"); (case a => exact rfl))
  | ((with_reducible refine rd_sxL (xs := ?xs) (v := ?v) ?h ?a ?_); (case h => walk_at "hp_6"); (case a => exact rfl))
  | (with_reducible refine rd_I0 ?_)
  | ((with_reducible refine rd_I ?c ?_); (case c => walk_at "side_6"))
  | ((with_reducible refine rd_name (τ := ?t) ?e ?_); (case e => exact rfl))
  | (with_reducible refine rd_seq ?_)
  | (with_reducible refine rd_asg ?_)
  | (with_reducible refine rd_asg2 ?_)
  | ((with_reducible refine rd_aug (a := ?a) ?h ?_); (case h => exact rfl))
  | ((with_reducible refine rd_ipI (a := ?a) (b := ?b) ?_))
  | (with_reducible refine rd_call ?_)
  | (with_reducible refine rd_callK ?_)
  | ((with_reducible refine rd_kwl ?h ?_); (case h => exact rfl))
  | (with_reducible refine rd_CB ?_)
  | (with_reducible refine rd_tupK ?_)
  | ((with_reducible refine rd_kT ?h ?_); (case h => exact rfl); intro p J np sJ eJ)
  | ((with_reducible refine rd_new ?h ?_); (case h => exact rfl))
  | (with_reducible refine rd_test ?_)
  | (with_reducible refine rd_bl ?_)
  | (with_reducible refine rd_U ?_)
  | (with_reducible refine rd_un ?_)
  | (with_reducible refine rd_neI ?_)
  | (with_reducible refine rd_eqI ?_)
  | (with_reducible refine rd_tpar ?_)
  | (with_reducible refine rd_tpar3 ?_)
  | (with_reducible refine rd_forL ?_)
  | ((with_reducible refine rd_par3 (τ := ?t) ?e ?_); (case e => exact rfl))
  | (with_reducible refine rd_sl ?_)
  | (with_reducible refine rd_part ?_)
  | (with_reducible refine rd_partI ?_)
  | (with_reducible refine rd_nopart ?_)
  | ((with_reducible refine rd_slL (xs := ?xs) (ys := ?ys) ?h ?e ?_); (case h => walk_at "hp_6"); (case e => exact rfl); intro p J np sJ eJ)
  | (with_reducible refine rd_zip ?_)
  | ((with_reducible refine rd_zipA (xs := ?xs) (ys := ?ys) ?h ?k ?_); (case h => walk_at "hp_6"); (case k => walk_at "hp_6"))
  | ((with_reducible refine rd_isiQ (b := true) (xs := ?xs) ?h ?a ?_); (case a => decide +kernel); (case h => walk_at "hp_6"))
  | ((with_reducible refine rd_isiQ (b := false) (xs := ?xs) ?h ?a ?_); (case a => decide +kernel); (case h => walk_at "hp_6"))
  | (with_reducible refine rd_lc ?_)
  | (with_reducible refine rd_iTup ?_)
  | (with_reducible refine rd_iLst ?_)
  | (with_reducible refine rd_iR1 ?_)
  | (with_reducible refine rd_BM ?_)
  | ((with_reducible refine rd_iTupA (xs := ?xs) ?h ?_); (case h => walk_at "hp_6"))
  | ((with_reducible refine rd_iLstA (xs := ?xs) ?h ?_); (case h => walk_at "hp_6"))
  | ((with_reducible refine rd_tyl (xs := ?xs) ?h ?_); (case h => walk_at "hp_6"))
  | ((with_reducible refine rd_appK (xs := ?xs) ?h ?a ?_); (case h => walk_at "hp_6"); (case a => exact Nat.le_of_ble_eq_true rfl); intro J pJ eJ)
  | ((with_reducible refine rd_catK (xs := ?xs) (zs := ?zs) ?h ?k ?a ?_); (case h => walk_at "hp_6"); (case k => walk_at "hp_6"); (case a => exact Nat.le_of_ble_eq_true rfl); intro p J np sJ eJ)
  | ((with_reducible refine rd_repK (xs := ?xs) (ys := ?ys) ?h ?a ?b ?c ?_); (case h => walk_at "hp_6"); (case a => decide); (case b => exact Nat.le_of_ble_eq_true rfl); (case c => exact rfl); intro p J np sJ eJ)
  | (with_reducible refine rd_ret ?_)
  | (with_reducible refine rd_next ?_)
  | (with_reducible refine rd_drop ?_)
  | (with_reducible refine rd_ifS ?_)
  | (with_reducible refine rd_B ?_)
  | (with_reducible refine rd_not ?_)
  | (with_reducible refine rd_and ?_)
  | (with_reducible refine rd_or ?_)
  | (with_reducible refine rd_andV ?_)
  | (with_reducible refine rd_orV ?_)
  | (with_reducible refine rd_notV ?_)
  | (with_reducible refine rd_ifE ?_)
  | (with_reducible refine rd_lstK ?_)
  | ((with_reducible refine rd_kL ?h ?_); (case h => exact rfl); intro p J np sJ eJ)
  | ((with_reducible refine rd_for1b ?h ?_); (case h => constructor <;> (repeat' split) <;> omega))
  | (with_reducible refine rd_one ?_)
  | (with_reducible refine rd_two ?_)
  | (with_reducible refine rd_int ?_)
  | (with_reducible refine rd_intB ?_)
  | (with_reducible refine rd_gcd ?_)
  | ((with_reducible refine rd_par (τ := ?t) ?e ?_); (case e => exact rfl))
  | (with_reducible refine rd_sub ?_)
  | (with_reducible refine rd_for1 ?_)
  | ((with_reducible refine rd_len (ys := ?ys) ?h ?_); (case h => walk_at "hp_6"))
  | ((with_reducible refine rd_lenTu (ys := ?ys) ?h ?_); (case h => walk_at "hp_6"))
  | ((with_reducible refine rd_repr (d := ?d) ?h ?a ?b ?c ?_); (case h => walk_at "dp_6"); (case a => walk_at "small_6"); (case b => walk_at "small_6"); (case c => simp only [PyData.depth, PyData.depthAll]; omega))
  | ((with_reducible refine rd_nsame ?h ?_); (case h => exact rfl))
  | ((with_reducible refine rd_same ?h ?_); (case h => exact rfl))
  | ((with_reducible refine rd_gtup (xs := ?xs) ?h ?a ?_); (case h => walk_at "hp_6"); (case a => exact rfl))
  | (with_reducible refine rd_gcons ?_)
  | (with_reducible refine rd_gnil ?_)
  | ((with_reducible refine rd_isiI (b := true) ?a ?_); (case a => decide +kernel))
  | ((with_reducible refine rd_isiI (b := false) ?a ?_); (case a => decide +kernel))
  | ((with_reducible refine rd_isiB (b := true) ?a ?_); (case a => decide +kernel))
  | ((with_reducible refine rd_isiB (b := false) ?a ?_); (case a => decide +kernel))
  | ((with_reducible refine rd_isiN (b := true) ?a ?_); (case a => decide +kernel))
  | ((with_reducible refine rd_isiN (b := false) ?a ?_); (case a => decide +kernel))
  | ((with_reducible refine rd_isiS (b := true) ?a ?_); (case a => decide +kernel))
  | ((with_reducible refine rd_isiS (b := false) ?a ?_); (case a => decide +kernel))
  | ((with_reducible refine rd_isiT (b := true) (xs := ?xs) ?h ?a ?_); (case a => decide +kernel); (case h => walk_at "hp_6"))
  | ((with_reducible refine rd_isiT (b := false) (xs := ?xs) ?h ?a ?_); (case a => decide +kernel); (case h => walk_at "hp_6"))
  | ((with_reducible refine rd_isiL (b := true) (xs := ?xs) ?h ?a ?_); (case a => decide +kernel); (case h => walk_at "hp_6"))
  | ((with_reducible refine rd_isiL (b := false) (xs := ?xs) ?h ?a ?_); (case a => decide +kernel); (case h => walk_at "hp_6"))
  | ((with_reducible refine rd_isi (t := ?t) (b := true) ?h ?a ?_); (case h => assumption); (case a => decide +kernel))
  | ((with_reducible refine rd_isi (t := ?t) (b := false) ?h ?a ?_); (case h => assumption); (case a => decide +kernel))
  | (with_reducible refine rd_chain ?_)
  | ((with_reducible refine rd_eqR (x := ?x) (y := ?y) (u := ?u) (v := ?v) ?h ?k ?_); (case h => walk_at "hp_6"); (case k => walk_at "hp_6"))
  | ((with_reducible refine rd_eqDs (d := ?d) ?h ?k ?s ?_); (case h => walk_at "dp_6"); (case k => walk_at "dp_6"); (case s => first | rfl | decide | simp [SeqAt.shaped]))
  | ((with_reducible refine rd_neDs (d := ?d) ?h ?k ?s ?_); (case h => walk_at "dp_6"); (case k => walk_at "dp_6"); (case s => first | rfl | decide | simp [SeqAt.shaped]))
  | ((with_reducible refine rd_setL (xs := ?xs) (ys := ?ys) (j := ?j) ?h ?a ?e ?_); (case h => walk_at "hp_6"); (case a => exact rfl); (case e => exact rfl))))
local macro_rules | `(tactic| walk_at "rdm1_6") => `(tactic| (first
  | ((with_reducible refine rd_md ?c ?_); (case c => first | omega | decide); intro r r0 r1)
  | walk_at "rd1_6"))
local macro_rules | `(tactic| walk_at "rdm_6") => `(tactic| (repeat walk_at "rdm1_6"))
local macro_rules | `(tactic| walk_at "rd_6") => `(tactic| (repeat walk_at "rd1_6"))
local macro_rules | `(tactic| walk_at "kp_6") => `(tactic| (first
  | exact Kp.refl
  | assumption
  | ((refine Kp.trans (J := ?m) ?a ?b); (case b => first | assumption | exact Kp.of (by assumption)); (case a => walk_at "kp_6"))))

/-! ### is_int, is_ratio -/
def IsTy (K : PySem.W.Frag) (H : Hp) (v : V) (t : String) : Prop := TyX K H v (.type t) ∧ (t = "NoneType" ∨ t = "bool" ∨ t = "int" ∨ t = "str" ∨ t = "list" ∨ t = "tuple")
def sp_is_int (K : PySem.W.Frag) : Sp := fun vs H Q _ => ∃ v t, vs = [v] ∧ IsTy K H v t ∧ Q (.bl (decide (t = "int"))) H
theorem ar_is_int (K : PySem.W.Frag) : ∀ vs H Q E, sp_is_int K vs H Q E → vs.length = 1 := by
  intro vs H Q E h
  obtain ⟨v, t, rfl, _⟩ := h
  rfl
abbrev S_is_int : Stmt := top 4
abbrev N_is_int : List Str := ["thing"]
theorem sc_is_int : FnScope N_is_int ["thing"] (defScope S_is_int) := ⟨rfl, rfl, rfl, by decide +kernel, rfl, by decide +kernel, by decide +kernel⟩
theorem ok_is_int {P : Program} {w : World} {K : PySem.W.Frag} {mg : Str → Option Value} {base : Heap} {f : Addr} {fd : FuncData} (F : Fun K "is_int" "is_int" S_is_int f fd) (m_isinstance : mg "isinstance" = none) (m_bool : mg "bool" = none) (m_int : mg "int" = none) :
    FnG P w K mg base CX0 1 f fd ["thing"] (sp_is_int K) := by
  refine Fun_okG F sc_is_int (ar_is_int K) (fun cdv A outer s H vs Q E hg hr h => ?_)
  obtain ⟨v, t, rfl, ⟨ty, ht⟩, q⟩ := h
  refine ⟨_, (pss_one (ps_ret (pe_and (pe_callB (id := "isinstance") (isiK (K := K) rfl) (by rfl) m_isinstance (by decide +kernel) (pa_cons (pv 0) (pa_cons (pe_bltn (v := V.ty "int") (u := Value.type "int") (by rfl) m_int (by decide +kernel) rfl) pa_nil))) (pe_one (pe_not (pe_callB (id := "isinstance") (isiK (K := K) rfl) (by rfl) m_isinstance (by decide +kernel) (pa_cons (pv 0) (pa_cons (pe_bltn (v := V.ty "bool") (u := Value.type "bool") (by rfl) m_bool (by decide +kernel) rfl) pa_nil)))))))), ?_⟩
  rcases ht with rfl | rfl | rfl | rfl | rfl | rfl
  · walk_at "rd_6"
    refine iteF ?_
    exact q
  · walk_at "rd_6"
    refine iteT ?_
    walk_at "rd_6"
    exact q
  · walk_at "rd_6"
    refine iteT ?_
    walk_at "rd_6"
    exact q
  · walk_at "rd_6"
    refine iteF ?_
    exact q
  · walk_at "rd_6"
    refine iteF ?_
    exact q
  · walk_at "rd_6"
    refine iteF ?_
    exact q

theorem one_lit : Bd 1000 1 := Bd.lit (by decide +kernel)
theorem zero_lit : Bd 1000 0 := Bd.lit (by decide +kernel)
def sp_is_ratio (K : PySem.W.Frag) : Sp := fun vs H Q _ => ∃ v t b, vs = [v] ∧ ThAt K b H v t ∧ Q (.bl (isRat t)) H
theorem ar_is_ratio (K : PySem.W.Frag) : ∀ vs H Q E, sp_is_ratio K vs H Q E → vs.length = 1 := by
  intro vs H Q E h
  obtain ⟨v, t, b, rfl, _⟩ := h
  rfl
abbrev S_is_ratio : Stmt := top 5
abbrev N_is_ratio : List Str := ["thing", "top", "under"]
theorem sc_is_ratio : FnScope N_is_ratio ["thing"] (defScope S_is_ratio) := ⟨rfl, rfl, rfl, by decide +kernel, rfl, by decide +kernel, by decide +kernel⟩
theorem ok_is_ratio {P : Program} {w : World} {K : PySem.W.Frag} {mg : Str → Option Value} {base : Heap} {f : Addr} {fd : FuncData} (F : Fun K "is_ratio" "is_ratio" S_is_ratio f fd) {f_is_int : Addr} {fd_is_int : FuncData} (C_is_int : Cal P w K mg base "is_int" 1 f_is_int fd_is_int ["thing"] (sp_is_int K)) (c_gcd : mg "gcd" = some (.builtin "math.gcd")) (m_len : mg "len" = none) (m_isinstance : mg "isinstance" = none) (m_tuple : mg "tuple" = none) :
    FnG P w K mg base CX0 2 f fd ["thing"] (sp_is_ratio K) := by
  refine Fun_okG F sc_is_ratio (ar_is_ratio K) (fun cdv A outer s H vs Q E hg hr h => ?_)
  obtain ⟨v, t, b, rfl, hv, q⟩ := h
  refine ⟨_, (pss_cons (ps_if (pt_not (PW.pt (pw_and (pt_val (pe_callB (id := "isinstance") (isiK (K := K) rfl) (by rfl) m_isinstance (by decide +kernel) (pa_cons (pv 0) (pa_cons (pe_bltn (v := V.ty "tuple") (u := Value.type "tuple") (by rfl) m_tuple (by decide +kernel) rfl) pa_nil)))) (pw_and1 (pt_cmpR op_eq (pe_callB (id := "len") (lenK (K := K) rfl) (by rfl) m_len (by decide +kernel) (pa_cons (pv 0) pa_nil)) pe_int (nomark _)))))) (pss_one (ps_ret pe_bl)) pss_nil)
    (pss_cons (ps_asg (pv 0) (pg_tup rfl (pgs_cons (pg_name (i := 1) sc_is_ratio.nd rfl (Or.inl rfl)) (pgs_cons (pg_name (i := 2) sc_is_ratio.nd rfl (Or.inl rfl)) pgs_nil))))
    (pss_cons (ps_if (pt_not (PW.pt (pw_and (pt_val (pe_c C_is_int hg (hr.mono (by decide)) rfl (pa_cons (pv 1) pa_nil))) (pw_and1 (pt_val (pe_c C_is_int hg (hr.mono (by decide)) rfl (pa_cons (pv 2) pa_nil))))))) (pss_one (ps_ret pe_bl)) pss_nil)
    (pss_one (ps_ret (pe_and (pe_cmpR op_gt (pv 2) pe_int (nomark _)) (pe_one (pe_cmpR op_eq (pe_callBfun cr_gcd rfl c_gcd (pa_cons (pv 1) (pa_cons (pv 2) pa_nil))) pe_int (nomark _))))))))), ?_⟩
  cases hv with
  | non =>
    walk_at "rd_6"
    refine iteF ?_
    refine iteT ?_
    walk_at "rd_6"
    exact q
  | bl c =>
    walk_at "rd_6"
    refine iteF ?_
    refine iteT ?_
    walk_at "rd_6"
    exact q
  | int i hi =>
    walk_at "rd_6"
    refine iteF ?_
    refine iteT ?_
    walk_at "rd_6"
    exact q
  | str x =>
    walk_at "rd_6"
    refine iteF ?_
    refine iteT ?_
    walk_at "rd_6"
    exact q
  | lst n e k =>
    walk_at "rd_6"
    refine iteF ?_
    refine iteT ?_
    walk_at "rd_6"
    exact q
  | @tup a xs ts e k =>
    by_cases c : xs.length = 2
    · cases k with
      | nil => simp at c
      | @cons u us t1 _ h1 k =>
        cases k with
        | nil => simp at c
        | @cons w ws t2 _ h2 k =>
          cases k with
          | cons _ _ => simp at c
          | nil =>
            walk_at "rd_6"
            refine iteT ?_
            walk_at "rd_6"
            refine iteF ?_
            walk_at "rd_6"
            refine ⟨u, tyN t1, rfl, ⟨h1.ty, tyN_in t1⟩, ?_⟩
            walk_at "rd_6"
            by_cases i1 : tyN t1 = "int"
            · rw [decide_eq_true i1]
              refine iteT ?_
              walk_at "rd_6"
              refine ⟨w, tyN t2, rfl, ⟨h2.ty, tyN_in t2⟩, ?_⟩
              walk_at "rd_6"
              by_cases i2 : tyN t2 = "int"
              · rw [decide_eq_true i2]
                obtain ⟨x, rfl⟩ := tyN_int.mp i1
                obtain ⟨y, rfl⟩ := tyN_int.mp i2
                cases h1
                cases h2
                refine iteF ?_
                rw [isRat_int] at q
                walk_at "rd_6"
                refine rd_if (fun c => ?_) (fun c => ?_)
                · walk_at "rd_6"
                  have e : (decide (((Nat.gcd x.natAbs y.natAbs : Nat) : Int) = 1)) = (decide (0 < y) && decide (Int.gcd x y = 1)) := by
                    rw [decide_eq_true c, Bool.true_and]
                    exact decide_eq_decide.mpr (by show ((Int.gcd x y : Nat) : Int) = 1 ↔ _; omega)
                  rw [e]
                  exact q
                · rw [decide_eq_false c, Bool.false_and] at q
                  exact q
              · rw [decide_eq_false i2]
                rw [isRat_two fun z => i2 z.2] at q
                refine iteT ?_
                walk_at "rd_6"
                exact q
            · rw [decide_eq_false i1]
              rw [isRat_two fun z => i1 z.1] at q
              refine iteF ?_
              refine iteT ?_
              walk_at "rd_6"
              exact q
    · have lk := k.len
      rw [isRat_len (by omega)] at q
      walk_at "rd_6"
      refine iteT ?_
      walk_at "rd_6"
      rw [decide_eq_false (show ¬ ((xs.length : Int) = 2) by omega)]
      refine iteT ?_
      walk_at "rd_6"
      exact q
def sp_is_less (K : PySem.W.Frag) : Sp := fun vs H Q _ => ∃ (p q : Addr) (x y u v : Int), vs = [.ref p, .ref q] ∧ SqT K H p [.int x, .int y] ∧ SqT K H q [.int u, .int v] ∧ Bd 1000 x ∧ Bd 1000 y ∧ Bd 1000 u ∧ Bd 1000 v ∧ Q (.bl (decide (x * v < u * y))) H
theorem ar_is_less (K : PySem.W.Frag) : ∀ vs H Q E, sp_is_less K vs H Q E → vs.length = 2 := by
  intro vs H Q E h
  obtain ⟨p, q, x, y, u, v, rfl, _⟩ := h
  rfl
abbrev S_is_less : Stmt := top 6
abbrev N_is_less : List Str := ["one", "other"]
theorem sc_is_less : FnScope N_is_less ["one", "other"] (defScope S_is_less) := ⟨rfl, rfl, rfl, by decide +kernel, rfl, by decide +kernel, by decide +kernel⟩
theorem ok_is_less {P : Program} {w : World} {K : PySem.W.Frag} {mg : Str → Option Value} {base : Heap} {f : Addr} {fd : FuncData} (F : Fun K "is_less" "is_less" S_is_less f fd) :
    FnG P w K mg base CX0 1 f fd ["one", "other"] (sp_is_less K) := by
  refine Fun_okG F sc_is_less (ar_is_less K) (fun cdv A outer s H vs Q E hg hr h => ?_)
  obtain ⟨p, q, x, y, u, v, rfl, hp, hq, bx, by_, bu, bv, k⟩ := h
  refine ⟨_, (pss_one (ps_ret (pe_cmpR op_lt (pe_op op_ml (pe_ix (ixK (K := K) rfl) (pv 0) pe_int (fun _ _ => rfl)) (pe_ix (ixK (K := K) rfl) (pv 1) pe_int (fun _ _ => rfl))) (pe_op op_ml (pe_ix (ixK (K := K) rfl) (pv 1) pe_int (fun _ _ => rfl)) (pe_ix (ixK (K := K) rfl) (pv 0) pe_int (fun _ _ => rfl))) (nomark _)))), ?_⟩
  walk_at "rd_6"
  exact k
def sp__is_span (K : PySem.W.Frag) : Sp := fun vs H Q _ => ∃ v t b, vs = [v] ∧ ThAt K b H v t ∧ Q (.bl (isSpan t)) H
theorem ar__is_span (K : PySem.W.Frag) : ∀ vs H Q E, sp__is_span K vs H Q E → vs.length = 1 := by
  intro vs H Q E h
  obtain ⟨v, t, b, rfl, _⟩ := h
  rfl
abbrev S__is_span : Stmt := top 8
abbrev N__is_span : List Str := ["thing", "low", "high"]
theorem sc__is_span : FnScope N__is_span ["thing"] (defScope S__is_span) := ⟨rfl, rfl, rfl, by decide +kernel, rfl, by decide +kernel, by decide +kernel⟩
theorem ok__is_span {P : Program} {w : World} {K : PySem.W.Frag} {mg : Str → Option Value} {base : Heap} {f : Addr} {fd : FuncData} (F : Fun K "_is_span" "_is_span" S__is_span f fd) {f_is_less : Addr} {fd_is_less : FuncData} (C_is_less : Cal P w K mg base "is_less" 1 f_is_less fd_is_less ["one", "other"] (sp_is_less K)) {f_is_ratio : Addr} {fd_is_ratio : FuncData} (C_is_ratio : Cal P w K mg base "is_ratio" 2 f_is_ratio fd_is_ratio ["thing"] (sp_is_ratio K)) {z_ONE : Addr} (c_ONE : TupC K mg "ONE" z_ONE [V.int 1, V.int 1]) {z_ZERO : Addr} (c_ZERO : TupC K mg "ZERO" z_ZERO [V.int 0, V.int 1]) (m_len : mg "len" = none) (m_isinstance : mg "isinstance" = none) (m_tuple : mg "tuple" = none) :
    FnG P w K mg base CX0 3 f fd ["thing"] (sp__is_span K) := by
  refine Fun_okG F sc__is_span (ar__is_span K) (fun cdv A outer s H vs Q E hg hr h => ?_)
  obtain ⟨v, t, b, rfl, hv, k⟩ := h
  refine ⟨_, (pss_cons (ps_if (pt_not (PW.pt (pw_and (pt_val (pe_callB (id := "isinstance") (isiK (K := K) rfl) (by rfl) m_isinstance (by decide +kernel) (pa_cons (pv 0) (pa_cons (pe_bltn (v := V.ty "tuple") (u := Value.type "tuple") (by rfl) m_tuple (by decide +kernel) rfl) pa_nil)))) (pw_and1 (pt_cmpR op_eq (pe_callB (id := "len") (lenK (K := K) rfl) (by rfl) m_len (by decide +kernel) (pa_cons (pv 0) pa_nil)) pe_int (nomark _)))))) (pss_one (ps_ret pe_bl)) pss_nil)
    (pss_cons (ps_asg (pv 0) (pg_tup rfl (pgs_cons (pg_name (i := 1) sc__is_span.nd rfl (Or.inl rfl)) (pgs_cons (pg_name (i := 2) sc__is_span.nd rfl (Or.inl rfl)) pgs_nil))))
    (pss_cons (ps_if (pt_not (PW.pt (pw_and (pt_val (pe_c C_is_ratio hg (hr.mono (by decide)) rfl (pa_cons (pv 1) pa_nil))) (pw_and1 (pt_val (pe_c C_is_ratio hg (hr.mono (by decide)) rfl (pa_cons (pv 2) pa_nil))))))) (pss_one (ps_ret pe_bl)) pss_nil)
    (pss_one (ps_ret (pe_and (pe_not (pe_c C_is_less hg (hr.mono (by decide)) rfl (pa_cons (pv 1) (pa_cons (pe_glob (v := V.ref z_ZERO) (u := Value.ref z_ZERO) rfl c_ZERO.m rfl) pa_nil)))) (pe_and (pe_c C_is_less hg (hr.mono (by decide)) rfl (pa_cons (pv 1) (pa_cons (pv 2) pa_nil))) (pe_one (pe_not (pe_c C_is_less hg (hr.mono (by decide)) rfl (pa_cons (pe_glob (v := V.ref z_ONE) (u := Value.ref z_ONE) rfl c_ONE.m rfl) (pa_cons (pv 2) pa_nil)))))))))))), ?_⟩
  cases hv with
  | non =>
    walk_at "rd_6"
    refine iteF ?_
    refine iteT ?_
    walk_at "rd_6"
    exact k
  | bl c =>
    walk_at "rd_6"
    refine iteF ?_
    refine iteT ?_
    walk_at "rd_6"
    exact k
  | int i hi =>
    walk_at "rd_6"
    refine iteF ?_
    refine iteT ?_
    walk_at "rd_6"
    exact k
  | str x =>
    walk_at "rd_6"
    refine iteF ?_
    refine iteT ?_
    walk_at "rd_6"
    exact k
  | lst n e t =>
    walk_at "rd_6"
    refine iteF ?_
    refine iteT ?_
    walk_at "rd_6"
    exact k
  | @tup a xs ts e ht =>
    by_cases c : xs.length = 2
    · cases ht with
      | nil => simp at c
      | @cons u us t1 _ h1 ht =>
        cases ht with
        | nil => simp at c
        | @cons w ws t2 _ h2 ht =>
          cases ht with
          | cons _ _ => simp at c
          | nil =>
            walk_at "rd_6"
            refine iteT ?_
            walk_at "rd_6"
            refine iteF ?_
            walk_at "rd_6"
            refine ⟨u, t1, b, rfl, h1, ?_⟩
            walk_at "rd_6"
            by_cases i1 : isRat t1 = true
            · rw [i1]
              refine iteT ?_
              walk_at "rd_6"
              refine ⟨w, t2, b, rfl, h2, ?_⟩
              walk_at "rd_6"
              by_cases i2 : isRat t2 = true
              · rw [i2]
                refine iteF ?_
                obtain ⟨x, y, a1⟩ := isRat_some i1
                obtain ⟨z, g, a2⟩ := isRat_some i2
                obtain ⟨p, rfl, _, r1⟩ := rat_at h1 a1
                obtain ⟨pq, rfl, _, r2⟩ := rat_at h2 a2
                rw [isSpan_two a1 a2] at k
                have s1 := r1.sq
                have s2 := r2.sq
                walk_at "rd_6"
                refine ⟨p, z_ZERO, x, y, 0, 1, rfl, s1, by walk_at "hp_6", r1.bx, r1.bu, zero_lit, one_lit, ?_⟩
                walk_at "rd_6"
                unfold okS at k
                by_cases a : x * 1 < 0 * y
                · rw [decide_eq_true a]
                  refine iteF ?_
                  rw [decide_eq_false (not_not_intro a), Bool.false_and] at k
                  exact k
                · rw [decide_eq_false a]
                  refine iteT ?_
                  rw [decide_eq_true a, Bool.true_and] at k
                  walk_at "rd_6"
                  refine ⟨p, pq, x, y, z, g, rfl, s1, s2, r1.bx, r1.bu, r2.bx, r2.bu, ?_⟩
                  walk_at "rd_6"
                  refine rd_if (fun c => ?_) (fun c => ?_)
                  · walk_at "rd_6"
                    refine ⟨z_ONE, pq, 1, 1, z, g, rfl, by walk_at "hp_6", s2, one_lit, one_lit, r2.bx, r2.bu, ?_⟩
                    walk_at "rd_6"
                    rw [decide_eq_true c, Bool.true_and] at k
                    have e : (!decide (1 * g < z * 1)) = decide (¬ 1 * g < z * 1) := by rw [decide_not]
                    rw [e]
                    exact k
                  · rw [decide_eq_false c, Bool.false_and] at k
                    exact k
              · have i3 : isRat t2 = false := by simpa using i2
                rw [i3]
                rw [isSpan_off fun z => i2 z.2] at k
                refine iteT ?_
                walk_at "rd_6"
                exact k
            · have i3 : isRat t1 = false := by simpa using i1
              rw [i3]
              rw [isSpan_off fun z => i1 z.1] at k
              refine iteF ?_
              refine iteT ?_
              walk_at "rd_6"
              exact k
    · have lk := ht.len
      rw [isSpan_len (by omega)] at k
      walk_at "rd_6"
      refine iteT ?_
      walk_at "rd_6"
      rw [decide_eq_false (show ¬ ((xs.length : Int) = 2) by omega)]
      refine iteT ?_
      walk_at "rd_6"
      exact k
def sp_is_cuts (K : PySem.W.Frag) : Sp := fun vs H Q _ => ∃ v t b, vs = [v] ∧ ThAt K b H v t ∧ (∀ ts, t = .lst ts → ts.length ≤ 500) ∧ ∀ J, Same H J → Q (.bl (isCuts t)) J
theorem ar_is_cuts (K : PySem.W.Frag) : ∀ vs H Q E, sp_is_cuts K vs H Q E → vs.length = 1 := by
  intro vs H Q E h
  obtain ⟨v, t, b, rfl, _⟩ := h
  rfl
abbrev S_is_cuts : Stmt := top 9
abbrev N_is_cuts : List Str := ["thing", "span", "after"]
theorem sc_is_cuts : FnScope N_is_cuts ["thing"] (defScope S_is_cuts) := ⟨rfl, rfl, rfl, by decide +kernel, rfl, by decide +kernel, by decide +kernel⟩
theorem ok_is_cuts {P : Program} {w : World} {K : PySem.W.Frag} {mg : Str → Option Value} {base : Heap} {f : Addr} {fd : FuncData} (F : Fun K "is_cuts" "is_cuts" S_is_cuts f fd) {f_is_less : Addr} {fd_is_less : FuncData} (C_is_less : Cal P w K mg base "is_less" 1 f_is_less fd_is_less ["one", "other"] (sp_is_less K)) {f__is_span : Addr} {fd__is_span : FuncData} (C__is_span : Cal P w K mg base "_is_span" 3 f__is_span fd__is_span ["thing"] (sp__is_span K)) (m_all : mg "all" = none) (m_zip : mg "zip" = none) (m_isinstance : mg "isinstance" = none) (m_list : mg "list" = none) :
    FnG P w K mg base CX0 4 f fd ["thing"] (sp_is_cuts K) := by
  refine Fun_okG F sc_is_cuts (ar_is_cuts K) (fun cdv A outer s H vs Q E hg hr h => ?_)
  obtain ⟨v, t, b, rfl, hv, hz, q⟩ := h
  refine ⟨_, (pss_cons (ps_if (PW.pt (pw_or (pt_not (pt_val (pe_callB (id := "isinstance") (isiK (K := K) rfl) (by rfl) m_isinstance (by decide +kernel) (pa_cons (pv 0) (pa_cons (pe_bltn (v := V.ty "list") (u := Value.type "list") (by rfl) m_list (by decide +kernel) rfl) pa_nil))))) (pw_or1 (pt_not (pt_val (pe_callB (id := "all") (allK (K := K) rfl rfl) (by rfl) m_all (by decide +kernel) (pa_cons (pe_lc (own := [("span", 1)]) rfl sc_is_cuts.nd (piL (K := K) rfl (pv 0)) (blkOk_by (own := [("span", 1)]) (N := N_is_cuts) (sc := defScope S_is_cuts) (by decide +kernel)) (fun _ _ _ _ _ => (pg_name (i := 1) sc_is_cuts.nd rfl (Or.inl rfl))) (fun _ _ _ _ _ => pts_nil) (fun _ _ _ _ _ => (pe_c C__is_span hg (hr.mono (by decide)) rfl (pa_cons (pv 1) pa_nil)))) pa_nil))))))) (pss_one (ps_ret pe_bl)) pss_nil)
    (pss_one (ps_ret (pe_callB (id := "all") (allK (K := K) rfl rfl) (by rfl) m_all (by decide +kernel) (pa_cons (pe_lc (own := [("span", 1), ("after", 2)]) (g := (gTup K 2 (gCons (gName 1) (gCons (gName 2) gNil)))) rfl sc_is_cuts.nd (piZ (K := K) rfl (by rfl) m_zip (pa_cons (pv 0) (pa_cons (pe_slice (slK (K := K) rfl) (pv 0) (po_some pe_int) po_none) pa_nil))) (blkOk_by (own := [("span", 1), ("after", 2)]) (N := N_is_cuts) (sc := defScope S_is_cuts) (by decide +kernel)) (fun _ _ _ _ _ => (pgT rfl rfl (pgs_cons (pg_name (i := 1) sc_is_cuts.nd rfl (Or.inl rfl)) (pgs_cons (pg_name (i := 2) sc_is_cuts.nd rfl (Or.inl rfl)) pgs_nil)))) (fun _ _ _ _ _ => pts_nil) (fun _ _ _ _ _ => (pe_c C_is_less hg (hr.mono (by decide)) rfl (pa_cons (pe_ix (ixK (K := K) rfl) (pv 1) pe_int (fun _ _ => rfl)) (pa_cons (pe_ix (ixK (K := K) rfl) (pv 2) pe_int (fun _ _ => rfl)) pa_nil))))) pa_nil))))), ?_⟩
  have off : isCuts t = false → Q (.bl false) H := fun e => e ▸ q H fun _ _ e => e
  cases hv with
  | non =>
    walk_at "rd_6"
    refine iteT ?_
    refine iteT ?_
    walk_at "rd_6"
    exact off rfl
  | bl c =>
    walk_at "rd_6"
    refine iteT ?_
    refine iteT ?_
    walk_at "rd_6"
    exact off rfl
  | int i hi =>
    walk_at "rd_6"
    refine iteT ?_
    refine iteT ?_
    walk_at "rd_6"
    exact off rfl
  | str x =>
    walk_at "rd_6"
    refine iteT ?_
    refine iteT ?_
    walk_at "rd_6"
    exact off rfl
  | tup e k =>
    walk_at "rd_6"
    refine iteT ?_
    refine iteT ?_
    walk_at "rd_6"
    exact off rfl
  | @lst l rs ts n hl ht =>
    have hz := hz ts rfl
    have ln := ht.len
    walk_at "rd_6"
    refine iteF ?_
    walk_at "rd_6"
    intro D nD
    refine lc_mapLI ((ts.map isSpan).map V.bl) (by rw [List.length_map, List.length_map]; omega) hl (by omega) nD (fun i r y hr hy m R k => ?_) ?_
    · obtain ⟨t, es, sa⟩ := ht.get hr
      have ey : y = .bl (isSpan t) := by
        rw [List.getElem?_map, List.getElem?_map, es] at hy
        exact (Option.some.inj hy).symm
      subst ey
      walk_at "rd_6"
      exact ⟨r, t, b, rfl, sa.same (same_new nD), k⟩
    · have s1 : Same H (upd H D (.lst ((ts.map isSpan).map V.bl))) := same_new nD
      have e1 : (upd H D (.lst ((ts.map isSpan).map V.bl))) D = some (.lst ((ts.map isSpan).map V.bl)) := upd_same
      generalize upd H D (.lst ((ts.map isSpan).map V.bl)) = J1 at s1 e1 ⊢
      walk_at "rd_6"
      refine rd_all (bs := ts.map isSpan) (SqL.of e1) ?_
      rw [List.all_map]
      walk_at "rd_6"
      cases c : ts.all isSpan with
      | false =>
        have c' : ts.all (id ∘ isSpan) = false := c
        rw [c']
        refine iteT ?_
        walk_at "rd_6"
        have e := isCuts_off c
        rw [← e]
        exact q J1 s1
      | true =>
        have c' : ts.all (id ∘ isSpan) = true := c
        rw [c']
        refine iteF ?_
        walk_at "rd_6"
        rename_i p J np sJ eJ
        intro D2 nD2
        rw [cut_tail] at eJ
        have hsJ : SnsAt K J rs (sns ts) := (spans_at ht (List.all_eq_true.mp c)).mono fun p xs h => sqt_same (Same.trans s1 sJ) h
        have ln2 := hsJ.len
        refine lc_mapZI ((List.zipWith okN (sns ts) (sns ts).tail).map V.bl) (by rw [List.length_map, List.length_zipWith, List.length_tail, List.length_tail]; omega) rfl (sJ _ _ (s1 _ _ hl)) eJ (by omega) nD2 (fun _ _ => rfl) (fun i x y z hx hy hz' J' k' R r => ?_) fun J' k' e' => ?_
        · obtain ⟨s, es, sa⟩ := hsJ.get hx
          obtain ⟨s', es', sa'⟩ := hsJ.tail.get hy
          have ez : z = .bl (okN s s') := by
            rw [List.getElem?_map, List.getElem?_zipWith, es, es'] at hz'
            exact (Option.some.inj hz').symm
          subst ez
          obtain ⟨c1, p1, q1, rfl, hc1, _, h1⟩ := sa.mono (J := J') fun p xs h => sqt_fresh k' nD2 h
          obtain ⟨c2, p2, q2, rfl, hc2, h2, _⟩ := sa'.mono (J := J') fun p xs h => sqt_fresh k' nD2 h
          walk_at "rd_6"
          refine ⟨q1, p2, s.u, s.v, s'.x, s'.y, rfl, h1.sq, h2.sq, h1.bx, h1.bu, h2.bx, h2.bu, r⟩
        · walk_at "rd_6"
          refine rd_all (bs := List.zipWith okN (sns ts) (sns ts).tail) (SqL.of e') ?_
          rw [← isCuts_on c]
          refine q J' fun a o h => k' a o ?_ (sJ _ _ (s1 _ _ h))
          exact ne_of_none (sJ _ _ (s1 _ _ h)) nD2

def sp__law_is_ratio (K : PySem.W.Frag) : Sp := fun vs H Q _ => ∃ v t b, vs = [v] ∧ ThAt K b H v t ∧ (∀ ts, t = .tup ts → ts.length ≤ 500) ∧ ∀ J, Same H J → Q (.bl (isRat t)) J
theorem ar__law_is_ratio (K : PySem.W.Frag) : ∀ vs H Q E, sp__law_is_ratio K vs H Q E → vs.length = 1 := by
  intro vs H Q E h
  obtain ⟨v, t, b, rfl, _⟩ := h
  rfl
abbrev S__law_is_ratio : Stmt := top 19
abbrev N__law_is_ratio : List Str := ["_law_thing", "_law_part_here"]
theorem sc__law_is_ratio : FnScope N__law_is_ratio ["_law_thing"] (defScope S__law_is_ratio) := ⟨rfl, rfl, rfl, by decide +kernel, rfl, by decide +kernel, by decide +kernel⟩
theorem ok__law_is_ratio {P : Program} {w : World} {K : PySem.W.Frag} {mg : Str → Option Value} {base : Heap} {f : Addr} {fd : FuncData} (F : Fun K "_law_is_ratio" "_law_is_ratio" S__law_is_ratio f fd) {f__law_part : Addr} {fd__law_part : FuncData} (C__law_part : Cal P w K mg base "_law_part" 1 f__law_part fd__law_part ["_law_one", "_law_other"] (sp__law_part K)) (m_all : mg "all" = none) (m_isinstance : mg "isinstance" = none) (m_bool : mg "bool" = none) (m_int : mg "int" = none) (m_len : mg "len" = none) (m_tuple : mg "tuple" = none) :
    FnG P w K mg base CX0 2 f fd ["_law_thing"] (sp__law_is_ratio K) := by
  refine Fun_okG F sc__law_is_ratio (ar__law_is_ratio K) (fun cdv A outer s H vs Q E hg hr h => ?_)
  obtain ⟨v, t, b, rfl, hv, hz, q⟩ := h
  refine ⟨_, (pss_cons (ps_if (PW.pt (pw_or (pt_not (pt_val (pe_callB (id := "isinstance") (isiK (K := K) rfl) (by rfl) m_isinstance (by decide +kernel) (pa_cons (pv 0) (pa_cons (pe_bltn (v := V.ty "tuple") (u := Value.type "tuple") (by rfl) m_tuple (by decide +kernel) rfl) pa_nil))))) (pw_or1 (pt_cmpR op_ne (pe_callB (id := "len") (lenK (K := K) rfl) (by rfl) m_len (by decide +kernel) (pa_cons (pv 0) pa_nil)) pe_int (nomark _))))) (pss_one (ps_ret pe_bl)) pss_nil)
    (pss_cons (ps_if (pt_not (pt_val (pe_callB (id := "all") (allK (K := K) rfl rfl) (by rfl) m_all (by decide +kernel) (pa_cons (pe_lc (own := [("_law_part_here", 1)]) rfl sc__law_is_ratio.nd (piT (K := K) rfl (pv 0)) (blkOk_by (own := [("_law_part_here", 1)]) (N := N__law_is_ratio) (sc := defScope S__law_is_ratio) (by decide +kernel)) (fun _ _ _ _ _ => (pg_name (i := 1) sc__law_is_ratio.nd rfl (Or.inl rfl))) (fun _ _ _ _ _ => pts_nil) (fun _ _ _ _ _ => (pe_and (pe_callB (id := "isinstance") (isiK (K := K) rfl) (by rfl) m_isinstance (by decide +kernel) (pa_cons (pv 1) (pa_cons (pe_bltn (v := V.ty "int") (u := Value.type "int") (by rfl) m_int (by decide +kernel) rfl) pa_nil))) (pe_one (pe_not (pe_callB (id := "isinstance") (isiK (K := K) rfl) (by rfl) m_isinstance (by decide +kernel) (pa_cons (pv 1) (pa_cons (pe_bltn (v := V.ty "bool") (u := Value.type "bool") (by rfl) m_bool (by decide +kernel) rfl) pa_nil)))))))) pa_nil)))) (pss_one (ps_ret pe_bl)) pss_nil)
    (pss_one (ps_ret (pe_and (pe_cmpR op_gt (pe_ix (ixK (K := K) rfl) (pv 0) pe_int (fun _ _ => rfl)) pe_int (nomark _)) (pe_one (pe_cmpR op_eq (pe_c C__law_part hg (hr.mono (by decide)) rfl (pa_cons (pe_ix (ixK (K := K) rfl) (pv 0) pe_int (fun _ _ => rfl)) (pa_cons (pe_ix (ixK (K := K) rfl) (pv 0) pe_int (fun _ _ => rfl)) pa_nil))) pe_int (nomark _)))))))), ?_⟩
  have off : isRat t = false → Q (.bl false) H := fun e => e ▸ q H fun _ _ e => e
  cases hv with
  | non =>
    walk_at "rd_6"
    refine iteT ?_
    refine iteT ?_
    walk_at "rd_6"
    exact off rfl
  | bl c =>
    walk_at "rd_6"
    refine iteT ?_
    refine iteT ?_
    walk_at "rd_6"
    exact off rfl
  | int i hi =>
    walk_at "rd_6"
    refine iteT ?_
    refine iteT ?_
    walk_at "rd_6"
    exact off rfl
  | str x =>
    walk_at "rd_6"
    refine iteT ?_
    refine iteT ?_
    walk_at "rd_6"
    exact off rfl
  | lst n e k =>
    walk_at "rd_6"
    refine iteT ?_
    refine iteT ?_
    walk_at "rd_6"
    exact off rfl
  | @tup a xs ts e k =>
    have hz := hz ts rfl
    have lk := k.len
    by_cases c : xs.length = 2
    · walk_at "rd_6"
      refine iteF ?_
      walk_at "rd_6"
      rw [decide_eq_true (show (xs.length : Int) = 2 by omega)]
      refine iteF ?_
      walk_at "rd_6"
      intro D nD
      refine lc_growT (xs := xs) (fun ys _ => ys = ((ts.map fun t => decide (tyN t = "int")).take ys.length).map V.bl) (fun J k => sqt_fresh k nD e) (by omega) nD (fun J k => by simp) (fun j w ys J hx i5 hy k' hD hP => ?_) fun ys J hy k' hD hP => ?_
      · obtain ⟨t, et, ht⟩ := k.get hx
        have sJ : Same H J := fun a o h => k' a o (ne_of_none h nD) h
        have ht := ht.same sJ
        have fin : ∀ bb : Bool, bb = decide (tyN t = "int") → LcEnd D H (fun ys _ => ys = ((ts.map fun t => decide (tyN t = "int")).take ys.length).map V.bl) (j + 1) (.bl bb) J := fun bb eb => by
          refine lcEnd_mk hD hy i5 k' fun J4 p4 e4 => ?_
          rw [List.length_append, List.length_singleton, hy, List.take_add_one, List.getElem?_map, et, List.map_append, ← hy, ← hP, eb]
          rfl
        walk_at "rd_6"
        refine ⟨rfl, ?_⟩
        cases ht with
        | non =>
          walk_at "rd_6"
          refine iteF ?_
          exact fin _ (by simp [tyN])
        | bl c =>
          walk_at "rd_6"
          refine iteT ?_
          walk_at "rd_6"
          exact fin _ (by simp [tyN])
        | int i hi =>
          walk_at "rd_6"
          refine iteT ?_
          walk_at "rd_6"
          exact fin _ (by simp [tyN])
        | str x =>
          walk_at "rd_6"
          refine iteF ?_
          exact fin _ (by simp [tyN])
        | lst n e' k'' =>
          walk_at "rd_6"
          refine iteF ?_
          exact fin _ (by simp [tyN])
        | tup e' k'' =>
          walk_at "rd_6"
          refine iteF ?_
          exact fin _ (by simp [tyN])
      have hy : ys.length = xs.length := hy
      have sJ : Same H J := fun a o h => k' a o (ne_of_none h nD) h
      rw [hy, lk, ← List.length_map (f := fun t => decide (tyN t = "int")) (as := ts), List.take_length] at hP
      subst hP
      have e := sqt_same sJ e
      have off' : isRat (.tup ts) = false → Q (.bl false) J := fun e => e ▸ q J sJ
      clear off k' nD
      cases k with
      | nil => simp at c
      | @cons u us t1 _ h1 k =>
        cases k with
        | nil => simp at c
        | @cons w ws t2 _ h2 k =>
          cases k with
          | cons _ _ => simp at c
          | nil =>
            walk_at "rd_6"
            refine rd_all (bs := [t1, t2].map fun t => decide (tyN t = "int")) (SqL.of hD) ?_
            walk_at "rd_6"
            by_cases i12 : tyN t1 = "int" ∧ tyN t2 = "int"
            · obtain ⟨x, rfl⟩ := tyN_int.mp i12.1
              obtain ⟨y, rfl⟩ := tyN_int.mp i12.2
              cases h1
              cases h2
              refine iteF ?_
              rw [isRat_int] at q
              walk_at "rd_6"
              refine rd_if (fun c => ?_) (fun c => ?_)
              · walk_at "rd_6"
                refine ⟨x, y, rfl, ?_⟩
                walk_at "rd_6"
                have e : (decide (((Int.gcd x y : Nat) : Int) = 1)) = (decide (0 < y) && decide (Int.gcd x y = 1)) := by
                  rw [decide_eq_true c, Bool.true_and]
                  exact decide_eq_decide.mpr (by omega)
                rw [e]
                exact q J sJ
              · have q := q J sJ
                rw [decide_eq_false c, Bool.false_and] at q
                exact q
            · have ea : ([t1, t2].map fun t => decide (tyN t = "int")).all id = false := by
                by_cases a1 : tyN t1 = "int"
                · have a2 : ¬ tyN t2 = "int" := fun z => i12 ⟨a1, z⟩
                  simp [a2]
                · simp [a1]
              rw [ea]
              refine iteT ?_
              walk_at "rd_6"
              exact off' (isRat_two i12)
    · walk_at "rd_6"
      refine iteF ?_
      walk_at "rd_6"
      rw [decide_eq_false (show ¬ ((xs.length : Int) = 2) by omega)]
      refine iteT ?_
      walk_at "rd_6"
      exact off (isRat_len (by omega))
def sp__law_is_span (K : PySem.W.Frag) : Sp := fun vs H Q _ => ∃ v t b, vs = [v] ∧ ThAt K b H v t ∧ Shallow t ∧ ∀ J, Same H J → Q (.bl (isSpan t)) J
theorem ar__law_is_span (K : PySem.W.Frag) : ∀ vs H Q E, sp__law_is_span K vs H Q E → vs.length = 1 := by
  intro vs H Q E h
  obtain ⟨v, t, b, rfl, _⟩ := h
  rfl
abbrev S__law_is_span : Stmt := top 20
abbrev N__law_is_span : List Str := ["_law_thing", "_law_end_here", "_law_low", "_law_high"]
theorem sc__law_is_span : FnScope N__law_is_span ["_law_thing"] (defScope S__law_is_span) := ⟨rfl, rfl, rfl, by decide +kernel, rfl, by decide +kernel, by decide +kernel⟩
theorem ok__law_is_span {P : Program} {w : World} {K : PySem.W.Frag} {mg : Str → Option Value} {base : Heap} {f : Addr} {fd : FuncData} (F : Fun K "_law_is_span" "_law_is_span" S__law_is_span f fd) {f__law_is_ratio : Addr} {fd__law_is_ratio : FuncData} (C__law_is_ratio : Cal P w K mg base "_law_is_ratio" 2 f__law_is_ratio fd__law_is_ratio ["_law_thing"] (sp__law_is_ratio K)) (m_all : mg "all" = none) (m_len : mg "len" = none) (m_isinstance : mg "isinstance" = none) (m_tuple : mg "tuple" = none) :
    FnG P w K mg base CX0 3 f fd ["_law_thing"] (sp__law_is_span K) := by
  refine Fun_okG F sc__law_is_span (ar__law_is_span K) (fun cdv A outer s H vs Q E hg hr h => ?_)
  obtain ⟨v, t, b, rfl, hv, hz, q⟩ := h
  refine ⟨_, (pss_cons (ps_if (PW.pt (pw_or (pt_not (pt_val (pe_callB (id := "isinstance") (isiK (K := K) rfl) (by rfl) m_isinstance (by decide +kernel) (pa_cons (pv 0) (pa_cons (pe_bltn (v := V.ty "tuple") (u := Value.type "tuple") (by rfl) m_tuple (by decide +kernel) rfl) pa_nil))))) (pw_or (pt_cmpR op_ne (pe_callB (id := "len") (lenK (K := K) rfl) (by rfl) m_len (by decide +kernel) (pa_cons (pv 0) pa_nil)) pe_int (nomark _)) (pw_or1 (pt_not (pt_val (pe_callB (id := "all") (allK (K := K) rfl rfl) (by rfl) m_all (by decide +kernel) (pa_cons (pe_lc (own := [("_law_end_here", 1)]) rfl sc__law_is_span.nd (piT (K := K) rfl (pv 0)) (blkOk_by (own := [("_law_end_here", 1)]) (N := N__law_is_span) (sc := defScope S__law_is_span) (by decide +kernel)) (fun _ _ _ _ _ => (pg_name (i := 1) sc__law_is_span.nd rfl (Or.inl rfl))) (fun _ _ _ _ _ => pts_nil) (fun _ _ _ _ _ => (pe_c C__law_is_ratio hg (hr.mono (by decide)) rfl (pa_cons (pv 1) pa_nil)))) pa_nil)))))))) (pss_one (ps_ret pe_bl)) pss_nil)
    (pss_cons (ps_asg (pv 0) (pg_tup rfl (pgs_cons (pg_name (i := 2) sc__law_is_span.nd rfl (Or.inl rfl)) (pgs_cons (pg_name (i := 3) sc__law_is_span.nd rfl (Or.inl rfl)) pgs_nil))))
    (pss_one (ps_ret (pe_and (pe_cmpR op_le pe_int (pe_ix (ixK (K := K) rfl) (pv 2) pe_int (fun _ _ => rfl)) (nomark _)) (pe_and (pe_cmpR op_lt (pe_op op_ml (pe_ix (ixK (K := K) rfl) (pv 2) pe_int (fun _ _ => rfl)) (pe_ix (ixK (K := K) rfl) (pv 3) pe_int (fun _ _ => rfl))) (pe_op op_ml (pe_ix (ixK (K := K) rfl) (pv 3) pe_int (fun _ _ => rfl)) (pe_ix (ixK (K := K) rfl) (pv 2) pe_int (fun _ _ => rfl))) (nomark _)) (pe_one (pe_cmpR op_le (pe_ix (ixK (K := K) rfl) (pv 3) pe_int (fun _ _ => rfl)) (pe_ix (ixK (K := K) rfl) (pv 3) pe_int (fun _ _ => rfl)) (nomark _))))))))), ?_⟩
  have off : isSpan t = false → Q (.bl false) H := fun e => e ▸ q H fun _ _ e => e
  cases hv with
  | non =>
    walk_at "rd_6"
    refine iteT ?_
    refine iteT ?_
    walk_at "rd_6"
    exact off rfl
  | bl c =>
    walk_at "rd_6"
    refine iteT ?_
    refine iteT ?_
    walk_at "rd_6"
    exact off rfl
  | int i hi =>
    walk_at "rd_6"
    refine iteT ?_
    refine iteT ?_
    walk_at "rd_6"
    exact off rfl
  | str x =>
    walk_at "rd_6"
    refine iteT ?_
    refine iteT ?_
    walk_at "rd_6"
    exact off rfl
  | lst n e k =>
    walk_at "rd_6"
    refine iteT ?_
    refine iteT ?_
    walk_at "rd_6"
    exact off rfl
  | @tup a xs ts e k =>
    have lk := k.len
    by_cases c : xs.length = 2
    · cases k with
      | nil => simp at c
      | @cons u us t1 _ h1 k =>
        cases k with
        | nil => simp at c
        | @cons w ws t2 _ h2 k =>
          cases k with
          | cons _ _ => simp at c
          | nil =>
            obtain ⟨z1, z2⟩ := hz
            walk_at "rd_6"
            refine iteF ?_
            walk_at "rd_6"
            refine iteF ?_
            walk_at "rd_6"
            intro D nD
            refine lc_growT (xs := [u, w]) (fun ys _ => ys = (([t1, t2].map isRat).take ys.length).map V.bl) (fun J k => sqt_fresh k nD e) (by show 2 ≤ 500; decide) nD (fun J k => by simp) (fun j v ys J hx i5 hy k' hD hP => ?_) fun ys J hy k' hD hP => ?_
            · obtain ⟨t, et, ht, hn⟩ : ∃ t, [t1, t2][j]? = some t ∧ ThAt K b H v t ∧ ∀ ts, t = .tup ts → ts.length ≤ 500 := by
                have j2 : j < 2 := (List.getElem?_eq_some_iff.mp hx).1
                rcases (show j = 0 ∨ j = 1 by omega) with rfl | rfl
                · cases hx
                  exact ⟨t1, rfl, h1, z1⟩
                · cases hx
                  exact ⟨t2, rfl, h2, z2⟩
              have sJ : Same H J := fun a o h => k' a o (ne_of_none h nD) h
              walk_at "rd_6"
              refine ⟨rfl, ?_⟩
              walk_at "rd_6"
              refine ⟨v, t, b, rfl, ht.same sJ, hn, fun J2 s2 => ?_⟩
              refine lcEnd_mk (s2 _ _ hD) hy i5 (k'.trans (Kp.of s2)) fun J4 p4 e4 => ?_
              rw [List.length_append, List.length_singleton, hy, List.take_add_one, List.getElem?_map, et, List.map_append, ← hy, ← hP]
              rfl
            have hy : ys.length = 2 := hy
            have sJ : Same H J := fun a o h => k' a o (ne_of_none h nD) h
            rw [hy] at hP
            have hP : ys = [.bl (isRat t1), .bl (isRat t2)] := hP
            subst hP
            have e := sqt_same sJ e
            have h1 := h1.same sJ
            have h2 := h2.same sJ
            clear k' nD off
            walk_at "rd_6"
            refine rd_all (bs := [isRat t1, isRat t2]) (SqL.of hD) ?_
            walk_at "rd_6"
            by_cases i12 : isRat t1 = true ∧ isRat t2 = true
            · rw [i12.1, i12.2]
              refine iteF ?_
              obtain ⟨x, y, a1⟩ := isRat_some i12.1
              obtain ⟨z, g, a2⟩ := isRat_some i12.2
              obtain ⟨p, rfl, _, r1⟩ := rat_at h1 a1
              obtain ⟨pq, rfl, _, r2⟩ := rat_at h2 a2
              have q := q J sJ
              rw [isSpan_two a1 a2] at q
              have s1 := r1.sq
              have s2 := r2.sq
              have bx := r1.bx
              have by' := r1.bu
              have bz := r2.bx
              have bg := r2.bu
              walk_at "rd_6"
              unfold okS at q
              refine rd_if (fun c1 => ?_) (fun c1 => ?_)
              · rw [decide_eq_true (show ¬ x * 1 < 0 * y by omega), Bool.true_and] at q
                walk_at "rd_6"
                refine rd_if (fun c2 => ?_) (fun c2 => ?_)
                · walk_at "rd_6"
                  rw [decide_eq_true c2, Bool.true_and] at q
                  rw [show decide (z ≤ g) = decide (¬ 1 * g < z * 1) from decide_eq_decide.mpr (by omega)]
                  exact q
                · rw [decide_eq_false c2, Bool.false_and] at q
                  exact q
              · rw [decide_eq_false (show ¬ ¬ x * 1 < 0 * y by omega), Bool.false_and] at q
                exact q
            · have ea : [isRat t1, isRat t2].all id = false := by
                cases r1 : isRat t1 <;> cases r2 : isRat t2 <;> simp [r1, r2] at i12 ⊢
              rw [ea]
              refine iteT ?_
              walk_at "rd_6"
              have e := isSpan_off i12
              rw [← e]
              exact q J sJ
    · walk_at "rd_6"
      refine iteF ?_
      walk_at "rd_6"
      rw [decide_eq_false (show ¬ ((xs.length : Int) = 2) by omega)]
      refine iteT ?_
      walk_at "rd_6"
      exact off (isSpan_len (by omega))
def sp__law_is_set (K : PySem.W.Frag) : Sp := fun vs H Q _ => ∃ v t b, vs = [v] ∧ ThAt K b H v t ∧ (∀ ts, t = .lst ts → ts.length ≤ 500 ∧ ∀ u ∈ ts, Shallow u) ∧ ∀ J, Same H J → Q (.bl (isCuts t)) J
theorem ar__law_is_set (K : PySem.W.Frag) : ∀ vs H Q E, sp__law_is_set K vs H Q E → vs.length = 1 := by
  intro vs H Q E h
  obtain ⟨v, t, b, rfl, _⟩ := h
  rfl
abbrev S__law_is_set : Stmt := top 21
abbrev N__law_is_set : List Str := ["_law_thing", "_law_span", "_law_one", "_law_other"]
theorem sc__law_is_set : FnScope N__law_is_set ["_law_thing"] (defScope S__law_is_set) := ⟨rfl, rfl, rfl, by decide +kernel, rfl, by decide +kernel, by decide +kernel⟩
theorem ok__law_is_set {P : Program} {w : World} {K : PySem.W.Frag} {mg : Str → Option Value} {base : Heap} {f : Addr} {fd : FuncData} (F : Fun K "_law_is_set" "_law_is_set" S__law_is_set f fd) {f__law_is_span : Addr} {fd__law_is_span : FuncData} (C__law_is_span : Cal P w K mg base "_law_is_span" 3 f__law_is_span fd__law_is_span ["_law_thing"] (sp__law_is_span K)) (m_all : mg "all" = none) (m_zip : mg "zip" = none) (m_isinstance : mg "isinstance" = none) (m_list : mg "list" = none) :
    FnG P w K mg base CX0 4 f fd ["_law_thing"] (sp__law_is_set K) := by
  refine Fun_okG F sc__law_is_set (ar__law_is_set K) (fun cdv A outer s H vs Q E hg hr h => ?_)
  obtain ⟨v, t, b, rfl, hv, hz, q⟩ := h
  refine ⟨_, (pss_cons (ps_if (PW.pt (pw_or (pt_not (pt_val (pe_callB (id := "isinstance") (isiK (K := K) rfl) (by rfl) m_isinstance (by decide +kernel) (pa_cons (pv 0) (pa_cons (pe_bltn (v := V.ty "list") (u := Value.type "list") (by rfl) m_list (by decide +kernel) rfl) pa_nil))))) (pw_or1 (pt_not (pt_val (pe_callB (id := "all") (allK (K := K) rfl rfl) (by rfl) m_all (by decide +kernel) (pa_cons (pe_lc (own := [("_law_span", 1)]) rfl sc__law_is_set.nd (piL (K := K) rfl (pv 0)) (blkOk_by (own := [("_law_span", 1)]) (N := N__law_is_set) (sc := defScope S__law_is_set) (by decide +kernel)) (fun _ _ _ _ _ => (pg_name (i := 1) sc__law_is_set.nd rfl (Or.inl rfl))) (fun _ _ _ _ _ => pts_nil) (fun _ _ _ _ _ => (pe_c C__law_is_span hg (hr.mono (by decide)) rfl (pa_cons (pv 1) pa_nil)))) pa_nil))))))) (pss_one (ps_ret pe_bl)) pss_nil)
    (pss_one (ps_ret (pe_callB (id := "all") (allK (K := K) rfl rfl) (by rfl) m_all (by decide +kernel) (pa_cons (pe_lc (own := [("_law_one", 2), ("_law_other", 3)]) (g := (gTup K 2 (gCons (gName 2) (gCons (gName 3) gNil)))) rfl sc__law_is_set.nd (piZ (K := K) rfl (by rfl) m_zip (pa_cons (pv 0) (pa_cons (pe_slice (slK (K := K) rfl) (pv 0) (po_some pe_int) po_none) pa_nil))) (blkOk_by (own := [("_law_one", 2), ("_law_other", 3)]) (N := N__law_is_set) (sc := defScope S__law_is_set) (by decide +kernel)) (fun _ _ _ _ _ => (pgT rfl rfl (pgs_cons (pg_name (i := 2) sc__law_is_set.nd rfl (Or.inl rfl)) (pgs_cons (pg_name (i := 3) sc__law_is_set.nd rfl (Or.inl rfl)) pgs_nil)))) (fun _ _ _ _ _ => pts_nil) (fun _ _ _ _ _ => (pe_cmpR op_lt (pe_op op_ml (pe_ix (ixK (K := K) rfl) (pe_ix (ixK (K := K) rfl) (pv 2) pe_int (fun _ _ => rfl)) pe_int (fun _ _ => rfl)) (pe_ix (ixK (K := K) rfl) (pe_ix (ixK (K := K) rfl) (pv 3) pe_int (fun _ _ => rfl)) pe_int (fun _ _ => rfl))) (pe_op op_ml (pe_ix (ixK (K := K) rfl) (pe_ix (ixK (K := K) rfl) (pv 3) pe_int (fun _ _ => rfl)) pe_int (fun _ _ => rfl)) (pe_ix (ixK (K := K) rfl) (pe_ix (ixK (K := K) rfl) (pv 2) pe_int (fun _ _ => rfl)) pe_int (fun _ _ => rfl))) (nomark _)))) pa_nil))))), ?_⟩
  have off : isCuts t = false → Q (.bl false) H := fun e => e ▸ q H fun _ _ e => e
  cases hv with
  | non =>
    walk_at "rd_6"
    refine iteT ?_
    refine iteT ?_
    walk_at "rd_6"
    exact off rfl
  | bl c =>
    walk_at "rd_6"
    refine iteT ?_
    refine iteT ?_
    walk_at "rd_6"
    exact off rfl
  | int i hi =>
    walk_at "rd_6"
    refine iteT ?_
    refine iteT ?_
    walk_at "rd_6"
    exact off rfl
  | str x =>
    walk_at "rd_6"
    refine iteT ?_
    refine iteT ?_
    walk_at "rd_6"
    exact off rfl
  | tup e k =>
    walk_at "rd_6"
    refine iteT ?_
    refine iteT ?_
    walk_at "rd_6"
    exact off rfl
  | @lst l rs ts n hl ht =>
    obtain ⟨hz, hsh⟩ := hz ts rfl
    have ln := ht.len
    walk_at "rd_6"
    refine iteF ?_
    walk_at "rd_6"
    intro D nD
    refine lc_growL (fun ys _ => ys = ((ts.map isSpan).take ys.length).map V.bl) hl (by omega) nD (fun J k => by simp) (fun j v ys J hx i5 hy k' hD hP => ?_) fun ys J1 hy k' hD hP => ?_
    · obtain ⟨t, et, ht⟩ := ht.get hx
      have sJ : Same H J := fun a o h => k' a o (ne_of_none h nD) h
      walk_at "rd_6"
      refine ⟨rfl, ?_⟩
      walk_at "rd_6"
      refine ⟨v, t, b, rfl, ht.same sJ, hsh t (List.mem_of_getElem? et), fun J2 s2 => ?_⟩
      refine lcEnd_mk (s2 _ _ hD) hy i5 (k'.trans (Kp.of s2)) fun J4 p4 e4 => ?_
      rw [List.length_append, List.length_singleton, hy, List.take_add_one, List.getElem?_map, et, List.map_append, ← hy, ← hP]
      rfl
    have s1 : Same H J1 := fun a o h => k' a o (ne_of_none h nD) h
    rw [hy, ln, ← List.length_map (f := isSpan) (as := ts), List.take_length] at hP
    subst hP
    clear k'
    walk_at "rd_6"
    refine rd_all (bs := ts.map isSpan) (SqL.of hD) ?_
    rw [List.all_map]
    walk_at "rd_6"
    cases c : ts.all isSpan with
    | false =>
      have c' : ts.all (id ∘ isSpan) = false := c
      rw [c']
      refine iteT ?_
      walk_at "rd_6"
      have e := isCuts_off c
      rw [← e]
      exact q J1 s1
    | true =>
      have c' : ts.all (id ∘ isSpan) = true := c
      rw [c']
      refine iteF ?_
      walk_at "rd_6"
      rename_i p J np sJ eJ
      intro D2 nD2
      rw [cut_tail] at eJ
      have hsJ : SnsAt K J rs (sns ts) := (spans_at ht (List.all_eq_true.mp c)).mono fun p xs h => sqt_same (Same.trans s1 sJ) h
      have ln2 := hsJ.len
      refine lc_mapZI ((List.zipWith okN (sns ts) (sns ts).tail).map V.bl) (by rw [List.length_map, List.length_zipWith, List.length_tail, List.length_tail]; omega) rfl (sJ _ _ (s1 _ _ hl)) eJ (by omega) nD2 (fun _ _ => rfl) (fun i x y z hx hy hz' J' k' R r => ?_) fun J' k' e' => ?_
      · obtain ⟨s, es, sa⟩ := hsJ.get hx
        obtain ⟨s', es', sa'⟩ := hsJ.tail.get hy
        have ez : z = .bl (okN s s') := by
          rw [List.getElem?_map, List.getElem?_zipWith, es, es'] at hz'
          exact (Option.some.inj hz').symm
        subst ez
        obtain ⟨c1, p1, q1, rfl, hc1, _, h1⟩ := sa.mono (J := J') fun p xs h => sqt_fresh k' nD2 h
        obtain ⟨c2, p2, q2, rfl, hc2, h2, _⟩ := sa'.mono (J := J') fun p xs h => sqt_fresh k' nD2 h
        have s1 := h1.sq
        have s2 := h2.sq
        have b1 := h1.bx
        have b2 := h1.bu
        have b3 := h2.bx
        have b4 := h2.bu
        walk_at "rd_6"
        exact r
      · walk_at "rd_6"
        refine rd_all (bs := List.zipWith okN (sns ts) (sns ts).tail) (SqL.of e') ?_
        rw [← isCuts_on c]
        refine q J' fun a o h => k' a o ?_ (sJ _ _ (s1 _ _ h))
        exact ne_of_none (sJ _ _ (s1 _ _ h)) nD2

def sp__law_odd (K : PySem.W.Frag) : Sp := fun vs H Q _ => ∃ (b : Addr), vs = [.ref b] ∧ Bag b H ∧ ∀ v t J, ThAt K b J v t → Fine t → Shallow t → szC t ≤ 10000 → dC t ≤ 4 → Kp b H J → Bag b J → Q v J
theorem ar__law_odd (K : PySem.W.Frag) : ∀ vs H Q E, sp__law_odd K vs H Q E → vs.length = 1 := by
  intro vs H Q E h
  obtain ⟨b, rfl, _⟩ := h
  rfl
theorem fine_flat {t : Th} (h : szC t ≤ 10000) (d : dC t ≤ 4) (l : ∀ ts, t = .lst ts → False) : Fine t := ⟨by omega, by omega, fun ts e => (l ts e).elim⟩
abbrev S__law_odd : Stmt := top 15
abbrev N__law_odd : List Str := ["_law_bag_here", "_law_some"]
theorem sc__law_odd : FnScope N__law_odd ["_law_bag_here"] (defScope S__law_odd) := ⟨rfl, rfl, rfl, by decide +kernel, rfl, by decide +kernel, by decide +kernel⟩
theorem ok__law_odd {P : Program} {w : World} {K : PySem.W.Frag} {mg : Str → Option Value} {base : Heap} {f : Addr} {fd : FuncData} (F : Fun K "_law_odd" "_law_odd" S__law_odd f fd) {f__law_take : Addr} {fd__law_take : FuncData} (C__law_take : Cal P w K mg base "_law_take" 1 f__law_take fd__law_take ["_law_bag_here", "_law_size"] (sp__law_take K)) :
    FnG P w K mg base CX0 2 f fd ["_law_bag_here"] (sp__law_odd K) := by
  refine Fun_okG F sc__law_odd (ar__law_odd K) (fun cdv A outer s H vs Q E hg hr h => ?_)
  obtain ⟨b, rfl, hb, q⟩ := h
  refine ⟨_, (pss_cons (ps_set (i := 1) sc__law_odd.nd rfl (Or.inl rfl) (pe_lst (pa_cons pe_non (pa_cons pe_bl (pa_cons pe_bl (pa_cons pe_int (pa_cons pe_int (pa_cons (pe_un un_neg pe_int) (pa_cons pe_str (pa_cons pe_str (pa_cons pe_str (pa_cons (pe_tup pa_nil) (pa_cons (pe_lst pa_nil) (pa_cons (pe_tup (pa_cons pe_int pa_nil)) (pa_cons (pe_lst (pa_cons pe_int (pa_cons pe_int pa_nil))) (pa_cons (pe_tup (pa_cons pe_int (pa_cons pe_int (pa_cons pe_int pa_nil)))) (pa_cons (pe_tup (pa_cons (pe_tup (pa_cons pe_int (pa_cons pe_int pa_nil))) (pa_cons pe_int pa_nil))) (pa_cons (pe_lst (pa_cons (pe_tup (pa_cons pe_int (pa_cons pe_int pa_nil))) pa_nil)) pa_nil))))))))))))))))))
    (pss_one (ps_ret (pe_ix (ixK (K := K) rfl) (pv 1) (pe_c C__law_take hg (hr.mono (by decide)) rfl (pa_cons (pv 0) (pa_cons pe_int pa_nil))) (fun _ _ => rfl))))), ?_⟩
  walk_at "rd_6"
  rename_i p1 J1 n1 s1 e1 p2 J2 n2 s2 e2 p3 J3 n3 s3 e3 p4 J4 n4 s4 e4 p5 J5 n5 s5 e5 p6 J6 n6 s6 e6 p7 J7 n7 s7 e7 p8 J8 n8 s8 e8 p9 J9 n9 s9 e9 pA JA nA sA eA
  have r9 := sA
  have r8 := Same.trans s9 r9
  have r7 := Same.trans s8 r8
  have r6 := Same.trans s7 r7
  have r5 := Same.trans s6 r6
  have r4 := Same.trans s5 r5
  have r3 := Same.trans s4 r4
  have r2 := Same.trans s3 r3
  have r1 := Same.trans s2 r2
  have r0 := Same.trans s1 r1
  have gA := hb.same r0
  have m2 : p2 ≠ b := (hb.same s1).ne n2
  have m4 : p4 ≠ b := (hb.same (Same.trans s1 (Same.trans s2 s3))).ne n4
  have m9 : p9 ≠ b := (hb.same (Same.trans s1 (Same.trans s2 (Same.trans s3 (Same.trans s4 (Same.trans s5 (Same.trans s6 (Same.trans s7 s8)))))))).ne n9
  have mA : pA ≠ b := (hb.same (Same.trans s1 (Same.trans s2 (Same.trans s3 (Same.trans s4 (Same.trans s5 (Same.trans s6 (Same.trans s7 (Same.trans s8 s9))))))))).ne nA
  have i : ∀ z : Int, z.natAbs ≤ 3 → ThAt K b JA (.int z) (.int z) := fun z hz => .int z (by unfold Bd; omega)
  have t1 : ThAt K b JA (.ref p1) (.tup []) := .tup (SqT.of (r1 _ _ e1)) .nil
  have t2 : ThAt K b JA (.ref p2) (.lst []) := .lst m2 (r2 _ _ e2) .nil
  have t3 : ThAt K b JA (.ref p3) (.tup [.int 1]) := .tup (SqT.of (r3 _ _ e3)) (.cons (i _ (by decide)) .nil)
  have t4 : ThAt K b JA (.ref p4) (.lst [.int 1, .int 2]) := .lst m4 (r4 _ _ e4) (.cons (i _ (by decide)) (.cons (i _ (by decide)) .nil))
  have t5 : ThAt K b JA (.ref p5) (.tup [.int 1, .int 2, .int 3]) := .tup (SqT.of (r5 _ _ e5)) (.cons (i _ (by decide)) (.cons (i _ (by decide)) (.cons (i _ (by decide)) .nil)))
  have t6 : ThAt K b JA (.ref p6) (.tup [.int 1, .int 2]) := .tup (SqT.of (r6 _ _ e6)) (.cons (i _ (by decide)) (.cons (i _ (by decide)) .nil))
  have t7 : ThAt K b JA (.ref p7) (.tup [.tup [.int 1, .int 2], .int 3]) := .tup (SqT.of (r7 _ _ e7)) (.cons t6 (.cons (i _ (by decide)) .nil))
  have t8 : ThAt K b JA (.ref p8) (.tup [.int 0, .int 1]) := .tup (SqT.of (r8 _ _ e8)) (.cons (i _ (by decide)) (.cons (i _ (by decide)) .nil))
  have t9 : ThAt K b JA (.ref p9) (.lst [.tup [.int 0, .int 1]]) := .lst m9 (r9 _ _ e9) (.cons t8 .nil)
  have KA : Kp b H JA := Kp.of r0
  clear s1 s2 s3 s4 s5 s6 s7 s8 s9 sA r0 r1 r2 r3 r4 r5 r6 r7 r8 r9 e1 e2 e3 e4 e5 e6 e7 e8 e9 n1 n2 n3 n4 n5 n6 n7 n8 n9 nA
  refine ⟨b, 16, rfl, gA, by decide, by decide, fun r J ra rb k g => ?_⟩
  refine rd_pick (k _ _ mA eA) ra rb fun v hv => ?_
  obtain ⟨t, ht, ff, fs, sz, dd⟩ : ∃ t, ThAt K b JA v t ∧ Fine t ∧ Shallow t ∧ szC t ≤ 10000 ∧ dC t ≤ 4 := by
    simp only [List.mem_cons, List.not_mem_nil, or_false] at hv
    have sh2 : ∀ t u : Th, (∀ ts, t = .tup ts → ts.length ≤ 500) → (∀ ts, u = .tup ts → ts.length ≤ 500) → Shallow (.tup [t, u]) := fun t u a c => ⟨a, c⟩
    rcases hv with rfl | rfl | rfl | rfl | rfl | rfl | rfl | rfl | rfl | rfl | rfl | rfl | rfl | rfl | rfl | rfl
    · exact ⟨_, .non, fine_flat (by simp [szC]) (by simp [dC]) (fun ts e => by cases e), trivial, by simp [szC], by simp [dC]⟩
    · exact ⟨_, .bl _, fine_flat (by simp [szC]) (by simp [dC]) (fun ts e => by cases e), trivial, by simp [szC], by simp [dC]⟩
    · exact ⟨_, .bl _, fine_flat (by simp [szC]) (by simp [dC]) (fun ts e => by cases e), trivial, by simp [szC], by simp [dC]⟩
    · exact ⟨_, i _ (by decide), fine_flat (by simp [szC]) (by simp [dC]) (fun ts e => by cases e), trivial, by simp [szC], by simp [dC]⟩
    · exact ⟨_, i _ (by decide), fine_flat (by simp [szC]) (by simp [dC]) (fun ts e => by cases e), trivial, by simp [szC], by simp [dC]⟩
    · exact ⟨_, i _ (by decide), fine_flat (by simp [szC]) (by simp [dC]) (fun ts e => by cases e), trivial, by simp [szC], by simp [dC]⟩
    · exact ⟨_, .str _, fine_flat (by simp only [szC]; decide +kernel) (by simp [dC]) (fun ts e => by cases e), trivial, by simp only [szC]; decide +kernel, by simp [dC]⟩
    · exact ⟨_, .str _, fine_flat (by simp only [szC]; decide +kernel) (by simp [dC]) (fun ts e => by cases e), trivial, by simp only [szC]; decide +kernel, by simp [dC]⟩
    · exact ⟨_, .str _, fine_flat (by simp only [szC]; decide +kernel) (by simp [dC]) (fun ts e => by cases e), trivial, by simp only [szC]; decide +kernel, by simp [dC]⟩
    · exact ⟨_, t1, fine_flat (by simp [szC, szsC]) (by simp [dC, dsC]) (fun ts e => by cases e), trivial, by simp [szC, szsC], by simp [dC, dsC]⟩
    · exact ⟨_, t2, ⟨by simp [szC, szsC], by simp [dC, dsC], fun ts e => by cases e; exact ⟨Nat.zero_le _, fun u hu => by cases hu⟩⟩, trivial, by simp [szC, szsC], by simp [dC, dsC]⟩
    · exact ⟨_, t3, fine_flat (by simp [szC, szsC]) (by simp [dC, dsC]) (fun ts e => by cases e), trivial, by simp [szC, szsC], by simp [dC, dsC]⟩
    · refine ⟨_, t4, ⟨by simp [szC, szsC], by simp [dC, dsC], fun ts e => ?_⟩, trivial, by simp [szC, szsC], by simp [dC, dsC]⟩
      cases e
      refine ⟨by decide, fun u hu => ?_⟩
      simp only [List.mem_cons, List.not_mem_nil, or_false] at hu
      rcases hu with rfl | rfl <;> trivial
    · exact ⟨_, t5, fine_flat (by simp [szC, szsC]) (by simp [dC, dsC]) (fun ts e => by cases e), trivial, by simp [szC, szsC], by simp [dC, dsC]⟩
    · exact ⟨_, t7, fine_flat (by simp [szC, szsC]) (by simp [dC, dsC]) (fun ts e => by cases e), sh2 _ _ (fun ts e => by cases e; decide) (fun ts e => by cases e), by simp [szC, szsC], by simp [dC, dsC]⟩
    · refine ⟨_, t9, ⟨by simp [szC, szsC], by simp [dC, dsC], fun ts e => ?_⟩, trivial, by simp [szC, szsC], by simp [dC, dsC]⟩
      cases e
      refine ⟨by decide, fun u hu => ?_⟩
      obtain rfl := List.mem_singleton.mp hu
      exact sh2 _ _ (fun ts e => by cases e) (fun ts e => by cases e)
  exact q v t J (ht.kp k gA) ff fs sz dd (KA.trans k) g

theorem ten50 : (10 : Int) ^ Int.toNat 50 = 10 ^ 50 := by decide +kernel
def sp__law_end (K : PySem.W.Frag) : Sp := fun vs H Q _ => ∃ (b p : Addr) (x y : Int), vs = [.ref b, .ref p] ∧ Bag b H ∧ SqT K H p [.int x, .int y] ∧ Bd 10 x ∧ Bd 10 y ∧ ∀ v t J, ThAt K b J v t → (∀ ts, t = .tup ts → ts.length ≤ 500) → szC t ≤ 10000 → dC t ≤ 4 → Kp b H J → Bag b J → Q v J
theorem ar__law_end (K : PySem.W.Frag) : ∀ vs H Q E, sp__law_end K vs H Q E → vs.length = 2 := by
  intro vs H Q E h
  obtain ⟨b, p, x, y, rfl, _⟩ := h
  rfl
abbrev S__law_end : Stmt := top 22
abbrev N__law_end : List Str := ["_law_bag_here", "_law_end_here", "_law_some"]
theorem sc__law_end : FnScope N__law_end ["_law_bag_here", "_law_end_here"] (defScope S__law_end) := ⟨rfl, rfl, rfl, by decide +kernel, rfl, by decide +kernel, by decide +kernel⟩
theorem ok__law_end {P : Program} {w : World} {K : PySem.W.Frag} {mg : Str → Option Value} {base : Heap} {f : Addr} {fd : FuncData} (F : Fun K "_law_end" "_law_end" S__law_end f fd) {f__law_take : Addr} {fd__law_take : FuncData} (C__law_take : Cal P w K mg base "_law_take" 1 f__law_take fd__law_take ["_law_bag_here", "_law_size"] (sp__law_take K)) (m_list : mg "list" = none) :
    FnG P w K mg base CX0 2 f fd ["_law_bag_here", "_law_end_here"] (sp__law_end K) := by
  refine Fun_okG F sc__law_end (ar__law_end K) (fun cdv A outer s H vs Q E hg hr h => ?_)
  obtain ⟨b, p, x, y, rfl, hb, hp, bx, bu, q⟩ := h
  refine ⟨_, (pss_cons (ps_set (i := 2) sc__law_end.nd rfl (Or.inl rfl) (pe_lst (pa_cons (pe_tup (pa_cons (pe_op op_ml (pe_ix (ixK (K := K) rfl) (pv 1) pe_int (fun _ _ => rfl)) pe_int) (pa_cons (pe_op op_ml (pe_ix (ixK (K := K) rfl) (pv 1) pe_int (fun _ _ => rfl)) pe_int) pa_nil))) (pa_cons (pe_tup (pa_cons (pe_un un_neg (pe_ix (ixK (K := K) rfl) (pv 1) pe_int (fun _ _ => rfl))) (pa_cons (pe_ix (ixK (K := K) rfl) (pv 1) pe_int (fun _ _ => rfl)) pa_nil))) (pa_cons (pe_tup (pa_cons (pe_op op_add (pe_ix (ixK (K := K) rfl) (pv 1) pe_int (fun _ _ => rfl)) pe_int) (pa_cons (pe_ix (ixK (K := K) rfl) (pv 1) pe_int (fun _ _ => rfl)) pa_nil))) (pa_cons (pe_callTy (T := "list") (lstK (K := K) rfl) (by rfl) m_list (by decide +kernel) (pa_cons (pv 1) pa_nil)) (pa_cons (pe_tup (pa_cons (pe_ix (ixK (K := K) rfl) (pv 1) pe_int (fun _ _ => rfl)) pa_nil)) (pa_cons (pe_ix (ixK (K := K) rfl) (pv 1) pe_int (fun _ _ => rfl)) (pa_cons pe_non pa_nil)))))))))
    (pss_cons (ps_set (i := 2) sc__law_end.nd rfl (Or.inl rfl) (pe_op op_cat (pv 2) (pe_lst (pa_cons (pe_tup (pa_cons pe_int (pa_cons pe_int pa_nil))) (pa_cons (pe_tup (pa_cons pe_int (pa_cons pe_int pa_nil))) (pa_cons (pe_tup (pa_cons pe_int (pa_cons pe_int pa_nil))) (pa_cons (pe_tup (pa_cons (pe_un un_neg pe_int) (pa_cons pe_int pa_nil))) (pa_cons (pe_tup (pa_cons pe_int (pa_cons pe_int pa_nil))) (pa_cons (pe_tup (pa_cons pe_bl (pa_cons pe_int pa_nil))) (pa_cons (pe_tup (pa_cons (pe_op op_pow pe_int pe_int) (pa_cons (pe_op op_add (pe_op op_pow pe_int pe_int) pe_int) pa_nil))) pa_nil))))))))))
    (pss_cons (ps_expr (pe_bm PySem.F.plainAttrs_list PySem.F.slot_list_append PySem.F.type_list_append mt_append (pv 2) (pa_cons (pe_tup (pa_cons (pe_op op_add (pe_op op_pow pe_int pe_int) pe_int) (pa_cons (pe_op op_pow pe_int pe_int) pa_nil))) pa_nil)))
    (pss_one (ps_ret (pe_ix (ixK (K := K) rfl) (pv 2) (pe_c C__law_take hg (hr.mono (by decide)) rfl (pa_cons (pv 0) (pa_cons pe_int pa_nil))) (fun _ _ => rfl))))))), ?_⟩
  walk_at "rd_6"
  rename_i p1 J1 n1 s1 e1 p2 J2 n2 s2 e2 p3 J3 n3 s3 e3
  have hp3 := sqt_same (Same.trans s1 (Same.trans s2 s3)) hp
  refine rd_lstOfT hp3 fun p4 J4 n4 s4 e4 => ?_
  have hp4 := sqt_same s4 hp3
  walk_at "rd_6"
  rename_i p5 J5 n5 s5 e5 p6 J6 n6 s6 e6 pa Ja na sa ea pb Jb nb sb eb pc Jc nc sc ec pd Jd nd sd ed pe Je ne se ee pf Jf nf sf ef pg Jg ng sg eg p7 J7 n7 s7 e7 p8 J8 n8 s8 e8 p9 J9 n9 s9 e9 JX uX eX
  have gs1 := hb.same s1
  have gs2 := gs1.same s2
  have gs3 := gs2.same s3
  have gs4 := gs3.same s4
  have gs5 := gs4.same s5
  have gs6 := gs5.same s6
  have gsa := gs6.same sa
  have gsb := gsa.same sb
  have gsc := gsb.same sc
  have gsd := gsc.same sd
  have gse := gsd.same se
  have gsf := gse.same sf
  have gsg := gsf.same sg
  have gs7 := gsg.same s7
  have gs8 := gs7.same s8
  have gs9 := gs8.same s9
  have m4 : p4 ≠ b := gs3.ne n4
  have m8 : p8 ≠ b := gs7.ne n8
  have gX := uX.bag m8 gs9
  have r9 : ∀ {c : Addr} {xs : List V}, J9 c = some (.tup xs) → JX c = some (.tup xs) := fun h => uX.tup h
  have r8 : ∀ {c : Addr} {xs : List V}, J8 c = some (.tup xs) → JX c = some (.tup xs) := fun h => r9 (s9 _ _ h)
  have r7 : ∀ {c : Addr} {xs : List V}, J7 c = some (.tup xs) → JX c = some (.tup xs) := fun h => r8 (s8 _ _ h)
  have rg : ∀ {c : Addr} {xs : List V}, Jg c = some (.tup xs) → JX c = some (.tup xs) := fun h => r7 (s7 _ _ h)
  have rf : ∀ {c : Addr} {xs : List V}, Jf c = some (.tup xs) → JX c = some (.tup xs) := fun h => rg (sg _ _ h)
  have re : ∀ {c : Addr} {xs : List V}, Je c = some (.tup xs) → JX c = some (.tup xs) := fun h => rf (sf _ _ h)
  have rd : ∀ {c : Addr} {xs : List V}, Jd c = some (.tup xs) → JX c = some (.tup xs) := fun h => re (se _ _ h)
  have rc : ∀ {c : Addr} {xs : List V}, Jc c = some (.tup xs) → JX c = some (.tup xs) := fun h => rd (sd _ _ h)
  have rb : ∀ {c : Addr} {xs : List V}, Jb c = some (.tup xs) → JX c = some (.tup xs) := fun h => rc (sc _ _ h)
  have ra : ∀ {c : Addr} {xs : List V}, Ja c = some (.tup xs) → JX c = some (.tup xs) := fun h => rb (sb _ _ h)
  have r6 : ∀ {c : Addr} {xs : List V}, J6 c = some (.tup xs) → JX c = some (.tup xs) := fun h => ra (sa _ _ h)
  have r5 : ∀ {c : Addr} {xs : List V}, J5 c = some (.tup xs) → JX c = some (.tup xs) := fun h => r6 (s6 _ _ h)
  have r4 : ∀ {c : Addr} {xs : List V}, J4 c = some (.tup xs) → JX c = some (.tup xs) := fun h => r5 (s5 _ _ h)
  have r3 : ∀ {c : Addr} {xs : List V}, J3 c = some (.tup xs) → JX c = some (.tup xs) := fun h => r4 (s4 _ _ h)
  have r2 : ∀ {c : Addr} {xs : List V}, J2 c = some (.tup xs) → JX c = some (.tup xs) := fun h => r3 (s3 _ _ h)
  have r1 : ∀ {c : Addr} {xs : List V}, J1 c = some (.tup xs) → JX c = some (.tup xs) := fun h => r2 (s2 _ _ h)
  have S47 : Same J4 J7 := Same.trans s5 (Same.trans s6 (Same.trans sa (Same.trans sb (Same.trans sc (Same.trans sd (Same.trans se (Same.trans sf (Same.trans sg s7))))))))
  have e4X : JX p4 = some (.lst [.int x, .int y]) := uX.lst (ne_of_none (S47 _ _ e4) n8) (s9 _ _ (s8 _ _ (S47 _ _ e4)))
  have SH7 : Same H J7 := Same.trans s1 (Same.trans s2 (Same.trans s3 (Same.trans s4 S47)))
  have nH8 : H p8 = none := Same.free SH7 n8
  have KX : Kp b H JX := Kp.pu (Kp.of (Same.trans SH7 (Same.trans s8 s9))) uX nH8
  have bi : ∀ {z : Int}, Bd 20 z → ThAt K b JX (.int z) (.int z) := fun h => .int _ (h.mono (by decide))
  have bb : ∀ {z : Int}, Bd 200 z → ThAt K b JX (.int z) (.int z) := fun h => .int _ (h.mono (by decide))
  have x1 : Bd 20 (x * 2) := Bd.mono (m := 10 + 2) (bx.mul (by unfold Bd; decide)) (by decide)
  have y1 : Bd 20 (y * 2) := Bd.mono (m := 10 + 2) (bu.mul (by unfold Bd; decide)) (by decide)
  have x2 : Bd 20 (-x) := bx.neg.mono (by decide)
  have x3 : Bd 20 (x + 1) := Bd.mono (m := 11) (bx.add (by unfold Bd; decide)) (by decide)
  have x0 : Bd 20 x := bx.mono (by decide)
  have y0 : Bd 20 y := bu.mono (by decide)
  have t1 : ThAt K b JX (.ref p1) (ratT (x * 2) (y * 2)) := .tup (SqT.of (r1 e1)) (.cons (bi x1) (.cons (bi y1) .nil))
  have t2 : ThAt K b JX (.ref p2) (ratT (-x) y) := .tup (SqT.of (r2 e2)) (.cons (bi x2) (.cons (bi y0) .nil))
  have t3 : ThAt K b JX (.ref p3) (ratT (x + 1) y) := .tup (SqT.of (r3 e3)) (.cons (bi x3) (.cons (bi y0) .nil))
  have t4 : ThAt K b JX (.ref p4) (.lst [.int x, .int y]) := .lst m4 e4X (.cons (bi x0) (.cons (bi y0) .nil))
  have t5 : ThAt K b JX (.ref p5) (.tup [.int x]) := .tup (SqT.of (r5 e5)) (.cons (bi x0) .nil)
  have ta : ThAt K b JX (.ref pa) (ratT 0 1) := .tup (SqT.of (ra ea)) (.cons (bi (Bd.lit (by decide +kernel))) (.cons (bi (Bd.lit (by decide +kernel))) .nil))
  have tb : ThAt K b JX (.ref pb) (ratT 1 1) := .tup (SqT.of (rb eb)) (.cons (bi (Bd.lit (by decide +kernel))) (.cons (bi (Bd.lit (by decide +kernel))) .nil))
  have tc : ThAt K b JX (.ref pc) (ratT 2 1) := .tup (SqT.of (rc ec)) (.cons (bi (Bd.lit (by decide +kernel))) (.cons (bi (Bd.lit (by decide +kernel))) .nil))
  have td : ThAt K b JX (.ref pd) (ratT (-1) 3) := .tup (SqT.of (rd ed)) (.cons (bi (Bd.lit (by decide +kernel))) (.cons (bi (Bd.lit (by decide +kernel))) .nil))
  have te : ThAt K b JX (.ref pe) (ratT 1 0) := .tup (SqT.of (re ee)) (.cons (bi (Bd.lit (by decide +kernel))) (.cons (bi (Bd.lit (by decide +kernel))) .nil))
  have tf : ThAt K b JX (.ref pf) (.tup [.bl true, .int 1]) := .tup (SqT.of (rf ef)) (.cons (.bl _) (.cons (bi (Bd.lit (by decide +kernel))) .nil))
  have tg : ThAt K b JX (.ref pg) (ratT (10 ^ Int.toNat 50) (10 ^ Int.toNat 50 + 1)) := .tup (SqT.of (rg eg)) (.cons (bb (Bd.lit (by decide +kernel))) (.cons (bb (Bd.lit (by decide +kernel))) .nil))
  have t9 : ThAt K b JX (.ref p9) (ratT (10 ^ Int.toNat 50 + 1) (10 ^ Int.toNat 50)) := .tup (SqT.of (r9 e9)) (.cons (bb (Bd.lit (by decide +kernel))) (.cons (bb (Bd.lit (by decide +kernel))) .nil))
  clear r1 r2 r3 r4 r5 r6 r7 r8 r9 ra rb rc rd re rf rg S47 SH7 s1 s2 s3 s4 s5 s6 s7 s8 s9 sa sb sc sd se sf sg e1 e2 e3 e4 e5 e6 e7 e8 e9 ea eb ec ed ee ef eg e4X gs1 gs2 gs3 gs4 gs5 gs6 gs7 gs8 gs9 gsa gsb gsc gsd gse gsf gsg n1 n2 n3 n4 n5 n6 n7 n8 n9 na nb nc nd ne nf ng uX hp3 hp4
  refine ⟨b, 15, rfl, gX, by decide, by decide, fun r J ra rb k g => ?_⟩
  refine rd_pick (k _ _ m8 eX) ra rb fun v hv => ?_
  obtain ⟨t, ht, fs, sz, dd⟩ : ∃ t, ThAt K b JX v t ∧ (∀ ts, t = .tup ts → ts.length ≤ 500) ∧ szC t ≤ 10000 ∧ dC t ≤ 4 := by
    have rt : ∀ x y, (∀ ts, ratT x y = .tup ts → ts.length ≤ 500) ∧ szC (ratT x y) ≤ 10000 ∧ dC (ratT x y) ≤ 4 := fun x y => ⟨fun ts e => by cases e; show 2 ≤ 500; decide, by simp [ratT, szC, szsC], by simp [ratT, dC, dsC]⟩
    simp only [List.mem_append, List.mem_cons, List.not_mem_nil, or_false] at hv
    rcases hv with ((rfl | rfl | rfl | rfl | rfl | rfl | rfl) | (rfl | rfl | rfl | rfl | rfl | rfl | rfl)) | rfl
    · exact ⟨_, t1, rt _ _⟩
    · exact ⟨_, t2, rt _ _⟩
    · exact ⟨_, t3, rt _ _⟩
    · exact ⟨_, t4, (fun ts e => by cases e), by simp [szC, szsC], by simp [dC, dsC]⟩
    · exact ⟨_, t5, fun ts e => by cases e; show 1 ≤ 500; decide, by simp [szC, szsC], by simp [dC, dsC]⟩
    · exact ⟨_, bi x0, (fun ts e => by cases e), by simp [szC], by simp [dC]⟩
    · exact ⟨_, .non, (fun ts e => by cases e), by simp [szC], by simp [dC]⟩
    · exact ⟨_, ta, rt _ _⟩
    · exact ⟨_, tb, rt _ _⟩
    · exact ⟨_, tc, rt _ _⟩
    · exact ⟨_, td, rt _ _⟩
    · exact ⟨_, te, rt _ _⟩
    · exact ⟨_, tf, fun ts e => by cases e; show 2 ≤ 500; decide, by simp [szC, szsC], by simp [dC, dsC]⟩
    · exact ⟨_, tg, rt _ _⟩
    · exact ⟨_, t9, rt _ _⟩
  exact q v t J (ht.kp k gX) fs sz dd (KX.trans k) g

def sp__law_changed (K : PySem.W.Frag) : Sp := fun vs H Q _ => ∃ (b l : Addr) (rs : List V) (ss : List Sn), vs = [.ref b, .ref l] ∧ Bag b H ∧ l ≠ b ∧ H l = some (.lst rs) ∧ SnsAt K H rs ss ∧ ThsAt K b H rs (ss.map snT) ∧ (∀ s ∈ ss, Bd 10 s.x ∧ Bd 10 s.y ∧ Bd 10 s.u ∧ Bd 10 s.v) ∧ rs.length ≤ 30 ∧
  ∀ v t J, ThAt K b J v t → Fine t → Kp b H J → Bag b J → Q v J
theorem ar__law_changed (K : PySem.W.Frag) : ∀ vs H Q E, sp__law_changed K vs H Q E → vs.length = 2 := by
  intro vs H Q E h
  obtain ⟨b, l, rs, ss, rfl, _⟩ := h
  rfl
abbrev S__law_changed : Stmt := top 23
abbrev N__law_changed : List Str := ["_law_bag_here", "_law_some", "_law_at", "_law_way", "_law_low", "_law_high", "_law_others"]
theorem sc__law_changed : FnScope N__law_changed ["_law_bag_here", "_law_some"] (defScope S__law_changed) := ⟨rfl, rfl, rfl, by decide +kernel, rfl, by decide +kernel, by decide +kernel⟩
theorem ok__law_changed {P : Program} {w : World} {K : PySem.W.Frag} {mg : Str → Option Value} {base : Heap} {f : Addr} {fd : FuncData} (F : Fun K "_law_changed" "_law_changed" S__law_changed f fd) {f__law_end : Addr} {fd__law_end : FuncData} (C__law_end : Cal P w K mg base "_law_end" 2 f__law_end fd__law_end ["_law_bag_here", "_law_end_here"] (sp__law_end K)) {f__law_take : Addr} {fd__law_take : FuncData} (C__law_take : Cal P w K mg base "_law_take" 1 f__law_take fd__law_take ["_law_bag_here", "_law_size"] (sp__law_take K)) {f__law_odd : Addr} {fd__law_odd : FuncData} (C__law_odd : Cal P w K mg base "_law_odd" 2 f__law_odd fd__law_odd ["_law_bag_here"] (sp__law_odd K)) (m_tuple : mg "tuple" = none) (m_len : mg "len" = none) :
    FnG P w K mg base CX0 3 f fd ["_law_bag_here", "_law_some"] (sp__law_changed K) := by
  refine Fun_okG F sc__law_changed (ar__law_changed K) (fun cdv A outer s H vs Q E hg hr h => ?_)
  obtain ⟨b, l, rs, ss, rfl, hb, nl, hl, hs, ht, bd, l30, q⟩ := h
  refine ⟨_, (pss_cons (ps_if (pt_cmpR (eqK (K := K) rfl (room_u hr)) (pv 1) (pe_lst pa_nil) (nomark _)) (pss_one (ps_ret (pe_c C__law_odd hg (hr.mono (by decide)) rfl (pa_cons (pv 0) pa_nil)))) pss_nil)
    (pss_cons (ps_par (i := 2) (j := 3) rfl sc__law_changed.nd rfl rfl (by decide) rfl rfl (pa_cons (pe_c C__law_take hg (hr.mono (by decide)) rfl (pa_cons (pv 0) (pa_cons (pe_callB (id := "len") (lenK (K := K) rfl) (by rfl) m_len (by decide +kernel) (pa_cons (pv 1) pa_nil)) pa_nil))) (pa_cons (pe_c C__law_take hg (hr.mono (by decide)) rfl (pa_cons (pv 0) (pa_cons pe_int pa_nil))) pa_nil)) (by rfl))
    (pss_cons (ps_asg (pe_ix (ixK (K := K) rfl) (pv 1) (pv 2) (fun _ _ => rfl)) (pg_tup rfl (pgs_cons (pg_name (i := 4) sc__law_changed.nd rfl (Or.inl rfl)) (pgs_cons (pg_name (i := 5) sc__law_changed.nd rfl (Or.inl rfl)) pgs_nil))))
    (pss_cons (ps_set (i := 6) sc__law_changed.nd rfl (Or.inl rfl) (pe_lst (pa_cons (pe_tup (pa_cons (pe_c C__law_end hg (hr.mono (by decide)) rfl (pa_cons (pv 0) (pa_cons (pv 4) pa_nil))) (pa_cons (pv 5) pa_nil))) (pa_cons (pe_tup (pa_cons (pv 4) (pa_cons (pe_c C__law_end hg (hr.mono (by decide)) rfl (pa_cons (pv 0) (pa_cons (pv 5) pa_nil))) pa_nil))) (pa_cons (pe_tup (pa_cons (pv 5) (pa_cons (pv 4) pa_nil))) (pa_cons (pe_lst (pa_cons (pv 4) (pa_cons (pv 5) pa_nil))) pa_nil))))))
    (pss_cons (ps_set (i := 6) sc__law_changed.nd rfl (Or.inl rfl) (pe_op op_cat (pv 6) (pe_lst (pa_cons (pe_tup (pa_cons (pv 4) (pa_cons (pv 5) (pa_cons (pv 5) pa_nil)))) (pa_cons (pe_tup (pa_cons (pv 4) pa_nil)) pa_nil)))))
    (pss_cons (ps_if (pt_cmpR op_lt (pv 3) pe_int (nomark _)) (pss_one (ps_ret (pe_op op_cat (pe_op op_cat (pe_slice (slK (K := K) rfl) (pv 1) po_none (po_some (pv 2))) (pe_lst (pa_cons (pe_ix (ixK (K := K) rfl) (pv 6) (pv 3) (fun _ _ => rfl)) pa_nil))) (pe_slice (slK (K := K) rfl) (pv 1) (po_some (pe_op op_add (pv 2) pe_int)) po_none)))) pss_nil)
    (pss_one (ps_ret (pe_ix (ixK (K := K) rfl) (pe_lst (pa_cons (pe_callTy (T := "tuple") (tupK (K := K) rfl) (by rfl) m_tuple (by decide +kernel) (pa_cons (pv 1) pa_nil)) (pa_cons (pe_op op_cat (pv 1) (pe_lst (pa_cons (pe_ix (ixK (K := K) rfl) (pv 1) (pv 2) (fun _ _ => rfl)) pa_nil))) (pa_cons (pe_revK (K := K) rfl (pv 1)) pa_nil)))) (pe_op op_sub (pv 3) pe_int) (fun _ _ => rfl)))))))))), ?_⟩
  have ln := hs.len
  walk_at "rd_6"
  rename_i p0 J0 n0 s0 e0
  refine rd_eqL (SqL.of (s0 _ _ hl)) (hs.mono fun p xs h => sqt_same s0 h) (SqL.of e0) .nil ?_
  walk_at "rd_6"
  refine rd_if (fun c => ?_) (fun c => ?_)
  · walk_at "rd_6"
    exact ⟨b, rfl, hb.same s0, fun v t J ht ff _ _ _ k g => q v t J ht ff ((Kp.of s0).trans k) g⟩
  · have l1 : 0 < ss.length := List.length_pos_iff.mpr c
    have hl0 := s0 _ _ hl
    have g0 := hb.same s0
    walk_at "rd_6"
    refine ⟨b, rs.length, rfl, g0, by omega, by omega, fun r1 J1 r1a r1b k1 g1 => ?_⟩
    obtain ⟨i, rfl⟩ := Int.eq_ofNat_of_zero_le r1a
    walk_at "rd_6"
    refine ⟨b, 9, rfl, g1, by decide, by decide, fun r2 J2 r2a r2b k2 g2 => ?_⟩
    have k02 := k1.trans k2
    have K2 : Kp b H J2 := (Kp.of s0).trans k02
    have hl2 := k02 _ _ nl hl0
    have hs2 : SnsAt K J2 rs ss := hs.mono fun p xs h => sqt_bag k02 g0 (sqt_same s0 h)
    have ht2 : ThsAt K b J2 rs (ss.map snT) := (ht.same s0).kp k02 g0
    clear k1 k2 k02 g1 hl0 g0 hl hs ht s0 e0 n0
    have il : i < rs.length := by omega
    have er : rs[i]? = some rs[i] := List.getElem?_eq_getElem il
    obtain ⟨s, es, c0, p, pq, ev, hc, h1, h2⟩ := hs2.get er
    obtain ⟨b1, b2, b3, b4⟩ := bd s (List.mem_of_getElem? es)
    rw [ev] at er
    clear ev
    walk_at "rd_6"
    refine rd_sxL (SqL.of hl2) (atI_nat er) ?_
    walk_at "rd_6"
    refine ⟨b, p, s.x, s.y, rfl, g2, h1.sq, b1, b2, fun v1 t1 J3 ht1 hn1 sz1 dd1 k3 g3 => ?_⟩
    have K3 := K2.trans k3
    have hl3 := k3 _ _ nl hl2
    have hs3 : SnsAt K J3 rs ss := hs2.mono fun p xs h => sqt_bag k3 g2 h
    have ht3 := ht2.kp k3 g2
    have h1 := h1.mono (J := J3) fun xs h => sqt_bag k3 g2 h
    have h2 := h2.mono (J := J3) fun xs h => sqt_bag k3 g2 h
    clear K2 hl2 hs2 ht2 k3 g2 hc
    walk_at "rd_6"
    rename_i q4 J4 n4 s4 e4
    have g4 := g3.same s4
    refine ⟨b, pq, s.u, s.v, rfl, g4, sqt_same s4 h2.sq, b3, b4, fun v2 t2 J5 ht2' hn2 sz2 dd2 k5 g5 => ?_⟩
    have k45 : Kp b J3 J5 := (Kp.of s4).trans k5
    have K5 := K3.trans k45
    have hl5 := k45 _ _ nl hl3
    have ht5 : ThsAt K b J5 rs (ss.map snT) := (ht3.same s4).kp k5 g4
    have hs5 : SnsAt K J5 rs ss := hs3.mono fun p xs h => sqt_bag k5 g4 (sqt_same s4 h)
    have h1 := h1.mono (J := J5) fun xs h => sqt_bag k5 g4 (sqt_same s4 h)
    have h2 := h2.mono (J := J5) fun xs h => sqt_bag k5 g4 (sqt_same s4 h)
    have ht1 := (ht1.same s4).kp k5 g4
    have e4 := k5.tup g4 e4
    clear K3 hl3 hs3 ht3 k45 k5 g3 g4 s4 n4
    walk_at "rd_6"
    rename_i q6 J6 n6 s6 e6 q7 J7 n7 s7 e7 q8 J8 n8 s8 e8 q9 J9 n9 s9 e9 qa Ja na sa ea qb Jb nb sb eb qc Jc nc sc ec qd Jd nd sd ed
    have gg6 := g5.same s6
    have gg7 := gg6.same s7
    have m8 : q8 ≠ b := gg7.ne n8
    have Sc := Same.trans sc sd
    have Sb := Same.trans sb Sc
    have Sa := Same.trans sa Sb
    have S9 := Same.trans s9 Sa
    have S8 := Same.trans s8 S9
    have S7 := Same.trans s7 S8
    have S6 := Same.trans s6 S7
    have KD := K5.trans (Kp.of S6)
    have gD := g5.same S6
    have hlD := S6 _ _ hl5
    have htD := ht5.same S6
    have hsD : SnsAt K Jd rs ss := hs5.mono fun p xs h => sqt_same S6 h
    have w1 : ThAt K b Jd (.ref p) (ratT s.x s.y) := th_rat (sqt_same S6 h1.sq) (b1.mono (by decide)) (b2.mono (by decide))
    have w2 : ThAt K b Jd (.ref pq) (ratT s.u s.v) := th_rat (sqt_same S6 h2.sq) (b3.mono (by decide)) (b4.mono (by decide))
    have x1 : ThAt K b Jd (.ref q4) (.tup [t1, ratT s.u s.v]) := .tup (SqT.of (S6 _ _ e4)) (.cons (ht1.same S6) (.cons w2 .nil))
    have x2 : ThAt K b Jd (.ref q6) (.tup [ratT s.x s.y, t2]) := .tup (SqT.of (S7 _ _ e6)) (.cons w1 (.cons (ht2'.same S6) .nil))
    have x3 : ThAt K b Jd (.ref q7) (.tup [ratT s.u s.v, ratT s.x s.y]) := .tup (SqT.of (S8 _ _ e7)) (.cons w2 (.cons w1 .nil))
    have x4 : ThAt K b Jd (.ref q8) (.lst [ratT s.x s.y, ratT s.u s.v]) := .lst m8 (S9 _ _ e8) (.cons w1 (.cons w2 .nil))
    have x5 : ThAt K b Jd (.ref qa) (.tup [ratT s.x s.y, ratT s.u s.v, ratT s.u s.v]) := .tup (SqT.of (Sb _ _ ea)) (.cons w1 (.cons w2 (.cons w2 .nil)))
    have x6 : ThAt K b Jd (.ref qb) (.tup [ratT s.x s.y]) := .tup (SqT.of (Sc _ _ eb)) (.cons w1 .nil)
    have ed' : Jd qd = some (.lst [.ref q4, .ref q6, .ref q7, .ref q8, .ref qa, .ref qb]) := ed
    clear ed gg6 gg7 Sc Sb Sa S9 S8 S7 S6 s6 s7 s8 s9 sa sb sc sd e4 e6 e7 e8 e9 ea eb ec n6 n7 n8 n9 na nb nc nd K5 g5 hl5 ht5 hs5 ht1 ht2' w1 w2 h1 h2
    obtain ⟨szS, dS⟩ := szs_sn ss
    have rat0 : ∀ x y, szC (ratT x y) = 1810 ∧ dC (ratT x y) = 1 := fun x y => ⟨by simp [ratT, szC, szsC], by simp [ratT, dC, dsC]⟩
    obtain ⟨z1, z2⟩ := snT_two s
    walk_at "rd_6"
    refine rd_if (fun c6 => ?_) (fun c6 => ?_)
    · walk_at "rd_6"
      rename_i f1 Je ne se ee
      rw [cut_take (by omega)] at ee
      refine rd_pick (se _ _ ed') r2a (by show r2 < 6; omega) fun w hw => ?_
      obtain ⟨tw, htw, szw, dw, shw⟩ : ∃ t, ThAt K b Jd w t ∧ szC t ≤ 20000 ∧ dC t ≤ 6 ∧ Shallow t := by
        simp only [List.mem_cons, List.not_mem_nil, or_false] at hw
        rcases hw with rfl | rfl | rfl | rfl | rfl | rfl
        · exact ⟨_, x1, by simp only [szC, szsC, (rat0 _ _).1]; omega, by simp only [dC, dsC, (rat0 _ _).2]; omega, hn1, z2⟩
        · exact ⟨_, x2, by simp only [szC, szsC, (rat0 _ _).1]; omega, by simp only [dC, dsC, (rat0 _ _).2]; omega, z1, hn2⟩
        · exact ⟨_, x3, by simp only [szC, szsC, (rat0 _ _).1]; omega, by simp only [dC, dsC, (rat0 _ _).2]; omega, z2, z1⟩
        · exact ⟨_, x4, by simp only [szC, szsC, (rat0 _ _).1]; omega, by simp only [dC, dsC, (rat0 _ _).2]; omega, trivial⟩
        · exact ⟨_, x5, by simp only [szC, szsC, (rat0 _ _).1]; omega, by simp only [dC, dsC, (rat0 _ _).2]; omega, trivial⟩
        · exact ⟨_, x6, by simp only [szC, szsC, (rat0 _ _).1]; omega, by simp only [dC, dsC, (rat0 _ _).2]; omega, trivial⟩
      clear x1 x2 x3 x4 x5 x6 hw
      walk_at "rd_6"
      rename_i f2 Jf nf sf ef
      have lt1 : (rs.take i).length ≤ 30 := by rw [List.length_take]; omega
      refine rd_catK (sf _ _ ee) ef (by simp only [List.length_cons, List.length_nil]; omega) fun f3 Jg ng sg eg => ?_
      have Sg := Same.trans se (Same.trans sf sg)
      have hlg := Sg _ _ hlD
      walk_at "rd_6"
      rename_i f4 Jh nh sh eh
      rw [show (i : Int) + 1 = ((i + 1 : Nat) : Int) by omega, cut_drop (by omega)] at eh
      refine rd_catK (sh _ _ eg) eh (by rw [List.length_append, List.length_drop]; simp only [List.length_cons, List.length_nil]; omega) fun f5 Ji ni si ei => ?_
      have Si := Same.trans Sg (Same.trans sh si)
      have m5 : f5 ≠ b := (gD.same (Same.trans Sg sh)).ne ni
      have hI : ThsAt K b Ji rs (ss.map snT) := htD.same Si
      have hW : ThsAt K b Ji (rs.take i ++ [w] ++ rs.drop (i + 1)) ((ss.map snT).take i ++ [tw] ++ (ss.map snT).drop (i + 1)) := ThsAt.app (hI.drop _) (ThsAt.app (.cons (htw.same Si) .nil) (hI.take _))
      have eq1 := szsC_app ((ss.map snT).take i) ((ss.map snT).drop i)
      have eq2 := dsC_app ((ss.map snT).take i) ((ss.map snT).drop i)
      rw [List.take_append_drop] at eq1 eq2
      have il2 : i < (ss.map snT).length := by rw [List.length_map]; omega
      have ed2 : (ss.map snT).drop i = (ss.map snT)[i] :: (ss.map snT).drop (i + 1) := List.drop_eq_getElem_cons il2
      rw [ed2, szsC] at eq1
      rw [ed2, dsC] at eq2
      refine q _ _ Ji (.lst m5 ei hW) (fine_lst ?_ ?_ ?_ fun u hu => ?_) (KD.trans (Kp.of Si)) (gD.same Si)
      · rw [szsC_app, szsC_app]
        simp only [szsC]
        omega
      · rw [dsC_app, dsC_app]
        simp only [dsC]
        omega
      · rw [List.length_append, List.length_append, List.length_take, List.length_drop, List.length_map]
        simp only [List.length_cons, List.length_nil]
        omega
      · rcases List.mem_append.mp hu with hu | hu
        · rcases List.mem_append.mp hu with hu | hu
          · exact shallow_sns ss u (List.mem_of_mem_take hu)
          · obtain rfl := List.mem_singleton.mp hu
            exact shw
        · exact shallow_sns ss u (List.mem_of_mem_drop hu)
    · clear x1 x2 x3 x4 x5 x6 ed'
      walk_at "rd_6"
      refine rd_tupL (SqL.of hlD) fun f1 Je ne se ee => ?_
      have hle := se _ _ hlD
      have er : rs[i]? = some rs[i] := List.getElem?_eq_getElem il
      walk_at "rd_6"
      refine rd_sxL (SqL.of hle) (atI_nat er) ?_
      walk_at "rd_6"
      rename_i f2 Jf nf sf ef
      refine rd_catK (sf _ _ hle) ef (by simp only [List.length_cons, List.length_nil]; omega) fun f3 Jg ng sg eg => ?_
      have hlg := sg _ _ (sf _ _ hle)
      walk_at "rd_6"
      refine rd_revL ?_
      walk_at "rd_6"
      refine ⟨l, rs, rfl, SqL.of hlg, fun f4 nh => ?_⟩
      have sh : Same Jg (upd Jg f4 (.lst rs.reverse)) := same_new nh
      have eh : (upd Jg f4 (.lst rs.reverse)) f4 = some (.lst rs.reverse) := upd_same
      generalize upd Jg f4 (.lst rs.reverse) = Jh at sh eh ⊢
      walk_at "rd_6"
      rename_i f5 Ji ni si ei
      have Se := Same.trans se (Same.trans sf sg)
      have Si := Same.trans Se (Same.trans sh si)
      have m3 : f3 ≠ b := (gD.same (Same.trans se sf)).ne ng
      have m4 : f4 ≠ b := (gD.same Se).ne nh
      have hI : ThsAt K b Ji rs (ss.map snT) := htD.same Si
      obtain ⟨ti, eti, hti⟩ := hI.get er
      have hti2 : ti ∈ ss.map snT := List.mem_of_getElem? eti
      have szi : szC ti = 3626 ∧ dC ti = 2 ∧ Shallow ti := by
        obtain ⟨s', _, rfl⟩ := List.mem_map.mp hti2
        exact ⟨(sz_sn s').1, (sz_sn s').2, shallow_sn s'⟩
      refine rd_pick ei (by omega) (by show r2 - 6 < 3; omega) fun w hw => ?_
      have lm : (ss.map snT).length ≤ 30 := by rw [List.length_map]; omega
      have srev : szsC (ss.map snT).reverse = szsC (ss.map snT) := by
        rw [← List.map_reverse, (szs_sn ss.reverse).1, (szs_sn ss).1, List.length_reverse]
      have drev : dsC (ss.map snT).reverse ≤ 2 := by
        rw [← List.map_reverse]
        exact (szs_sn ss.reverse).2
      simp only [List.mem_cons, List.not_mem_nil, or_false] at hw
      rcases hw with rfl | rfl | rfl
      · exact q _ _ Ji (.tup (SqT.of (si _ _ (sh _ _ (sg _ _ (sf _ _ ee))))) hI) (fine_tup (by omega) (by omega)) (KD.trans (Kp.of Si)) (gD.same Si)
      · refine q _ _ Ji (.lst m3 (si _ _ (sh _ _ eg)) (ThsAt.app (.cons hti .nil) hI)) (fine_lst ?_ ?_ ?_ fun u hu => ?_) (KD.trans (Kp.of Si)) (gD.same Si)
        · rw [szsC_app]
          simp only [szsC]
          omega
        · rw [dsC_app]
          simp only [dsC]
          omega
        · rw [List.length_append]
          simp only [List.length_cons, List.length_nil]
          omega
        · rcases List.mem_append.mp hu with hu | hu
          · exact shallow_sns ss u hu
          · obtain rfl := List.mem_singleton.mp hu
            exact szi.2.2
      · refine q _ _ Ji (.lst m4 (si _ _ eh) hI.rev) (fine_lst (by omega) (by omega) (by rw [List.length_reverse]; omega) fun u hu => shallow_sns ss u (List.mem_reverse.mp hu)) (KD.trans (Kp.of Si)) (gD.same Si)

def sp__law_units (K : PySem.W.Frag) : Sp := fun vs H Q _ => ∃ (b : Addr) (g : Nat), vs = [.ref b, .int (g : Int)] ∧ Bag b H ∧ g ≤ 30 ∧
  ∀ l J (f : Nat → Bool), l ≠ b → J l = some (.lst (((List.range g).filter f).map nV)) → Kp b H J → Bag b J → Q (.ref l) J
theorem ar__law_units (K : PySem.W.Frag) : ∀ vs H Q E, sp__law_units K vs H Q E → vs.length = 2 := by
  intro vs H Q E h
  obtain ⟨b, g, rfl, _⟩ := h
  rfl
abbrev S__law_units : Stmt := top 16
abbrev N__law_units : List Str := ["_law_bag_here", "_law_grain", "_law_found", "_law_inside", "_law_pace", "_law_unit"]
theorem sc__law_units : FnScope N__law_units ["_law_bag_here", "_law_grain"] (defScope S__law_units) := ⟨rfl, rfl, rfl, by decide +kernel, rfl, by decide +kernel, by decide +kernel⟩
theorem ok__law_units {P : Program} {w : World} {K : PySem.W.Frag} {mg : Str → Option Value} {base : Heap} {f : Addr} {fd : FuncData} (F : Fun K "_law_units" "_law_units" S__law_units f fd) {f__law_take : Addr} {fd__law_take : FuncData} (C__law_take : Cal P w K mg base "_law_take" 1 f__law_take fd__law_take ["_law_bag_here", "_law_size"] (sp__law_take K)) (m_range : mg "range" = none) :
    FnG P w K mg base CX0 2 f fd ["_law_bag_here", "_law_grain"] (sp__law_units K) := by
  refine Fun_okG F sc__law_units (ar__law_units K) (fun cdv A outer s H vs Q E hg hr h => ?_)
  obtain ⟨b, g, rfl, hb, g1, q⟩ := h
  refine ⟨_, (pss_cons (ps_par3 (i := 2) (j := 3) (l := 4) rfl sc__law_units.nd rfl rfl rfl (by decide) (by decide) (by decide) rfl rfl rfl (pa_cons (pe_lst pa_nil) (pa_cons (pe_cmpR op_eq (pe_c C__law_take hg (hr.mono (by decide)) rfl (pa_cons (pv 0) (pa_cons pe_int pa_nil))) pe_int (nomark _)) (pa_cons (pe_op op_add pe_int (pe_c C__law_take hg (hr.mono (by decide)) rfl (pa_cons (pv 0) (pa_cons pe_int pa_nil)))) pa_nil))) (by rfl))
    (pss_cons (ps_for PassesOwn.never rfl (pi_range1 rfl m_range (pa_cons (pv 1) pa_nil)) (pg_name (i := 5) sc__law_units.nd rfl (Or.inl rfl)) (pss_cons (ps_if (pt_cmpR op_eq (pe_c C__law_take hg (hr.mono (by decide)) rfl (pa_cons (pv 0) (pa_cons (pv 4) pa_nil))) pe_int (nomark _)) (pss_one (ps_set (i := 3) sc__law_units.nd rfl (Or.inl rfl) (pe_not (pv 3)))) pss_nil)
    (pss_one (ps_if (pt_val (pv 3)) (pss_one (ps_expr (pe_bm PySem.F.plainAttrs_list PySem.F.slot_list_append PySem.F.type_list_append mt_append (pv 2) (pa_cons (pv 5) pa_nil)))) pss_nil))))
    (pss_one (ps_ret (pv 2))))), ?_⟩
  walk_at "rd_6"
  refine ⟨b, 2, rfl, by walk_at "hp_6", by decide, by decide, fun r1 J1 r1a r1b k1 gb1 => ?_⟩
  walk_at "rd_6"
  refine ⟨b, 4, rfl, gb1, by decide, by decide, fun r2 J2 r2a r2b k2 gb2 => ?_⟩
  walk_at "rd_6"
  rename_i p0 J0 np0 sJ0 eJ0
  have nb : p0 ≠ b := hb.ne np0
  have e2 : J2 p0 = some (.lst []) := by walk_at "hp_6"
  refine lp_rng (fun i σ' M => ∃ (f : Nat → Bool) (k : Bool) (o5 : Option V), σ' = [some (.ref b), some (.int (g : Int)), some (.ref p0), some (.bl k), some (.int (1 + r2)), o5] ∧ M p0 = some (.lst (((List.range i).filter f).map nV)) ∧ Kp b H M ∧ Bag b M)
    ⟨fun _ => true, _, none, rfl, e2, by walk_at "kp_6", gb2⟩ (fun i σ M hi w => ?_) (fun σ M w => ?_)
  · obtain ⟨f, k, o5, rfl, hl, kp, gb⟩ := w
    have hz : (((List.range i).filter f).map nV).length ≤ 1000 := by
      have h1 := List.length_filter_le f (List.range i)
      rw [List.length_map]
      rw [List.length_range] at h1
      omega
    walk_at "rd_6"
    refine ⟨b, 1 + r2, rfl, gb, by omega, by omega, fun r3 J3 r3a r3b k3 gb3 => ?_⟩
    have hl3 : J3 p0 = some (.lst (((List.range i).filter f).map nV)) := k3 _ _ nb hl
    have kp3 : Kp b H J3 := kp.trans k3
    obtain ⟨f1, ef1⟩ := unit_step f i true
    obtain ⟨f0, ef0⟩ := unit_step f i false
    have on : ∀ J4, Pu p0 J3 J4 → J4 p0 = some (.lst (((List.range i).filter f).map nV ++ [.int (0 + (i : Int))])) → ∃ (f : Nat → Bool), J4 p0 = some (.lst (((List.range (i + 1)).filter f).map nV)) ∧ Kp b H J4 ∧ Bag b J4 := fun J4 p4 e4 => by
      refine ⟨f1, ?_, kp3.pu p4 np0, p4.bag nb gb3⟩
      rw [ef1, List.map_append, e4, Int.zero_add]
      rfl
    have off : ∃ (f : Nat → Bool), J3 p0 = some (.lst (((List.range (i + 1)).filter f).map nV)) ∧ Kp b H J3 ∧ Bag b J3 := by
      refine ⟨f0, ?_, kp3, gb3⟩
      rw [ef0, List.map_append, hl3]
      simp
    obtain ⟨fo, off1, off2, off3⟩ := off
    walk_at "rd_6"
    refine rd_if (fun c => ?_) (fun c => ?_)
    · walk_at "rd_6"
      cases k with
      | false =>
        refine iteT ?_
        walk_at "rd_6"
        refine rd_appK hl3 hz fun J4 p4 e4 => ?_
        obtain ⟨f', a1, a2, a3⟩ := on J4 p4 e4
        walk_at "rd_6"
        exact ⟨f', _, _, rfl, a1, a2, a3⟩
      | true =>
        refine iteF ?_
        walk_at "rd_6"
        exact ⟨fo, _, _, rfl, off1, off2, off3⟩
    · walk_at "rd_6"
      cases k with
      | true =>
        refine iteT ?_
        walk_at "rd_6"
        refine rd_appK hl3 hz fun J4 p4 e4 => ?_
        obtain ⟨f', a1, a2, a3⟩ := on J4 p4 e4
        walk_at "rd_6"
        exact ⟨f', _, _, rfl, a1, a2, a3⟩
      | false =>
        refine iteF ?_
        walk_at "rd_6"
        exact ⟨fo, _, _, rfl, off1, off2, off3⟩
  · obtain ⟨f, k, o5, rfl, hl, kp, gb⟩ := w
    rw [Int.toNat_natCast] at hl
    walk_at "rd_6"
    exact q _ _ f nb hl kp gb
def sp__law_drawn_grain (K : PySem.W.Frag) : Sp := fun vs H Q _ => ∃ b, vs = [.ref b] ∧ Bag b H ∧ ∀ (g : Nat) J, 1 ≤ g → g ≤ 30 → Kp b H J → Bag b J → Q (.int (g : Int)) J
theorem ar__law_drawn_grain (K : PySem.W.Frag) : ∀ vs H Q E, sp__law_drawn_grain K vs H Q E → vs.length = 1 := by
  intro vs H Q E h
  obtain ⟨b, rfl, _⟩ := h
  rfl
abbrev S__law_drawn_grain : Stmt := top 18
abbrev N__law_drawn_grain : List Str := ["_law_bag_here"]
theorem sc__law_drawn_grain : FnScope N__law_drawn_grain ["_law_bag_here"] (defScope S__law_drawn_grain) := ⟨rfl, rfl, rfl, by decide +kernel, rfl, by decide +kernel, by decide +kernel⟩
theorem ok__law_drawn_grain {P : Program} {w : World} {K : PySem.W.Frag} {mg : Str → Option Value} {base : Heap} {f : Addr} {fd : FuncData} (F : Fun K "_law_drawn_grain" "_law_drawn_grain" S__law_drawn_grain f fd) {f__law_take : Addr} {fd__law_take : FuncData} (C__law_take : Cal P w K mg base "_law_take" 1 f__law_take fd__law_take ["_law_bag_here", "_law_size"] (sp__law_take K)) :
    FnG P w K mg base CX0 2 f fd ["_law_bag_here"] (sp__law_drawn_grain K) := by
  refine Fun_okG F sc__law_drawn_grain (ar__law_drawn_grain K) (fun cdv A outer s H vs Q E hg hr h => ?_)
  obtain ⟨b, rfl, hb, q⟩ := h
  refine ⟨_, (pss_one (ps_ret (pe_ix (ixK (K := K) rfl) (pe_lst (pa_cons (pe_op op_add pe_int (pe_c C__law_take hg (hr.mono (by decide)) rfl (pa_cons (pv 0) (pa_cons pe_int pa_nil)))) (pa_cons pe_int (pa_cons pe_int (pa_cons pe_int pa_nil))))) (pe_c C__law_take hg (hr.mono (by decide)) rfl (pa_cons (pv 0) (pa_cons pe_int pa_nil))) (fun _ _ => rfl)))), ?_⟩
  walk_at "rd_6"
  refine ⟨b, 6, rfl, hb, by decide, by decide, fun r J r0 r1 k1 g1 => ?_⟩
  walk_at "rd_6"
  refine ⟨b, 4, rfl, by walk_at "hp_6", by decide, by decide, fun r2 J2 r2a r2b k2 g2 => ?_⟩
  refine rd_pick (xs := ?xs) ?h r2a ?l fun v hv => ?_
  case h => walk_at "hp_6"
  case l => exact r2b
  simp only [List.mem_cons, List.not_mem_nil, or_false] at hv
  obtain ⟨g, rfl, ga, gb⟩ : ∃ g : Nat, v = .int (g : Int) ∧ 1 ≤ g ∧ g ≤ 30 := by
    rcases hv with rfl | rfl | rfl | rfl
    · exact ⟨(1 + r).toNat, by rw [Int.toNat_of_nonneg (by omega)], by omega, by omega⟩
    · exact ⟨12, rfl, by decide, by decide⟩
    · exact ⟨30, rfl, by decide, by decide⟩
    · exact ⟨7, rfl, by decide, by decide⟩
  exact q _ _ ga gb (by walk_at "kp_6") g2
def sp__law_form (K : PySem.W.Frag) : Sp := fun vs H Q _ => ∃ (l : Addr) (g : Nat) (f : Nat → Bool), vs = [.ref l, .int (g : Int)] ∧ H l = some (.lst (((List.range g).filter f).map nV)) ∧ 1 ≤ g ∧ g ≤ 30 ∧
  ∀ m J rs ss, H m = none → Same H J → J m = some (.lst rs) → SnsAt K J rs ss → SnsOf g (rruns f g).reverse ss → rs.length ≤ 30 → Q (.ref m) J
theorem ar__law_form (K : PySem.W.Frag) : ∀ vs H Q E, sp__law_form K vs H Q E → vs.length = 2 := by
  intro vs H Q E h
  obtain ⟨b, g, f, rfl, _⟩ := h
  rfl
abbrev S__law_form : Stmt := top 17
abbrev N__law_form : List Str := ["_law_units_here", "_law_grain", "_law_found", "_law_unit", "_law_low", "_law_high"]
theorem sc__law_form : FnScope N__law_form ["_law_units_here", "_law_grain"] (defScope S__law_form) := ⟨rfl, rfl, rfl, by decide +kernel, rfl, by decide +kernel, by decide +kernel⟩
theorem ok__law_form {P : Program} {w : World} {K : PySem.W.Frag} {mg : Str → Option Value} {base : Heap} {f : Addr} {fd : FuncData} (F : Fun K "_law_form" "_law_form" S__law_form f fd) {f__law_lowest : Addr} {fd__law_lowest : FuncData} (C__law_lowest : Cal P w K mg base "_law_lowest" 2 f__law_lowest fd__law_lowest ["_law_top", "_law_under"] (sp__law_lowest K)) (m_range : mg "range" = none) :
    FnG P w K mg base CX0 3 f fd ["_law_units_here", "_law_grain"] (sp__law_form K) := by
  refine Fun_okG F sc__law_form (ar__law_form K) (fun cdv A outer s H vs Q E hg hr h => ?_)
  obtain ⟨l, g, f, rfl, hl, g0, g1, q⟩ := h
  refine ⟨_, (pss_cons (ps_set (i := 2) sc__law_form.nd rfl (Or.inl rfl) (pe_lst pa_nil))
    (pss_cons (ps_for PassesOwn.never rfl (pi_range1 rfl m_range (pa_cons (pv 1) pa_nil)) (pg_name (i := 3) sc__law_form.nd rfl (Or.inl rfl)) (pss_one (ps_if (pt_cmpR (inK (K := K) rfl) (pv 3) (pv 0) rfl) (pss_one (ps_if (PW.pt (pw_and (pt_cmpR (neK (K := K) rfl (room_u hr)) (pv 2) (pe_lst pa_nil) (nomark _)) (pw_and1 (pt_cmpR op_eq (pe_ix (ixK (K := K) rfl) (pe_ix (ixK (K := K) rfl) (pv 2) (pe_un un_neg pe_int) (fun _ _ => rfl)) pe_int (fun _ _ => rfl)) (pv 3) (nomark _))))) (pss_one (ps_asg (pe_tup (pa_cons (pe_ix (ixK (K := K) rfl) (pe_ix (ixK (K := K) rfl) (pv 2) (pe_un un_neg pe_int) (fun _ _ => rfl)) pe_int (fun _ _ => rfl)) (pa_cons (pe_op op_add (pv 3) pe_int) pa_nil))) (pg_sub (pv 2) (pe_un un_neg pe_int) set_list))) (pss_one (ps_expr (pe_bm PySem.F.plainAttrs_list PySem.F.slot_list_append PySem.F.type_list_append mt_append (pv 2) (pa_cons (pe_tup (pa_cons (pv 3) (pa_cons (pe_op op_add (pv 3) pe_int) pa_nil))) pa_nil)))))) pss_nil)))
    (pss_one (ps_ret (pe_lc (own := [("_law_low", 4), ("_law_high", 5)]) (g := (gTup K 2 (gCons (gName 4) (gCons (gName 5) gNil)))) rfl sc__law_form.nd (piL (K := K) rfl (pv 2)) (blkOk_by (own := [("_law_low", 4), ("_law_high", 5)]) (N := N__law_form) (sc := defScope S__law_form) (by decide +kernel)) (fun _ _ _ _ _ => (pgT rfl rfl (pgs_cons (pg_name (i := 4) sc__law_form.nd rfl (Or.inl rfl)) (pgs_cons (pg_name (i := 5) sc__law_form.nd rfl (Or.inl rfl)) pgs_nil)))) (fun _ _ _ _ _ => pts_nil) (fun _ _ _ _ _ => (pe_tup (pa_cons (pe_c C__law_lowest hg (hr.mono (by decide)) rfl (pa_cons (pv 4) (pa_cons (pv 1) pa_nil))) (pa_cons (pe_c C__law_lowest hg (hr.mono (by decide)) rfl (pa_cons (pv 5) (pa_cons (pv 1) pa_nil))) pa_nil))))))))), ?_⟩
  walk_at "rd_6"
  rename_i p0 J0 np0 sJ0 eJ0
  have hl0 := sJ0 _ _ hl
  have nl : l ≠ p0 := ne_of_none hl np0
  refine lp_rng (fun i σ' M => ∃ (rs : List V) (o3 o4 o5 : Option V), σ' = [some (.ref l), some (.int (g : Int)), some (.ref p0), o3, o4, o5] ∧ M p0 = some (.lst rs.reverse) ∧ PrsAt M rs (rruns f i) ∧ Kp p0 J0 M ∧ rs.length ≤ i)
    ⟨[], none, none, none, rfl, eJ0, .nil, Kp.refl, Nat.le_refl _⟩ (fun i σ M hi w => ?_) (fun σ M w => ?_)
  · obtain ⟨rs, o3, o4, o5, rfl, hp, pr, kp, le⟩ := w
    have ig : i < g := by
      rw [Int.toNat_natCast] at hi
      exact hi
    have hlM : M l = some (.lst (((List.range g).filter f).map nV)) := kp _ _ nl hl0
    walk_at "rd_6"
    refine ⟨l, _, rfl, .inl (SqL.of hlM), rfl, unit_flat _, ?_⟩
    rw [show (0 : Int) + (i : Int) = (i : Int) from Int.zero_add _]
    walk_at "rd_6"
    rw [if_neg Bool.false_ne_true, unit_in f ig]
    have succ := rruns_succ f i
    cases hf : f i with
    | false =>
      rw [hf, if_neg Bool.false_ne_true] at succ
      refine iteF ?_
      walk_at "rd_6"
      exact ⟨rs, _, _, _, rfl, hp, by rw [succ]; exact pr, kp, by omega⟩
    | true =>
      rw [hf, if_pos rfl] at succ
      refine iteT ?_
      walk_at "rd_6"
      rename_i p1 J1 n1 s1 e1
      have hp1 := s1 _ _ hp
      have pr1 := pr.mono fun c xs h => s1 _ _ h
      have kp1 : Kp p0 J0 J1 := kp.trans (Kp.of s1)
      have len := pr.len
      refine rd_neNil hp1 pr1.rev e1 ?_
      have app : ∀ (c : Addr) (J3 : Hp), Same J1 J3 → J3 c = some (.tup [.int (i : Int), .int ((i : Int) + 1)]) → (∀ lo hi t, rruns f i = (lo, hi) :: t → hi ≠ i) → ∀ J4, Pu p0 J3 J4 → J4 p0 = some (.lst (rs.reverse ++ [.ref c])) →
          ∃ (rs' : List V), J4 p0 = some (.lst rs'.reverse) ∧ PrsAt J4 rs' (rruns f (i + 1)) ∧ Kp p0 J0 J4 ∧ rs'.length ≤ i + 1 := fun c J3 s3 e3 no J4 p4 e4 => by
        refine ⟨.ref c :: rs, by rw [List.reverse_cons]; exact e4, ?_, fun a o ne e => p4.1 a o ne (s3 _ _ (kp1 a o ne e)), by simpa using le⟩
        have e : rruns f (i + 1) = (i, i + 1) :: rruns f i := by
          rw [succ]
          cases ez : rruns f i with
          | nil => rfl
          | cons r t =>
            obtain ⟨lo, hi⟩ := r
            exact if_neg (no lo hi t ez)
        rw [e]
        exact .cons (p4.tup (by rw [e3]; rfl)) (pr1.mono fun c xs h => p4.tup (s3 _ _ h))
      generalize rruns f i = R at pr pr1 succ app
      cases pr with
      | nil =>
        walk_at "rd_6"
        refine iteF ?_
        refine iteF ?_
        walk_at "rd_6"
        rename_i c J3 n3 s3 e3 J4 p4 e4
        obtain ⟨rs', a1, a2, a3, a4⟩ := app c J3 s3 e3 (fun lo hi t z => by cases z) J4 p4 e4
        exact ⟨rs', _, _, _, rfl, a1, a2, a3, a4⟩
      | @cons c0 t0 lo hi ps h t =>
        cases pr1 with
        | @cons _ _ _ _ _ h1 t1 =>
        have hp2 : J1 p0 = some (.lst (t0.reverse ++ [.ref c0])) := by rw [← List.reverse_cons]; exact hp1
        rw [decide_eq_false (show ¬ (V.ref c0 :: t0).reverse = [] by simp)]
        walk_at "rd_6"
        refine iteT ?_
        walk_at "rd_6"
        refine rd_last hp2 ?_
        walk_at "rd_6"
        refine rd_if (fun c => ?_) (fun c => ?_)
        · have hi' : hi = i := by omega
          walk_at "rd_6"
          refine rd_last hp2 ?_
          walk_at "rd_6"
          rename_i c2 J3 n3 s3 e3
          refine rd_setLast (s3 _ _ hp2) fun J4 p4 e4 => ?_
          refine ⟨.ref c2 :: t0, _, _, _, rfl, by rw [List.reverse_cons]; exact e4, ?_, fun a o ne e => p4.1 a o ne (s3 _ _ (kp1 a o ne e)), by simp at le ⊢; omega⟩
          rw [succ]
          show PrsAt J4 (.ref c2 :: t0) (if hi = i then (lo, i + 1) :: ps else (i, i + 1) :: (lo, hi) :: ps)
          rw [if_pos hi']
          exact .cons (p4.tup e3) (t1.mono fun c xs h => p4.tup (s3 _ _ h))
        · have hi' : hi ≠ i := fun z => c (by rw [z])
          walk_at "rd_6"
          rename_i c2 J3 n3 s3 e3
          refine rd_appK (s3 _ _ hp1) (by rw [List.length_reverse]; omega) fun J4 p4 e4 => ?_
          obtain ⟨rs', a1, a2, a3, a4⟩ := app c2 J3 s3 e3 (fun lo' hi'' t z => by cases z; exact hi') J4 p4 e4
          walk_at "rd_6"
          exact ⟨rs', _, _, _, rfl, a1, a2, a3, a4⟩
  · obtain ⟨rs, o3, o4, o5, rfl, hp, pr, kp, le⟩ := w
    rw [Int.toNat_natCast] at pr le
    have ok := rruns_ok f g
    walk_at "rd_6"
    intro D nD
    have prv := pr.rev
    have hs0 : ∀ J, Kp D M J → ∀ c xs, M c = some (.tup xs) → J c = some (.tup xs) := fun J k c xs h => k c _ (ne_of_none h nD) h
    refine lc_growL (fun ys J => ∃ ss, SnsAt K J ys ss ∧ SnsOf g ((rruns f g).reverse.take ys.length) ss) hp (by rw [List.length_reverse]; omega) nD (fun J k => ⟨[], .nil, by rw [List.length_nil, List.take_zero]; exact .nil⟩) (fun i x ys J hx i5 hy k hD p => ?_) fun ys J hy k hD p => ?_
    · obtain ⟨c, lo, hi, rfl, hpi, hc⟩ := prv.get hx
      obtain ⟨ss, sa, so⟩ := p
      have hcJ : J c = some (.tup [.int lo, .int hi]) := hs0 J k _ _ hc
      have hm : (lo, hi) ∈ rruns f g := List.mem_reverse.mp (List.mem_of_getElem? hpi)
      have h1 := ok.bnd _ hm
      have h2 := ok.pos _ hm
      have h1' : hi ≤ g := h1
      have h2' : lo < hi := h2
      have bg : Bd 8000 (g : Int) := Bd.mono (m := 10) (by unfold Bd; omega) (by decide)
      walk_at "rd_6"
      refine ⟨rfl, ?_⟩
      walk_at "rd_6"
      refine ⟨lo, g, rfl, by omega, bg, fun x1 y1 q1 M1 low1 nq1 t1 e1 => ?_⟩
      walk_at "rd_6"
      refine ⟨hi, g, rfl, by omega, bg, fun x2 y2 q2 M2 low2 nq2 t2 e2 => ?_⟩
      walk_at "rd_6"
      rename_i z M3 nz t3 e3
      have tt : Same J M3 := Same.trans t1 (Same.trans t2 t3)
      refine lcEnd_mk (tt _ _ hD) hy i5 (k.trans (Kp.of tt)) fun J4 p4 e4 => ?_
      have ra : Ra K J4 q1 x1 y1 := ⟨SqT.of (p4.tup (t3 _ _ (t2 _ _ e1))), low1.1, low1.2.1, Bd.mono (m := 10) (by have := low1.2.2.2.1; unfold Bd; omega) (by decide), Bd.mono (m := 10) (by have := low1.2.2.2.2; unfold Bd; omega) (by decide)⟩
      have rb : Ra K J4 q2 x2 y2 := ⟨SqT.of (p4.tup (t3 _ _ e2)), low2.1, low2.2.1, Bd.mono (m := 10) (by have := low2.2.2.2.1; unfold Bd; omega) (by decide), Bd.mono (m := 10) (by have := low2.2.2.2.2; unfold Bd; omega) (by decide)⟩
      refine ⟨ss ++ [⟨x1, y1, x2, y2⟩], (sa.mono fun p xs h => sqt_pu p4 (sqt_same tt h)).snoc ⟨z, q1, q2, rfl, SqT.of (p4.tup e3), ra, rb⟩, ?_⟩
      have et : (rruns f g).reverse.take (ys ++ [V.ref z]).length = (rruns f g).reverse.take ys.length ++ [(lo, hi)] := by
        rw [List.length_append, List.length_singleton, hy, List.take_add_one, hpi]
        rfl
      rw [et]
      exact so.snoc low1 low2
    · obtain ⟨ss, sa, so⟩ := p
      have back : ∀ a o, H a = some o → M a = some o ∧ a ≠ p0 := fun a o e => ⟨kp a o (ne_of_none e np0) (sJ0 _ _ e), ne_of_none e np0⟩
      have hDn : H D = none := by
        cases e : H D with
        | none => rfl
        | some o => cases nD.symm.trans (back D o e).1
      have lenR : rs.length = (rruns f g).length := pr.len
      rw [hy, List.length_reverse, lenR, ← List.length_reverse, List.take_length] at so
      exact q D J ys ss hDn (fun a o e => k a o (ne_of_none (back a o e).1 nD) (back a o e).1) hD sa so (by rw [hy, List.length_reverse]; omega)

def sp_law (K : PySem.W.Frag) : Sp := fun vs H Q _ => ∃ (a : Addr) (ns : List Int), vs = [.ref a] ∧ Scr K H a (ns.map V.int) ∧ ns.length ≤ 63 ∧ ∀ H', Q (.bl true) H'
theorem ar_law (K : PySem.W.Frag) : ∀ vs H Q E, sp_law K vs H Q E → vs.length = 1 := by
  intro vs H Q E h
  obtain ⟨a, ns, rfl, _⟩ := h
  rfl
abbrev S_law : Stmt := top 24
abbrev N_law : List Str := ["_law_script", "_law_k", "_law_bag_here", "_law_turn", "_law_grain", "_law_some", "_law_thing", "_law_shown", "_law_again"]
theorem sc_law : FnScope N_law ["_law_script"] (defScope S_law) := ⟨rfl, rfl, rfl, by decide +kernel, rfl, by decide +kernel, by decide +kernel⟩
theorem ok_law {P : Program} {w : World} {K : PySem.W.Frag} {mg : Str → Option Value} {base : Heap} {f : Addr} {fd : FuncData} (F : Fun K "law" "law" S_law f fd) {f_is_cuts : Addr} {fd_is_cuts : FuncData} (C_is_cuts : Cal P w K mg base "is_cuts" 4 f_is_cuts fd_is_cuts ["thing"] (sp_is_cuts K)) {f__law_odd : Addr} {fd__law_odd : FuncData} (C__law_odd : Cal P w K mg base "_law_odd" 2 f__law_odd fd__law_odd ["_law_bag_here"] (sp__law_odd K)) {f__law_changed : Addr} {fd__law_changed : FuncData} (C__law_changed : Cal P w K mg base "_law_changed" 3 f__law_changed fd__law_changed ["_law_bag_here", "_law_some"] (sp__law_changed K)) {f__law_is_set : Addr} {fd__law_is_set : FuncData} (C__law_is_set : Cal P w K mg base "_law_is_set" 4 f__law_is_set fd__law_is_set ["_law_thing"] (sp__law_is_set K)) {f__law_form : Addr} {fd__law_form : FuncData} (C__law_form : Cal P w K mg base "_law_form" 3 f__law_form fd__law_form ["_law_units_here", "_law_grain"] (sp__law_form K)) {f__law_units : Addr} {fd__law_units : FuncData} (C__law_units : Cal P w K mg base "_law_units" 2 f__law_units fd__law_units ["_law_bag_here", "_law_grain"] (sp__law_units K)) {f__law_drawn_grain : Addr} {fd__law_drawn_grain : FuncData} (C__law_drawn_grain : Cal P w K mg base "_law_drawn_grain" 2 f__law_drawn_grain fd__law_drawn_grain ["_law_bag_here"] (sp__law_drawn_grain K)) {f__law_bag : Addr} {fd__law_bag : FuncData} (C__law_bag : Cal P w K mg base "_law_bag" 1 f__law_bag fd__law_bag ["_law_script", "_law_at"] (sp__law_bag K)) (m_range : mg "range" = none) (m_max : mg "max" = none) (m_min : mg "min" = none) (m_len : mg "len" = none) (m_repr : mg "repr" = none) :
    FnG P w K mg base CX0 5 f fd ["_law_script"] (sp_law K) := by
  refine Fun_okG F sc_law (ar_law K) (fun cdv A outer s H vs Q E hg hr h => ?_)
  obtain ⟨a, ns, rfl, hS, hl, q⟩ := h
  refine ⟨_, (pss_cons (ps_for PassesOwn.never rfl (pi_range1 rfl m_range (pa_cons (pe_callB (id := "max") (call_max2 rfl) (by rfl) m_max (by decide +kernel) (pa_cons pe_int (pa_cons (pe_callB (id := "min") (call_min2 rfl) (by rfl) m_min (by decide +kernel) (pa_cons pe_int (pa_cons (pe_callB (id := "len") (lenK (K := K) rfl) (by rfl) m_len (by decide +kernel) (pa_cons (pv 0) pa_nil)) pa_nil))) pa_nil))) pa_nil)) (pg_name (i := 1) sc_law.nd rfl (Or.inl rfl)) (pss_cons (ps_set (i := 2) sc_law.nd rfl (Or.inl rfl) (pe_c C__law_bag hg (hr.mono (by decide)) rfl (pa_cons (pv 0) (pa_cons (pv 1) pa_nil))))
    (pss_one (ps_for PassesOwn.never rfl (pi_range1 rfl m_range (pa_cons pe_int pa_nil)) (pg_name (i := 3) sc_law.nd rfl (Or.inl rfl)) (pss_cons (ps_set (i := 4) sc_law.nd rfl (Or.inl rfl) (pe_c C__law_drawn_grain hg (hr.mono (by decide)) rfl (pa_cons (pv 2) pa_nil)))
    (pss_cons (ps_set (i := 5) sc_law.nd rfl (Or.inl rfl) (pe_c C__law_form hg (hr.mono (by decide)) rfl (pa_cons (pe_c C__law_units hg (hr.mono (by decide)) rfl (pa_cons (pv 2) (pa_cons (pv 4) pa_nil))) (pa_cons (pv 4) pa_nil))))
    (pss_cons (ps_if (pt_cmpR op_notBl (pe_c C_is_cuts hg (hr.mono (by decide)) rfl (pa_cons (pv 5) pa_nil)) pe_bl (nomark _)) (pss_one (ps_ret pe_bl)) pss_nil)
    (pss_one (ps_for PassesOwn.never rfl (piL (K := K) rfl (pe_lst (pa_cons (pe_c C__law_changed hg (hr.mono (by decide)) rfl (pa_cons (pv 2) (pa_cons (pv 5) pa_nil))) (pa_cons (pe_c C__law_changed hg (hr.mono (by decide)) rfl (pa_cons (pv 2) (pa_cons (pv 5) pa_nil))) (pa_cons (pe_c C__law_odd hg (hr.mono (by decide)) rfl (pa_cons (pv 2) pa_nil)) (pa_cons (pe_lst (pa_cons (pe_c C__law_odd hg (hr.mono (by decide)) rfl (pa_cons (pv 2) pa_nil)) pa_nil)) pa_nil)))))) (pg_name (i := 6) sc_law.nd rfl (Or.inr rfl)) (pss_cons (ps_set (i := 7) sc_law.nd rfl (Or.inl rfl) (pe_callB (id := "repr") (reprH (K := K) rfl hg (room_u hr)) (by rfl) m_repr (by decide +kernel) (pa_cons (pv 6) pa_nil)))
    (pss_cons (ps_if (pt_cmpR op_ne (pe_callB (id := "repr") (reprH (K := K) rfl hg (room_u hr)) (by rfl) m_repr (by decide +kernel) (pa_cons (pe_lc (own := [("_law_again", 8)]) rfl sc_law.nd (pi_range1 rfl m_range (pa_cons pe_int pa_nil)) (blkOk_by (own := [("_law_again", 8)]) (N := N_law) (sc := defScope S_law) (by decide +kernel)) (fun _ _ _ _ _ => (pg_name (i := 8) sc_law.nd rfl (Or.inl rfl))) (fun _ _ _ _ _ => pts_nil) (fun _ _ _ _ _ => (pe_c C_is_cuts hg (hr.mono (by decide)) rfl (pa_cons (pv 6) pa_nil)))) pa_nil)) (pe_callB (id := "repr") (reprH (K := K) rfl hg (room_u hr)) (by rfl) m_repr (by decide +kernel) (pa_cons (pe_op op_rep (pe_lst (pa_cons (pe_c C__law_is_set hg (hr.mono (by decide)) rfl (pa_cons (pv 6) pa_nil)) pa_nil)) pe_int) pa_nil)) (nomark _)) (pss_one (ps_ret pe_bl)) pss_nil)
    (pss_one (ps_if (pt_cmpR op_ne (pe_callB (id := "repr") (reprH (K := K) rfl hg (room_u hr)) (by rfl) m_repr (by decide +kernel) (pa_cons (pv 6) pa_nil)) (pv 7) (nomark _)) (pss_one (ps_ret pe_bl)) pss_nil)))))))))))))
    (pss_one (ps_ret (pe_and (pe_c C_is_cuts hg (hr.mono (by decide)) rfl (pa_cons (pe_lst pa_nil) pa_nil)) (pe_and (pe_c C_is_cuts hg (hr.mono (by decide)) rfl (pa_cons (pe_lst (pa_cons (pe_tup (pa_cons (pe_tup (pa_cons pe_int (pa_cons pe_int pa_nil))) (pa_cons (pe_tup (pa_cons pe_int (pa_cons pe_int pa_nil))) pa_nil))) pa_nil)) pa_nil)) (pe_one (pe_not (pe_c C_is_cuts hg (hr.mono (by decide)) rfl (pa_cons (pe_lst (pa_cons (pe_tup (pa_cons (pe_tup (pa_cons pe_int (pa_cons pe_int pa_nil))) (pa_cons (pe_tup (pa_cons pe_int (pa_cons pe_int pa_nil))) pa_nil))) (pa_cons (pe_tup (pa_cons (pe_tup (pa_cons pe_int (pa_cons pe_int pa_nil))) (pa_cons (pe_tup (pa_cons pe_int (pa_cons pe_int pa_nil))) pa_nil))) pa_nil))) pa_nil))))))))), ?_⟩
  walk_at "rd_6"
  refine lp_rng (fun _ σ' H' => Scr K H' a (ns.map V.int) ∧ ∃ o1 o2 o3 o4 o5 o6 o7 o8, σ' = [some (.ref a), o1, o2, o3, o4, o5, o6, o7, o8]) ⟨hS, none, none, none, none, none, none, none, none, rfl⟩ (fun i σ1 H1 hi w => ?_) (fun σ1 H1 w => ?_)
  · obtain ⟨hS1, o1, o2, o3, o4, o5, o6, o7, o8, rfl⟩ := w
    have hi2 : i < 8 ∨ i < 2 := by
      rw [List.length_map] at hi
      split at hi <;> split at hi <;> omega
    walk_at "rd_6"
    refine ⟨a, ns, _, rfl, hS1, hl, by omega, by omega, fun b J0 nb s0 g0 => ?_⟩
    have hS0 : Scr K J0 a (ns.map V.int) := hS1.same s0
    walk_at "rd_6"
    refine lp_rng (fun _ σ' H' => Scr K H' a (ns.map V.int) ∧ Bag b H' ∧ ∃ o3 o4 o5 o6 o7 o8, σ' = [some (.ref a), some (.int (0 + (i : Int))), some (.ref b), o3, o4, o5, o6, o7, o8]) ⟨hS0, g0, o3, o4, o5, o6, o7, o8, rfl⟩ (fun j σ2 H2 hj w => ?_) (fun σ2 H2 w => ?_)
    · obtain ⟨hS2, g2, o3, o4, o5, o6, o7, o8, rfl⟩ := w
      clear hi hi2 hS1 hS0 hj hl s0 g0 hS
      walk_at "rd_6"
      refine ⟨b, rfl, g2, fun g J1 gA gB k1 g1 => ?_⟩
      have hS3 := hS2.kp k1 g2
      walk_at "rd_6"
      refine ⟨b, g, rfl, g1, gB, fun lh J2 f nh eh k2 gb2 => ?_⟩
      have hS4 := hS3.kp k2 g1
      clear k1 k2 g1 g2 hS2 hS3
      walk_at "rd_6"
      refine ⟨lh, g, f, rfl, eh, gA, gB, fun l J3 rs ss nl3 s3 el sa so le => ?_⟩
      have gb3 := gb2.same s3
      have hS5 := hS4.same s3
      have nl : l ≠ b := gb2.ne nl3
      obtain ⟨ht, bd⟩ := ths_form (b := b) gB sa so fun r hr => by
        have h1 := (rruns_ok f g).bnd r (List.mem_reverse.mp hr)
        have h2 := (rruns_ok f g).pos r (List.mem_reverse.mp hr)
        omega
      have cb : cutsB ss = true := Frm.cuts (f := f) ⟨gA, so⟩
      have cf := isCuts_form sa cb
      clear s3 eh gb2 hS4 nl3 cb
      walk_at "rd_6"
      refine ⟨.ref l, _, b, rfl, .lst nl el ht, fun ts e => by cases e; rw [List.length_map, ← sa.len]; omega, fun J4 s4 => ?_⟩
      rw [cf]
      walk_at "rd_6"
      refine rd_isNB ?_
      walk_at "rd_6"
      refine iteF ?_
      have gb4 := gb3.same s4
      have hS6 := hS5.same s4
      have el4 := s4 _ _ el
      have sa4 := sa.mono (J := J4) fun p xs h => sqt_same s4 h
      have ht4 := ht.same s4
      clear s4 gb3 hS5 el sa ht cf
      walk_at "rd_6"
      refine ⟨b, l, rs, ss, rfl, gb4, nl, el4, sa4, ht4, bd, le, fun v1 t1 J5 x1 f1 k5 gb5 => ?_⟩
      have hS7 := hS6.kp k5 gb4
      have el5 := k5 _ _ nl el4
      have sa5 : SnsAt K J5 rs ss := sa4.mono fun p xs h => sqt_bag k5 gb4 h
      have ht5 := ht4.kp k5 gb4
      clear k5 gb4 hS6 el4 sa4 ht4
      walk_at "rd_6"
      refine ⟨b, l, rs, ss, rfl, gb5, nl, el5, sa5, ht5, bd, le, fun v2 t2 J6 x2 f2 k6 gb6 => ?_⟩
      have hS8 := hS7.kp k6 gb5
      have x1 := x1.kp k6 gb5
      clear k6 gb5 hS7 el5 sa5 ht5
      walk_at "rd_6"
      refine ⟨b, rfl, gb6, fun v3 t3 J7 x3 f3 _ _ _ k7 gb7 => ?_⟩
      have hS9 := hS8.kp k7 gb6
      have x1 := x1.kp k7 gb6
      have x2 := x2.kp k7 gb6
      clear k7 gb6 hS8
      walk_at "rd_6"
      refine ⟨b, rfl, gb7, fun v4 t4 J8 x4 f4 sh4 sz4 dd4 k8 gb8 => ?_⟩
      have hSA := hS9.kp k8 gb7
      have x1 := x1.kp k8 gb7
      have x2 := x2.kp k8 gb7
      have x3 := x3.kp k8 gb7
      clear k8 gb7 hS9
      walk_at "rd_6"
      rename_i p9 J9 n9 s9 e9 pA JA nA sA eA
      have S2 := Same.trans s9 sA
      have m9 : p9 ≠ b := gb8.ne n9
      have hSB := hSA.same S2
      have gB' := gb8.same S2
      have x5 : ThAt K b JA (.ref p9) (.lst [t4]) := .lst m9 (sA _ _ e9) (.cons (x4.same S2) .nil)
      have f5 : Fine (.lst [t4]) := fine_lst (by simp only [szsC]; omega) (by simp only [dsC]; omega) (by show 1 ≤ 400; decide) (fun u hu => by
        obtain rfl := List.mem_singleton.mp hu
        exact sh4)
      have x1 := x1.same S2
      have x2 := x2.same S2
      have x3 := x3.same S2
      clear S2 s9 sA e9 n9 nA hSA gb8 x4 f4 sh4 sz4 dd4
      refine lp_lst (xs := [v1, v2, v3, .ref p9]) (fun i' σ' M => Same JA M ∧ ∃ o6 o7 o8, σ' = [some (.ref a), some (.int (0 + (i : Int))), some (.ref b), some (.int (0 + (j : Int))), some (.int (g : Int)), some (.ref l), o6, o7, o8]) ⟨fun _ _ e => e, o6, o7, o8, rfl⟩ (fun i' σ M _ w => SqL.of (w.1 _ _ eA)) (fun i' v σ M hx w => ?_) (fun σ M w => ?_)
      · obtain ⟨sM, o6, o7, o8, rfl⟩ := w
        obtain ⟨t, xt, ft⟩ : ∃ t, ThAt K b JA v t ∧ Fine t := by
          have h := List.mem_of_getElem? hx
          simp only [List.mem_cons, List.not_mem_nil, or_false] at h
          rcases h with rfl | rfl | rfl | rfl
          · exact ⟨_, x1, f1⟩
          · exact ⟨_, x2, f2⟩
          · exact ⟨_, x3, f3⟩
          · exact ⟨_, x5, f5⟩
        have xM := xt.same sM
        walk_at "rd_6"
        refine rd_reprThing xM ft ?_
        walk_at "rd_6"
        intro D nD
        refine lc_growR (fun ys _ => ys = List.replicate ys.length (.bl (isCuts t))) (by decide) nD (fun J k => rfl) (fun i'' ys J hi hy k hD e => ?_) fun ys J hy k hD e => ?_
        · have s1 : Same M J := fun a o h => k a o (ne_of_none h nD) h
          walk_at "rd_6"
          refine ⟨rfl, ?_⟩
          walk_at "rd_6"
          refine ⟨v, t, b, rfl, xM.same s1, fun ts e => Nat.le_trans (ft.lst ts e).1 (by decide), fun J2 s2 => ?_⟩
          refine lcEnd_mk (s2 _ _ hD) hy (by have : (2 : Int).toNat = 2 := rfl; omega) (k.trans (Kp.of s2)) fun J4 p4 e4 => ?_
          rw [List.length_append, List.length_singleton, List.replicate_succ', ← e]
        have hy : ys.length = 2 := hy
        rw [hy] at e
        have hD : J D = some (.lst [.bl (isCuts t), .bl (isCuts t)]) := by rw [hD, e]; rfl
        have s1 : Same M J := fun a o h => k a o (ne_of_none h nD) h
        clear k e hy
        walk_at "rd_6"
        refine rd_reprBB hD ?_
        walk_at "rd_6"
        refine ⟨v, t, b, rfl, xM.same s1, fun ts e => ⟨Nat.le_trans (ft.lst ts e).1 (by decide), (ft.lst ts e).2⟩, fun J2 s2 => ?_⟩
        walk_at "rd_6"
        rename_i pB JB nB sB eB pC JC nC sC eC
        refine rd_reprBB (d := isCuts t) eC ?_
        walk_at "rd_6"
        refine iteF ?_
        have S := Same.trans s1 (Same.trans s2 (Same.trans sB sC))
        walk_at "rd_6"
        refine rd_reprThing (xM.same S) ft ?_
        walk_at "rd_6"
        refine iteF ?_
        walk_at "rd_6"
        exact ⟨Same.trans sM S, _, _, _, rfl⟩
      · obtain ⟨sM, o6, o7, o8, rfl⟩ := w
        exact ⟨hSB.same sM, gB'.same sM, _, _, _, _, _, _, rfl⟩
    · obtain ⟨hS2, g2, o3, o4, o5, o6, o7, o8, rfl⟩ := w
      exact ⟨hS2, _, _, _, _, _, _, _, _, rfl⟩
  · obtain ⟨hS1, o1, o2, o3, o4, o5, o6, o7, o8, rfl⟩ := w
    walk_at "rd_6"
    rename_i p1 J1 n1 s1 e1
    have ap : ∀ p : Addr, p ≠ p + 1 := fun p => Nat.ne_of_lt (Nat.lt_succ_self p)
    have bz : ∀ (b : Addr) (J : Hp) (z : Int), z.natAbs ≤ 3 → ThAt K b J (.int z) (.int z) := fun b J z hz => .int z (by unfold Bd; omega)
    have rt : ∀ (b : Addr) (J : Hp) (p : Addr) (x y : Int), J p = some (.tup [.int x, .int y]) → x.natAbs ≤ 3 → y.natAbs ≤ 3 → ThAt K b J (.ref p) (ratT x y) := fun b J p x y e hx hy => .tup (SqT.of e) (.cons (bz _ _ _ hx) (.cons (bz _ _ _ hy) .nil))
    refine ⟨.ref p1, .lst [], p1 + 1, rfl, .lst (ap _) e1 .nil, fun ts e => by cases e; decide, fun J2 s2 => ?_⟩
    rw [show isCuts (.lst []) = true from rfl]
    walk_at "rd_6"
    refine iteT ?_
    walk_at "rd_6"
    rename_i pe Je ne se ee pf Jf nf sf ef pg Jg ng sg eg ph Jh nh sh eh
    refine ⟨.ref ph, .lst [.tup [ratT 0 1, ratT 1 1]], ph + 1, rfl, .lst (ap _) eh (.cons (.tup (SqT.of (sh _ _ eg)) (.cons (rt _ _ _ _ _ (sh _ _ (sg _ _ (sf _ _ ee))) (by decide) (by decide)) (.cons (rt _ _ _ _ _ (sh _ _ (sg _ _ ef)) (by decide) (by decide)) .nil))) .nil), fun ts e => by cases e; show 1 ≤ 500; decide, fun J3 s3 => ?_⟩
    rw [show isCuts (.lst [.tup [ratT 0 1, ratT 1 1]]) = true by decide +kernel]
    walk_at "rd_6"
    refine iteT ?_
    walk_at "rd_6"
    rename_i qa Ja na sa ea qb Jb nb sb eb qc Jc nc sc ec qd Jd nd sd ed qe Je' ne' se' ee' qf Jf' nf' sf' ef' qg Jg' ng' sg' eg'
    have z5 := Same.trans sf' sg'
    have z4 := Same.trans se' z5
    have z3 := Same.trans sd z4
    have z2 := Same.trans sc z3
    have z1 := Same.trans sb z2
    refine ⟨.ref qg, .lst [.tup [ratT 0 1, ratT 1 2], .tup [ratT 1 2, ratT 1 1]], qg + 1, rfl, .lst (ap _) eg' (.cons (.tup (SqT.of (z3 _ _ ec)) (.cons (rt _ _ _ _ _ (z1 _ _ ea) (by decide) (by decide)) (.cons (rt _ _ _ _ _ (z2 _ _ eb) (by decide) (by decide)) .nil))) (.cons (.tup (SqT.of (sg' _ _ ef')) (.cons (rt _ _ _ _ _ (z4 _ _ ed) (by decide) (by decide)) (.cons (rt _ _ _ _ _ (z5 _ _ ee') (by decide) (by decide)) .nil))) .nil)), fun ts e => by cases e; show 2 ≤ 500; decide, fun J4 s4 => ?_⟩
    rw [show isCuts (.lst [.tup [ratT 0 1, ratT 1 2], .tup [ratT 1 2, ratT 1 1]]) = false by decide +kernel]
    walk_at "rd_6"
    exact q _

theorem all_mk {l : PySem.W.OpenLaw} {w : World} {K : PySem.W.Frag} {h : Heap} {mg : Str → Option Value} {fa : Addr} (X : K.In h) (G : h.Ns mainGlobals mg) (hfa : mg "law" = some (.ref fa))
    {f0 : Addr} {od0 an0 : Option Addr} {sl0 : Array (Option Value)} {oc0 kV0 dc0 pm0 cd0 ct0 : Value}
    (a0 : PySem.W.nsIn K mainGlobals "_law_bag" = some (some (.ref f0))) (l0 : K.lookup f0 = some ⟨oc0, od0, .func (PySem.W.fnOf "_law_bag" "_law_bag" (defArgs S__law_bag) (defBody S__law_bag) (defScope S__law_bag) .none kV0 dc0 pm0 an0 cd0 ct0), sl0⟩) (c0 : PySem.W.codeIn K cd0 "_law_bag" = true) (k0 : PySem.W.keepIn K (.ref f0) = true)
    {f1 : Addr} {od1 an1 : Option Addr} {sl1 : Array (Option Value)} {oc1 kV1 dc1 pm1 cd1 ct1 : Value}
    (a1 : PySem.W.nsIn K mainGlobals "_law_take" = some (some (.ref f1))) (l1 : K.lookup f1 = some ⟨oc1, od1, .func (PySem.W.fnOf "_law_take" "_law_take" (defArgs S__law_take) (defBody S__law_take) (defScope S__law_take) .none kV1 dc1 pm1 an1 cd1 ct1), sl1⟩) (c1 : PySem.W.codeIn K cd1 "_law_take" = true) (k1 : PySem.W.keepIn K (.ref f1) = true)
    {f2 : Addr} {od2 an2 : Option Addr} {sl2 : Array (Option Value)} {oc2 kV2 dc2 pm2 cd2 ct2 : Value}
    (a2 : PySem.W.nsIn K mainGlobals "_law_part" = some (some (.ref f2))) (l2 : K.lookup f2 = some ⟨oc2, od2, .func (PySem.W.fnOf "_law_part" "_law_part" (defArgs S__law_part) (defBody S__law_part) (defScope S__law_part) .none kV2 dc2 pm2 an2 cd2 ct2), sl2⟩) (c2 : PySem.W.codeIn K cd2 "_law_part" = true) (k2 : PySem.W.keepIn K (.ref f2) = true)
    {f3 : Addr} {od3 an3 : Option Addr} {sl3 : Array (Option Value)} {oc3 kV3 dc3 pm3 cd3 ct3 : Value}
    (a3 : PySem.W.nsIn K mainGlobals "_law_lowest" = some (some (.ref f3))) (l3 : K.lookup f3 = some ⟨oc3, od3, .func (PySem.W.fnOf "_law_lowest" "_law_lowest" (defArgs S__law_lowest) (defBody S__law_lowest) (defScope S__law_lowest) .none kV3 dc3 pm3 an3 cd3 ct3), sl3⟩) (c3 : PySem.W.codeIn K cd3 "_law_lowest" = true) (k3 : PySem.W.keepIn K (.ref f3) = true)
    {f4 : Addr} {od4 an4 : Option Addr} {sl4 : Array (Option Value)} {oc4 kV4 dc4 pm4 cd4 ct4 : Value}
    (a4 : PySem.W.nsIn K mainGlobals "is_int" = some (some (.ref f4))) (l4 : K.lookup f4 = some ⟨oc4, od4, .func (PySem.W.fnOf "is_int" "is_int" (defArgs S_is_int) (defBody S_is_int) (defScope S_is_int) .none kV4 dc4 pm4 an4 cd4 ct4), sl4⟩) (c4 : PySem.W.codeIn K cd4 "is_int" = true) (k4 : PySem.W.keepIn K (.ref f4) = true)
    {f5 : Addr} {od5 an5 : Option Addr} {sl5 : Array (Option Value)} {oc5 kV5 dc5 pm5 cd5 ct5 : Value}
    (a5 : PySem.W.nsIn K mainGlobals "is_ratio" = some (some (.ref f5))) (l5 : K.lookup f5 = some ⟨oc5, od5, .func (PySem.W.fnOf "is_ratio" "is_ratio" (defArgs S_is_ratio) (defBody S_is_ratio) (defScope S_is_ratio) .none kV5 dc5 pm5 an5 cd5 ct5), sl5⟩) (c5 : PySem.W.codeIn K cd5 "is_ratio" = true) (k5 : PySem.W.keepIn K (.ref f5) = true)
    {f6 : Addr} {od6 an6 : Option Addr} {sl6 : Array (Option Value)} {oc6 kV6 dc6 pm6 cd6 ct6 : Value}
    (a6 : PySem.W.nsIn K mainGlobals "is_less" = some (some (.ref f6))) (l6 : K.lookup f6 = some ⟨oc6, od6, .func (PySem.W.fnOf "is_less" "is_less" (defArgs S_is_less) (defBody S_is_less) (defScope S_is_less) .none kV6 dc6 pm6 an6 cd6 ct6), sl6⟩) (c6 : PySem.W.codeIn K cd6 "is_less" = true) (k6 : PySem.W.keepIn K (.ref f6) = true)
    {f7 : Addr} {od7 an7 : Option Addr} {sl7 : Array (Option Value)} {oc7 kV7 dc7 pm7 cd7 ct7 : Value}
    (a7 : PySem.W.nsIn K mainGlobals "_is_span" = some (some (.ref f7))) (l7 : K.lookup f7 = some ⟨oc7, od7, .func (PySem.W.fnOf "_is_span" "_is_span" (defArgs S__is_span) (defBody S__is_span) (defScope S__is_span) .none kV7 dc7 pm7 an7 cd7 ct7), sl7⟩) (c7 : PySem.W.codeIn K cd7 "_is_span" = true) (k7 : PySem.W.keepIn K (.ref f7) = true)
    {f8 : Addr} {od8 an8 : Option Addr} {sl8 : Array (Option Value)} {oc8 kV8 dc8 pm8 cd8 ct8 : Value}
    (a8 : PySem.W.nsIn K mainGlobals "is_cuts" = some (some (.ref f8))) (l8 : K.lookup f8 = some ⟨oc8, od8, .func (PySem.W.fnOf "is_cuts" "is_cuts" (defArgs S_is_cuts) (defBody S_is_cuts) (defScope S_is_cuts) .none kV8 dc8 pm8 an8 cd8 ct8), sl8⟩) (c8 : PySem.W.codeIn K cd8 "is_cuts" = true) (k8 : PySem.W.keepIn K (.ref f8) = true)
    {f9 : Addr} {od9 an9 : Option Addr} {sl9 : Array (Option Value)} {oc9 kV9 dc9 pm9 cd9 ct9 : Value}
    (a9 : PySem.W.nsIn K mainGlobals "_law_is_ratio" = some (some (.ref f9))) (l9 : K.lookup f9 = some ⟨oc9, od9, .func (PySem.W.fnOf "_law_is_ratio" "_law_is_ratio" (defArgs S__law_is_ratio) (defBody S__law_is_ratio) (defScope S__law_is_ratio) .none kV9 dc9 pm9 an9 cd9 ct9), sl9⟩) (c9 : PySem.W.codeIn K cd9 "_law_is_ratio" = true) (k9 : PySem.W.keepIn K (.ref f9) = true)
    {f10 : Addr} {od10 an10 : Option Addr} {sl10 : Array (Option Value)} {oc10 kV10 dc10 pm10 cd10 ct10 : Value}
    (a10 : PySem.W.nsIn K mainGlobals "_law_is_span" = some (some (.ref f10))) (l10 : K.lookup f10 = some ⟨oc10, od10, .func (PySem.W.fnOf "_law_is_span" "_law_is_span" (defArgs S__law_is_span) (defBody S__law_is_span) (defScope S__law_is_span) .none kV10 dc10 pm10 an10 cd10 ct10), sl10⟩) (c10 : PySem.W.codeIn K cd10 "_law_is_span" = true) (k10 : PySem.W.keepIn K (.ref f10) = true)
    {f11 : Addr} {od11 an11 : Option Addr} {sl11 : Array (Option Value)} {oc11 kV11 dc11 pm11 cd11 ct11 : Value}
    (a11 : PySem.W.nsIn K mainGlobals "_law_is_set" = some (some (.ref f11))) (l11 : K.lookup f11 = some ⟨oc11, od11, .func (PySem.W.fnOf "_law_is_set" "_law_is_set" (defArgs S__law_is_set) (defBody S__law_is_set) (defScope S__law_is_set) .none kV11 dc11 pm11 an11 cd11 ct11), sl11⟩) (c11 : PySem.W.codeIn K cd11 "_law_is_set" = true) (k11 : PySem.W.keepIn K (.ref f11) = true)
    {f12 : Addr} {od12 an12 : Option Addr} {sl12 : Array (Option Value)} {oc12 kV12 dc12 pm12 cd12 ct12 : Value}
    (a12 : PySem.W.nsIn K mainGlobals "_law_odd" = some (some (.ref f12))) (l12 : K.lookup f12 = some ⟨oc12, od12, .func (PySem.W.fnOf "_law_odd" "_law_odd" (defArgs S__law_odd) (defBody S__law_odd) (defScope S__law_odd) .none kV12 dc12 pm12 an12 cd12 ct12), sl12⟩) (c12 : PySem.W.codeIn K cd12 "_law_odd" = true) (k12 : PySem.W.keepIn K (.ref f12) = true)
    {f13 : Addr} {od13 an13 : Option Addr} {sl13 : Array (Option Value)} {oc13 kV13 dc13 pm13 cd13 ct13 : Value}
    (a13 : PySem.W.nsIn K mainGlobals "_law_end" = some (some (.ref f13))) (l13 : K.lookup f13 = some ⟨oc13, od13, .func (PySem.W.fnOf "_law_end" "_law_end" (defArgs S__law_end) (defBody S__law_end) (defScope S__law_end) .none kV13 dc13 pm13 an13 cd13 ct13), sl13⟩) (c13 : PySem.W.codeIn K cd13 "_law_end" = true) (k13 : PySem.W.keepIn K (.ref f13) = true)
    {f14 : Addr} {od14 an14 : Option Addr} {sl14 : Array (Option Value)} {oc14 kV14 dc14 pm14 cd14 ct14 : Value}
    (a14 : PySem.W.nsIn K mainGlobals "_law_changed" = some (some (.ref f14))) (l14 : K.lookup f14 = some ⟨oc14, od14, .func (PySem.W.fnOf "_law_changed" "_law_changed" (defArgs S__law_changed) (defBody S__law_changed) (defScope S__law_changed) .none kV14 dc14 pm14 an14 cd14 ct14), sl14⟩) (c14 : PySem.W.codeIn K cd14 "_law_changed" = true) (k14 : PySem.W.keepIn K (.ref f14) = true)
    {f15 : Addr} {od15 an15 : Option Addr} {sl15 : Array (Option Value)} {oc15 kV15 dc15 pm15 cd15 ct15 : Value}
    (a15 : PySem.W.nsIn K mainGlobals "_law_units" = some (some (.ref f15))) (l15 : K.lookup f15 = some ⟨oc15, od15, .func (PySem.W.fnOf "_law_units" "_law_units" (defArgs S__law_units) (defBody S__law_units) (defScope S__law_units) .none kV15 dc15 pm15 an15 cd15 ct15), sl15⟩) (c15 : PySem.W.codeIn K cd15 "_law_units" = true) (k15 : PySem.W.keepIn K (.ref f15) = true)
    {f16 : Addr} {od16 an16 : Option Addr} {sl16 : Array (Option Value)} {oc16 kV16 dc16 pm16 cd16 ct16 : Value}
    (a16 : PySem.W.nsIn K mainGlobals "_law_drawn_grain" = some (some (.ref f16))) (l16 : K.lookup f16 = some ⟨oc16, od16, .func (PySem.W.fnOf "_law_drawn_grain" "_law_drawn_grain" (defArgs S__law_drawn_grain) (defBody S__law_drawn_grain) (defScope S__law_drawn_grain) .none kV16 dc16 pm16 an16 cd16 ct16), sl16⟩) (c16 : PySem.W.codeIn K cd16 "_law_drawn_grain" = true) (k16 : PySem.W.keepIn K (.ref f16) = true)
    {f17 : Addr} {od17 an17 : Option Addr} {sl17 : Array (Option Value)} {oc17 kV17 dc17 pm17 cd17 ct17 : Value}
    (a17 : PySem.W.nsIn K mainGlobals "_law_form" = some (some (.ref f17))) (l17 : K.lookup f17 = some ⟨oc17, od17, .func (PySem.W.fnOf "_law_form" "_law_form" (defArgs S__law_form) (defBody S__law_form) (defScope S__law_form) .none kV17 dc17 pm17 an17 cd17 ct17), sl17⟩) (c17 : PySem.W.codeIn K cd17 "_law_form" = true) (k17 : PySem.W.keepIn K (.ref f17) = true)
    {f18 : Addr} {od18 an18 : Option Addr} {sl18 : Array (Option Value)} {oc18 kV18 dc18 pm18 cd18 ct18 : Value}
    (a18 : PySem.W.nsIn K mainGlobals "law" = some (some (.ref f18))) (l18 : K.lookup f18 = some ⟨oc18, od18, .func (PySem.W.fnOf "law" "law" (defArgs S_law) (defBody S_law) (defScope S_law) .none kV18 dc18 pm18 an18 cd18 ct18), sl18⟩) (c18 : PySem.W.codeIn K cd18 "law" = true) (k18 : PySem.W.keepIn K (.ref f18) = true)
    (cg0 : PySem.W.nsIn K mainGlobals "gcd" = some (some (.builtin "math.gcd")))
    {gz1 : Addr} {go1 : Obj} (cg1 : PySem.W.nsIn K mainGlobals "ONE" = some (some (.ref gz1))) (gl1 : K.lookup gz1 = some go1) (gd1 : TupObj go1 [V.int 1, V.int 1])
    {gz2 : Addr} {go2 : Obj} (cg2 : PySem.W.nsIn K mainGlobals "ZERO" = some (some (.ref gz2))) (gl2 : K.lookup gz2 = some go2) (gd2 : TupObj go2 [V.int 0, V.int 1])
    (z0 : PySem.W.nsIn K mainGlobals "abs" = some none)
    (z1 : PySem.W.nsIn K mainGlobals "len" = some none)
    (z2 : PySem.W.nsIn K mainGlobals "isinstance" = some none)
    (z3 : PySem.W.nsIn K mainGlobals "bool" = some none)
    (z4 : PySem.W.nsIn K mainGlobals "int" = some none)
    (z5 : PySem.W.nsIn K mainGlobals "tuple" = some none)
    (z6 : PySem.W.nsIn K mainGlobals "all" = some none)
    (z7 : PySem.W.nsIn K mainGlobals "zip" = some none)
    (z8 : PySem.W.nsIn K mainGlobals "list" = some none)
    (z9 : PySem.W.nsIn K mainGlobals "range" = some none)
    (z10 : PySem.W.nsIn K mainGlobals "max" = some none)
    (z11 : PySem.W.nsIn K mainGlobals "min" = some none)
    (z12 : PySem.W.nsIn K mainGlobals "repr" = some none)
    : ∃ fd : FuncData, (∀ (s : Shared) (v : Value), BindsTo s fd ⟨[v], []⟩ [("_law_script", v)]) ∧ ∀ base : Heap, K.In base → base.Ns mainGlobals mg → FnG l.prog w K mg base CX0 5 fa fd ["_law_script"] (sp_law K) := by
  have e := hfa.symm.trans (PySem.W.mg_of X G a18)
  cases e
  have F0 := fun_mk (st := S__law_bag) l0 c0 k0
  have b0 := F0.binds (ps := ["_law_script", "_law_at"]) fun _ _ _ _ _ _ us hl => match us, hl with | [_, _], _ => rfl
  have F1 := fun_mk (st := S__law_take) l1 c1 k1
  have b1 := F1.binds (ps := ["_law_bag_here", "_law_size"]) fun _ _ _ _ _ _ us hl => match us, hl with | [_, _], _ => rfl
  have F2 := fun_mk (st := S__law_part) l2 c2 k2
  have b2 := F2.binds (ps := ["_law_one", "_law_other"]) fun _ _ _ _ _ _ us hl => match us, hl with | [_, _], _ => rfl
  have F3 := fun_mk (st := S__law_lowest) l3 c3 k3
  have b3 := F3.binds (ps := ["_law_top", "_law_under"]) fun _ _ _ _ _ _ us hl => match us, hl with | [_, _], _ => rfl
  have F4 := fun_mk (st := S_is_int) l4 c4 k4
  have b4 := F4.binds (ps := ["thing"]) fun _ _ _ _ _ _ us hl => match us, hl with | [_], _ => rfl
  have F5 := fun_mk (st := S_is_ratio) l5 c5 k5
  have b5 := F5.binds (ps := ["thing"]) fun _ _ _ _ _ _ us hl => match us, hl with | [_], _ => rfl
  have F6 := fun_mk (st := S_is_less) l6 c6 k6
  have b6 := F6.binds (ps := ["one", "other"]) fun _ _ _ _ _ _ us hl => match us, hl with | [_, _], _ => rfl
  have F7 := fun_mk (st := S__is_span) l7 c7 k7
  have b7 := F7.binds (ps := ["thing"]) fun _ _ _ _ _ _ us hl => match us, hl with | [_], _ => rfl
  have F8 := fun_mk (st := S_is_cuts) l8 c8 k8
  have b8 := F8.binds (ps := ["thing"]) fun _ _ _ _ _ _ us hl => match us, hl with | [_], _ => rfl
  have F9 := fun_mk (st := S__law_is_ratio) l9 c9 k9
  have b9 := F9.binds (ps := ["_law_thing"]) fun _ _ _ _ _ _ us hl => match us, hl with | [_], _ => rfl
  have F10 := fun_mk (st := S__law_is_span) l10 c10 k10
  have b10 := F10.binds (ps := ["_law_thing"]) fun _ _ _ _ _ _ us hl => match us, hl with | [_], _ => rfl
  have F11 := fun_mk (st := S__law_is_set) l11 c11 k11
  have b11 := F11.binds (ps := ["_law_thing"]) fun _ _ _ _ _ _ us hl => match us, hl with | [_], _ => rfl
  have F12 := fun_mk (st := S__law_odd) l12 c12 k12
  have b12 := F12.binds (ps := ["_law_bag_here"]) fun _ _ _ _ _ _ us hl => match us, hl with | [_], _ => rfl
  have F13 := fun_mk (st := S__law_end) l13 c13 k13
  have b13 := F13.binds (ps := ["_law_bag_here", "_law_end_here"]) fun _ _ _ _ _ _ us hl => match us, hl with | [_, _], _ => rfl
  have F14 := fun_mk (st := S__law_changed) l14 c14 k14
  have b14 := F14.binds (ps := ["_law_bag_here", "_law_some"]) fun _ _ _ _ _ _ us hl => match us, hl with | [_, _], _ => rfl
  have F15 := fun_mk (st := S__law_units) l15 c15 k15
  have b15 := F15.binds (ps := ["_law_bag_here", "_law_grain"]) fun _ _ _ _ _ _ us hl => match us, hl with | [_, _], _ => rfl
  have F16 := fun_mk (st := S__law_drawn_grain) l16 c16 k16
  have b16 := F16.binds (ps := ["_law_bag_here"]) fun _ _ _ _ _ _ us hl => match us, hl with | [_], _ => rfl
  have F17 := fun_mk (st := S__law_form) l17 c17 k17
  have b17 := F17.binds (ps := ["_law_units_here", "_law_grain"]) fun _ _ _ _ _ _ us hl => match us, hl with | [_, _], _ => rfl
  have F18 := fun_mk (st := S_law) l18 c18 k18
  have c_gcd := PySem.W.mg_of X G cg0
  have c_ONE := TupC.of (PySem.W.mg_of X G cg1) gl1 gd1
  have c_ZERO := TupC.of (PySem.W.mg_of X G cg2) gl2 gd2
  have m_abs := PySem.W.mg_none_of X G z0
  have m_len := PySem.W.mg_none_of X G z1
  have m_isinstance := PySem.W.mg_none_of X G z2
  have m_bool := PySem.W.mg_none_of X G z3
  have m_int := PySem.W.mg_none_of X G z4
  have m_tuple := PySem.W.mg_none_of X G z5
  have m_all := PySem.W.mg_none_of X G z6
  have m_zip := PySem.W.mg_none_of X G z7
  have m_list := PySem.W.mg_none_of X G z8
  have m_range := PySem.W.mg_none_of X G z9
  have m_max := PySem.W.mg_none_of X G z10
  have m_min := PySem.W.mg_none_of X G z11
  have m_repr := PySem.W.mg_none_of X G z12
  refine ⟨PySem.W.fnOf "law" "law" (defArgs S_law) (defBody S_law) (defScope S_law) .none kV18 dc18 pm18 an18 cd18 ct18, fun s v => .of_eq rfl, fun base _ _ => ?_⟩
  have C__law_bag : Cal l.prog w K mg base "_law_bag" 1 f0 _ ["_law_script", "_law_at"] (sp__law_bag K) := ⟨ok__law_bag F0 m_abs m_len, b0, k0, PySem.W.mg_of X G a0⟩
  have C__law_take : Cal l.prog w K mg base "_law_take" 1 f1 _ ["_law_bag_here", "_law_size"] (sp__law_take K) := ⟨ok__law_take F1, b1, k1, PySem.W.mg_of X G a1⟩
  have C__law_part : Cal l.prog w K mg base "_law_part" 1 f2 _ ["_law_one", "_law_other"] (sp__law_part K) := ⟨ok__law_part F2 m_abs, b2, k2, PySem.W.mg_of X G a2⟩
  have C__law_lowest : Cal l.prog w K mg base "_law_lowest" 2 f3 _ ["_law_top", "_law_under"] (sp__law_lowest K) := ⟨ok__law_lowest F3 C__law_part, b3, k3, PySem.W.mg_of X G a3⟩
  have C_is_int : Cal l.prog w K mg base "is_int" 1 f4 _ ["thing"] (sp_is_int K) := ⟨ok_is_int F4 m_isinstance m_bool m_int, b4, k4, PySem.W.mg_of X G a4⟩
  have C_is_ratio : Cal l.prog w K mg base "is_ratio" 2 f5 _ ["thing"] (sp_is_ratio K) := ⟨ok_is_ratio F5 C_is_int c_gcd m_len m_isinstance m_tuple, b5, k5, PySem.W.mg_of X G a5⟩
  have C_is_less : Cal l.prog w K mg base "is_less" 1 f6 _ ["one", "other"] (sp_is_less K) := ⟨ok_is_less F6, b6, k6, PySem.W.mg_of X G a6⟩
  have C__is_span : Cal l.prog w K mg base "_is_span" 3 f7 _ ["thing"] (sp__is_span K) := ⟨ok__is_span F7 C_is_less C_is_ratio c_ONE c_ZERO m_len m_isinstance m_tuple, b7, k7, PySem.W.mg_of X G a7⟩
  have C_is_cuts : Cal l.prog w K mg base "is_cuts" 4 f8 _ ["thing"] (sp_is_cuts K) := ⟨ok_is_cuts F8 C_is_less C__is_span m_all m_zip m_isinstance m_list, b8, k8, PySem.W.mg_of X G a8⟩
  have C__law_is_ratio : Cal l.prog w K mg base "_law_is_ratio" 2 f9 _ ["_law_thing"] (sp__law_is_ratio K) := ⟨ok__law_is_ratio F9 C__law_part m_all m_isinstance m_bool m_int m_len m_tuple, b9, k9, PySem.W.mg_of X G a9⟩
  have C__law_is_span : Cal l.prog w K mg base "_law_is_span" 3 f10 _ ["_law_thing"] (sp__law_is_span K) := ⟨ok__law_is_span F10 C__law_is_ratio m_all m_len m_isinstance m_tuple, b10, k10, PySem.W.mg_of X G a10⟩
  have C__law_is_set : Cal l.prog w K mg base "_law_is_set" 4 f11 _ ["_law_thing"] (sp__law_is_set K) := ⟨ok__law_is_set F11 C__law_is_span m_all m_zip m_isinstance m_list, b11, k11, PySem.W.mg_of X G a11⟩
  have C__law_odd : Cal l.prog w K mg base "_law_odd" 2 f12 _ ["_law_bag_here"] (sp__law_odd K) := ⟨ok__law_odd F12 C__law_take, b12, k12, PySem.W.mg_of X G a12⟩
  have C__law_end : Cal l.prog w K mg base "_law_end" 2 f13 _ ["_law_bag_here", "_law_end_here"] (sp__law_end K) := ⟨ok__law_end F13 C__law_take m_list, b13, k13, PySem.W.mg_of X G a13⟩
  have C__law_changed : Cal l.prog w K mg base "_law_changed" 3 f14 _ ["_law_bag_here", "_law_some"] (sp__law_changed K) := ⟨ok__law_changed F14 C__law_end C__law_take C__law_odd m_tuple m_len, b14, k14, PySem.W.mg_of X G a14⟩
  have C__law_units : Cal l.prog w K mg base "_law_units" 2 f15 _ ["_law_bag_here", "_law_grain"] (sp__law_units K) := ⟨ok__law_units F15 C__law_take m_range, b15, k15, PySem.W.mg_of X G a15⟩
  have C__law_drawn_grain : Cal l.prog w K mg base "_law_drawn_grain" 2 f16 _ ["_law_bag_here"] (sp__law_drawn_grain K) := ⟨ok__law_drawn_grain F16 C__law_take, b16, k16, PySem.W.mg_of X G a16⟩
  have C__law_form : Cal l.prog w K mg base "_law_form" 3 f17 _ ["_law_units_here", "_law_grain"] (sp__law_form K) := ⟨ok__law_form F17 C__law_lowest m_range, b17, k17, PySem.W.mg_of X G a17⟩
  exact ok_law F18 C_is_cuts C__law_odd C__law_changed C__law_is_set C__law_form C__law_units C__law_drawn_grain C__law_bag m_range m_max m_min m_len m_repr
theorem walk {l : PySem.W.OpenLaw} {q : Program} {loose : List Str} {XP : (Str → Option Value) → Heap → Prop} {YP : World → Heap → Prop} {d : DefRec} {K : Params → PySem.W.Frag} (hn : l.most = some 63) (hdf : d.params.defaults = [])
    (hY : ∀ (w : World) (h : Heap), YP w h → (K w.params).In h)
    (F : ∀ (w : World) (mg : Str → Option Value) (fa : Addr) (h : Heap), (K w.params).In h → h.Ns mainGlobals mg → mg d.name = some (.ref fa) →
      ∃ fd : FuncData, (∀ (s : Shared) (u : Value), BindsTo s fd ⟨[u], []⟩ [("_law_script", u)]) ∧ ∀ base : Heap, (K w.params).In base → base.Ns mainGlobals mg → FnG l.prog w (K w.params) mg base CX0 5 fa fd ["_law_script"] (sp_law (K w.params))) :
    PySem.W.WalkO q loose XP YP l.row.toRowW d [] (fun f vs => PySem.call f vs) :=
  walk_g (n := 63) (k := 5) (x := "_law_script") (CX := fun _ => CX0) (sp := fun w => sp_law (K w.params)) hn (by decide) hdf ⟨rfl, by decide, by decide⟩ hY F (fun _ _ a ns hl _ o hS => ⟨a, ns, rfl, Scr.of o hS, hl, fun _ => rfl⟩) fun _ _ _ _ _ z => z
end Ob
open PySem PySem.W PyProof.Rows
set_option maxRecDepth 100000 in
set_option maxHeartbeats 0 in
theorem PySem.Challenge.cw_onecut_k07_sets_of_cuts_known_holds : PySem.Challenge.rw_onecut_k07_sets_of_cuts_known.Holds := by
  w_on; o_law; k_head; (case hw => w_witness2)
  k_fill
  refine Ob.walk (l := PySem.Challenge.rw_onecut_k07_sets_of_cuts_known) rfl rfl (fun w h Y => PySem.W.kIn_of Y) ?F
  case F =>
    intro w mg fa h KX G hmg
    refine' Ob.all_mk KX G hmg ?a0 ?l0 ?c0 ?k0 ?a1 ?l1 ?c1 ?k1 ?a2 ?l2 ?c2 ?k2 ?a3 ?l3 ?c3 ?k3 ?a4 ?l4 ?c4 ?k4 ?a5 ?l5 ?c5 ?k5 ?a6 ?l6 ?c6 ?k6 ?a7 ?l7 ?c7 ?k7 ?a8 ?l8 ?c8 ?k8 ?a9 ?l9 ?c9 ?k9 ?a10 ?l10 ?c10 ?k10 ?a11 ?l11 ?c11 ?k11 ?a12 ?l12 ?c12 ?k12 ?a13 ?l13 ?c13 ?k13 ?a14 ?l14 ?c14 ?k14 ?a15 ?l15 ?c15 ?k15 ?a16 ?l16 ?c16 ?k16 ?a17 ?l17 ?c17 ?k17 ?a18 ?l18 ?c18 ?k18 ?cg0 ?cg1 ?gl1 ?gd1 ?cg2 ?gl2 ?gd2 ?z0 ?z1 ?z2 ?z3 ?z4 ?z5 ?z6 ?z7 ?z8 ?z9 ?z10 ?z11 ?z12
    (case a0 => k_is)
    (case l0 => k_is)
    (case c0 => k_is)
    (case k0 => k_is)
    (case a1 => k_is)
    (case l1 => k_is)
    (case c1 => k_is)
    (case k1 => k_is)
    (case a2 => k_is)
    (case l2 => k_is)
    (case c2 => k_is)
    (case k2 => k_is)
    (case a3 => k_is)
    (case l3 => k_is)
    (case c3 => k_is)
    (case k3 => k_is)
    (case a4 => k_is)
    (case l4 => k_is)
    (case c4 => k_is)
    (case k4 => k_is)
    (case a5 => k_is)
    (case l5 => k_is)
    (case c5 => k_is)
    (case k5 => k_is)
    (case a6 => k_is)
    (case l6 => k_is)
    (case c6 => k_is)
    (case k6 => k_is)
    (case a7 => k_is)
    (case l7 => k_is)
    (case c7 => k_is)
    (case k7 => k_is)
    (case a8 => k_is)
    (case l8 => k_is)
    (case c8 => k_is)
    (case k8 => k_is)
    (case a9 => k_is)
    (case l9 => k_is)
    (case c9 => k_is)
    (case k9 => k_is)
    (case a10 => k_is)
    (case l10 => k_is)
    (case c10 => k_is)
    (case k10 => k_is)
    (case a11 => k_is)
    (case l11 => k_is)
    (case c11 => k_is)
    (case k11 => k_is)
    (case a12 => k_is)
    (case l12 => k_is)
    (case c12 => k_is)
    (case k12 => k_is)
    (case a13 => k_is)
    (case l13 => k_is)
    (case c13 => k_is)
    (case k13 => k_is)
    (case a14 => k_is)
    (case l14 => k_is)
    (case c14 => k_is)
    (case k14 => k_is)
    (case a15 => k_is)
    (case l15 => k_is)
    (case c15 => k_is)
    (case k15 => k_is)
    (case a16 => k_is)
    (case l16 => k_is)
    (case c16 => k_is)
    (case k16 => k_is)
    (case a17 => k_is)
    (case l17 => k_is)
    (case c17 => k_is)
    (case k17 => k_is)
    (case a18 => k_is)
    (case l18 => k_is)
    (case c18 => k_is)
    (case k18 => k_is)
    (case cg0 => k_is)
    (case cg1 => k_is)
    (case gl1 => k_is)
    (case gd1 => exact ⟨rfl, _, _, rfl, by decide, .cons ⟨_, rfl⟩ (.cons ⟨_, rfl⟩ .nil)⟩)
    (case cg2 => k_is)
    (case gl2 => k_is)
    (case gd2 => exact ⟨rfl, _, _, rfl, by decide, .cons ⟨_, rfl⟩ (.cons ⟨_, rfl⟩ .nil)⟩)
    (case z0 => k_is)
    (case z1 => k_is)
    (case z2 => k_is)
    (case z3 => k_is)
    (case z4 => k_is)
    (case z5 => k_is)
    (case z6 => k_is)
    (case z7 => k_is)
    (case z8 => k_is)
    (case z9 => k_is)
    (case z10 => k_is)
    (case z11 => k_is)
    (case z12 => k_is)

