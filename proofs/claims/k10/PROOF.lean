import PyProof.Rows.All
import Wide.All
import OpenK.AllK
import Wide.FinOn
import HandS.ForMost
import HandS.Wide
import HandS.Gcd
import HandS.EndBits
import HandS.IsInst
import HandS.Flow
import HandS.Flt
import HandS.FStrTup
import HandS.Style
import PySem.Challenge.RW_onecut_k10_lengths_and_members
set_option Elab.async false
set_option linter.all false
set_option maxRecDepth 100000
set_option exponentiation.threshold 10000
set_option maxHeartbeats 4000000
/-! Defs that may show data by repr: a promise that is asked only where nothing is being shown. -/
namespace Ob
open PySem PySem.Spec PyProof.Rows L2
structure FnG (P : Program) (w : World) (K : PySem.W.Frag) (mg : Str → Option Value) (base : Heap) (CX : CXT) (k : Nat) (f : Addr) (fd : FuncData) (ps : List Str) (sp : Sp) : Prop where
  ar : ∀ vs H Q E, sp vs H Q E → vs.length = ps.length
  go : ∀ (A : Around) (outer : List Env) (s : Shared) (H : Hp) (args : Args) (us : List Value) (vs : List V) (Q : VK) (E : XK), A.guards = some [] → Room k A → Env0 P w K mg base A outer s H →
    BindsTo s fd args (ps.zip us) → Vals vs us → sp vs H Q E → codeAny (model P w) A (.call (.ref f) args) (CR CX outer P w H s Q E) s
section
variable {P : Program} {w : World} {K : PySem.W.Frag} {mg : Str → Option Value} {base : Heap} {CX : CXT}
theorem FnG.up {j k : Nat} {f : Addr} {fd : FuncData} {ps : List Str} {sp : Sp} (F : FnG P w K mg base CX j f fd ps sp) (h : j ≤ k) : FnG P w K mg base CX k f fd ps sp :=
  ⟨F.ar, fun A o s H args us vs Q E hg hr => F.go A o s H args us vs Q E hg (hr.mono h)⟩
/-- a def of the text by its body -/
theorem Fun_okG {x qual : Str} {st : Stmt} {f : Addr} {fd : FuncData} {N ps : List Str} {k : Nat} {sp : Sp} (F : Fun K x qual st f fd) (S : FnScope N ps (defScope st)) (ar : ∀ vs H Q E, sp vs H Q E → vs.length = ps.length)
    (body : ∀ (c : Value) (A : Around) (outer : List Env) (s : Shared) (H : Hp) (vs : List V) (Q : VK) (E : XK), A.guards = some [] → Room k (A.deeper (envOfC qual (defScope st) s.heap.objs.size f c)) → sp vs H Q E →
      ∃ t, PSs (cxOf CX P w K mg base N qual (defScope st) f c A outer s H E).nox (defBody st) t ∧ t { nx := fun _ J => Q .non J, rt := Q } (start N vs) H) : FnG P w K mg base CX (k + 1) f fd ps sp := by
  obtain ⟨oc, od, kV, doc, pm, an, c, ct, osl, rfl, look, code⟩ := F.ex
  refine ⟨ar, fun A outer s H args us vs Q E hg hr e0 bnd rv hs => ?_⟩
  have count := ar _ _ _ _ hs
  have kept : ∀ b o, base.get? b = some o → s.heap.get? b = some o := fun b o e => (e0.bs b o e).1
  have inK : K.In s.heap := e0.mod.kin.keeps kept
  refine codeAny_call_function hr.depth (inK _ _ look) rfl S.co S.gen rfl (PySem.W.codeRec_of inK code) (bnd _ _ _ _ ?_)
  refine wpAny_newFunctionEnv_cells S.kind (fun y hy => (S.par y.1 (List.of_mem_zip (show (y.1, y.2) ∈ ps.zip us from hy)).1).imp id fun q => ⟨q, PySem.W.cellsFrom_some _ _ _ (.inl q)⟩) fun env he s1 x => ?_
  subst he
  obtain ⟨t, ht, hq⟩ := body c A outer s H vs Q E hg (hr.deeper _) hs
  have I : Inv (cxOf CX P w K mg base N qual (defScope st) f c A outer s H E) [] (start N vs) H s1 := inv_start S hr.hd e0 count rv x
  refine ⟨(e0.mod.nolimit.keeps kept).keeps x.toInCall.keep, codeAny_func (wpAny_mono (ht.nox.run [] s1 (start N vs) H _ I hq) (fun fl s' z => ?_) fun e s' z => z)⟩
  cases fl with
  | next => exact (let ⟨σ', J, I', q⟩ := z; ⟨V.non, J, I'.os, I'.bare, I'.base, I'.hok, rfl, q⟩)
  | ret u => exact (let ⟨v, σ', J, I', r', q⟩ := z; ⟨v, J, I'.os, I'.bare, I'.base, I'.hok, r', q⟩)
  | brk => exact (let ⟨_, _, _, q⟩ := z; False.elim q)
  | cont => exact (let ⟨_, _, _, q⟩ := z; False.elim q)
end
section
variable {X : Cx} {CX : CXT} {k : Nat} {f : Addr} {fd : FuncData} {ps : List Str} {sp : Sp} {ds : List Value} {dvs : List V} {E : XK}
theorem run_g {pins : List (Addr × Obj)} {σ : L2.St} {H : Hp} {s : Shared} {Q : VK} {us : List Value} {vs : List V} (F : FnG X.prog X.w X.K X.mg X.base CX k f fd ps sp) (hg : X.A.guards = some []) (hr : Room k X.A) (hb : Binds X.K fd ps ds) (hd : Vals dvs ds) (hx : Passes CX X E)
    (I : Inv X pins σ H s) (rv : Vals vs us) (hs : sp (vs ++ dvs) H Q E) : wpAny (model X.prog X.w) X.A (call (.ref f) us) (EP X pins σ Q) X.xe s := by
  have all := rv.append hd
  refine wpAny_call (codeAny_mono (F.go X.A X.stack s H ⟨us, []⟩ (us ++ ds) (vs ++ dvs) Q E hg hr I.env0 (hb s us I.kIn (all.length ▸ F.ar _ _ _ _ hs)) all hs) fun r s' z => ?_)
  match r, z with
  | .error e, z => exact hx pins σ H s e s' I z
  | .ok (.ret u), z => exact I.after z
variable {x : Str} {e : Expr} {es : List Expr} {t : TA} {p pos : Pos}
/-- f(e, ..) -/
theorem pe_g (F : FnG X.prog X.w X.K X.mg X.base CX k f fd ps sp) (hg : X.A.guards = some []) (hr : Room k X.A) (gl : Gl X x) (hm : X.mg x = some (.ref f)) (hk : PySem.W.keepIn X.K (.ref f) = true) (hb : Binds X.K fd ps ds) (hd : Vals dvs ds) (hx : Passes CX X E)
    (ha : PA X (e :: es) t) (hdb : (x == ("__debug__" : Str)) = false := by decide) (he : starEach (e :: es) X.env = (false, eval e X.env) :: starEach es X.env := by rfl) (hpl : (backTo pos (starEach es X.env)).any (·.1) = false := by rfl) :
    PE X (.Call (.Name x p) (e :: es) [] pos) (tCall sp dvs E t) :=
  ⟨fun pins s σ H Q I h => wpAny_Call_Name_kw (ld_glob I gl hm (PySem.W.callWith_K (h₀ := X.base) I.ok.mod.kin hk (thn (ha.run pos pins s σ H _ I h) fun us s1 z => let ⟨vs, J, I1, rv, q⟩ := z; ⟨I1.kIn, run_g F hg hr hb hd hx I1 rv q⟩) he hpl) hdb)⟩
end
/-! ### the law's call -/
section
variable {P : Program} {w : World} {K : PySem.W.Frag} {mg mb : Str → Option Value} {CX : CXT} {k : Nat} {fa a : Addr} {fd : FuncData} {x : Str} {sp : Sp} {s₁ : Shared} {vs : List Value} {ns : List Int}
def LawEnd (s₁ : Shared) : Result → Shared → Prop := fun r s' => r = .ok (.ret (.bool true)) ∧ OldK s₁.heap s'.heap ∧ s'.os = s₁.os ∧ AllBare s'.gens
/-- H tracks at most the script, locked -/
theorem law_at (H : Hp) (inK : K.In s₁.heap) (hns : s₁.heap.Ns mainGlobals mg) (hb : s₁.heap.Ns builtinsNs mb) (hbb : ∀ x : Str, x ≠ "__name__" → mb x = bootBuiltins x) (hlim : s₁.heap.NoLimit) (hg : s₁.gens = #[])
    (ha : s₁.heap.get? a = some { cls := .type "list", data := .seq vs.toArray }) (hr : Room k callerA)
    (F : ∀ base : Heap, K.In base → base.Ns mainGlobals mg → FnG P w K mg base CX k fa fd [x] sp) (hbind : ∀ (s : Shared) (u : Value), BindsTo s fd ⟨[u], []⟩ [(x, u)])
    (hs : sp [.ref a] H (fun v _ => v = .bl true) fun _ _ _ => False) (hCX : ∀ e s', CX [] H s₁ (fun _ _ _ => False) e s' → False)
    (hO : Only H) (ok : HOk P w H s₁.heap) (only : ∀ b, H b ≠ none → b = a) (free : H a ≠ none → K.lookup a = none) : codeAny (model P w) callerA (.call (.ref fa) ⟨[.ref a], []⟩) (LawEnd s₁) s₁ := by
  have out : ∀ {b o}, s₁.heap.get? b = some o → ((H b ≠ none → b = a) → H b ≠ none → False) → (hidT s₁.heap H).get? b = some o := fun {b o} e no => hidT_get e (Classical.byContradiction fun n => no (only b) n)
  have names : ∀ {b m}, s₁.heap.Ns b m → (hidT s₁.heap H).Ns b m := fun {b m} z => let ⟨o, es, ep, e, d, r⟩ := z; ⟨o, es, ep, out e (fun g n => by
    obtain rfl := g n
    cases ha.symm.trans e
    cases d), d, r⟩
  have written : K.In (hidT s₁.heap H) := fun b o e => out (inK b o e) fun g n => by
    obtain rfl := g n
    cases (free n).symm.trans e
  have env : Env0 P w K mg (hidT s₁.heap H) callerA [] s₁ H :=
    ⟨rfl, ⟨written, names hns, ⟨mb, names hb, hbb⟩, let ⟨m, p, q⟩ := hlim; ⟨m, names p, q⟩⟩, fun _ _ e => of_hidT e, Nat.le_of_eq (hidT_size _ _), trivial, (fun _ z => absurd z (by simp [frs])), ok, AllBare.of_eq hg⟩
  refine codeAny_mono ((F _ written (names hns)).go callerA [] s₁ H ⟨[.ref a], []⟩ [.ref a] [.ref a] _ _ rfl hr env (hbind s₁ (.ref a)) (.cons rfl .nil) hs) fun r s' z => ?_
  match r, z with
  | .error e, z => exact (hCX e s' z).elim
  | .ok (.ret u), z =>
    obtain ⟨v, J, os, bare, un, ok', rel, rfl⟩ := z
    obtain rfl : u = Value.bool true := rel
    refine ⟨rfl, OldK.of_keep fun b o e => ?_, os, bare⟩
    rcases hO b with n | ⟨ob, xs, n⟩
    · exact un.keep b o e n (fun z => absurd z (by simp [frs])) (by simp)
    · have h1 := (ok b _ n).1
      cases e.symm.trans h1
      exact (ok' b _ (un.frzs b _ _ n)).1
theorem law_g (inK : K.In s₁.heap) (hns : s₁.heap.Ns mainGlobals mg) (hb : s₁.heap.Ns builtinsNs mb) (hbb : ∀ x : Str, x ≠ "__name__" → mb x = bootBuiltins x) (hlim : s₁.heap.NoLimit) (hg : s₁.gens = #[])
    (ha : s₁.heap.get? a = some { cls := .type "list", data := .seq vs.toArray }) (hi : IntsAre vs ns) (hl : ns.length ≤ sizeLine) (hr : Room k callerA)
    (F : ∀ base : Heap, K.In base → base.Ns mainGlobals mg → FnG P w K mg base CX k fa fd [x] sp) (hbind : ∀ (s : Shared) (u : Value), BindsTo s fd ⟨[u], []⟩ [(x, u)])
    (hs : ∀ H : Hp, Only H → SqL K H a (ns.map V.int) → sp [.ref a] H (fun v _ => v = .bl true) fun _ _ _ => False)
    (hCX : ∀ H e s', CX [] H s₁ (fun _ _ _ => False) e s' → False) : codeAny (model P w) callerA (.call (.ref fa) ⟨[.ref a], []⟩) (LawEnd s₁) s₁ := by
  have rv := vals_ints hi
  have many : vs.length = ns.length := by have := hi.length; omega
  have put : ∀ H : Hp, Only H → SqL K H a (ns.map V.int) → HOk P w H s₁.heap → (∀ b, H b ≠ none → b = a) → (H a ≠ none → K.lookup a = none) → codeAny (model P w) callerA (.call (.ref fa) ⟨[.ref a], []⟩) (LawEnd s₁) s₁ :=
    fun H o q ok g f => law_at H inK hns hb hbb hlim hg ha hr F hbind (hs H o q) (hCX H) o ok g f
  cases kl : K.lookup a with
  | some o =>
    cases ha.symm.trans (inK a o kl)
    exact put (fun _ => none) (fun _ => .inl rfl) (.inr ⟨_, vs.toArray, _, kl, rfl, rfl, rfl, by rw [List.size_toArray, many]; exact hl, by simpa using rv⟩) (fun _ _ z => by cases z) (fun _ z => absurd rfl z) fun z => absurd rfl z
  | none =>
    have at_a : ∀ {b : Addr}, b = a → (fun b => if b = a then some (HO.frz { cls := .type "list", data := .seq vs.toArray } (.lst (ns.map V.int))) else none) b = some (HO.frz { cls := .type "list", data := .seq vs.toArray } (.lst (ns.map V.int))) := fun e => if_pos e
    have off_a : ∀ {b : Addr}, b ≠ a → (fun b => if b = a then some (HO.frz { cls := .type "list", data := .seq vs.toArray } (.lst (ns.map V.int))) else none) b = none := fun e => if_neg e
    refine put _ (fun b => ?_) (.inl (.inr ⟨_, at_a rfl⟩)) (fun b u z => ?_) (fun b z => Classical.byContradiction fun n => z (off_a n)) fun _ => kl
    · by_cases e : b = a
      · exact .inr ⟨_, _, at_a e⟩
      · exact .inl (off_a e)
    · by_cases e : b = a
      · cases (at_a e).symm.trans z
        subst e
        exact ⟨ha, by rw [List.length_map]; exact hl, vs, _, rv, ha⟩
      · cases (off_a e).symm.trans z
end
theorem walk_g {l : PySem.W.OpenLaw} {n k : Nat} {q : Program} {loose : List Str} {XP : (Str → Option Value) → Heap → Prop} {YP : World → Heap → Prop} {d : DefRec} {K : Params → PySem.W.Frag} {CX : World → CXT} {sp : World → Sp} {x : Str}
    (hn : l.most = some n) (hn2 : n ≤ sizeLine) (hdf : d.params.defaults = []) (hr : Room k callerA) (hY : ∀ (w : World) (h : Heap), YP w h → (K w.params).In h)
    (F : ∀ (w : World) (mg : Str → Option Value) (fa : Addr) (h : Heap), (K w.params).In h → h.Ns mainGlobals mg → mg d.name = some (.ref fa) → ∃ fd : FuncData, (∀ (s : Shared) (u : Value), BindsTo s fd ⟨[u], []⟩ [(x, u)]) ∧
      ∀ base : Heap, (K w.params).In base → base.Ns mainGlobals mg → FnG l.prog w (K w.params) mg base (CX w) k fa fd [x] (sp w))
    (hs : ∀ (w : World) (H : Hp) (a : Addr) (ns : List Int), ns.length ≤ n → (∀ z ∈ ns, Builtin.Int.intBits z ≤ 1048576) → Only H → SqL (K w.params) H a (ns.map V.int) → sp w [.ref a] H (fun v _ => v = .bl true) fun _ _ _ => False)
    (hCX : ∀ (w : World) (H : Hp) (s : Shared) (e : Value) (s' : Shared), CX w [] H s (fun _ _ _ => False) e s' → False) : PySem.W.WalkO q loose XP YP l.row.toRowW d [] (fun f vs => PySem.call f vs) :=
  Att.attach_callB hn hdf fun w s₀ s₁ mg mb fa o pm cd doc a vs ns G Y ho hd hcd hmg hobj hints hlen hbits hg =>
    let ⟨_, hb, hF⟩ := F w mg fa _ (hY w _ Y) G.T.g hmg
    law_g (hY w _ Y) G.T.g G.T.b G.T.builtins G.T.nolimit hg hobj hints (Nat.le_trans hlen hn2) hr hF hb (fun H o z => hs w H a ns hlen hbits o z) fun H e s' => hCX w H s₁ e s'
end Ob
namespace Ob
open PySem PySem.Spec PyProof.Rows L2
/-! ### repr of data -/
mutual
def sz : PyData → Nat
  | .none => 4
  | .bool _ => 5
  | .int i => i.natAbs.log2 + 2
  | .str _ => 0
  | .list xs => szs xs + 2
  | .tuple xs => szs xs + 2
  | .dict _ => 0
def szs : List PyData → Nat
  | [] => 0
  | x :: xs => sz x + 2 + szs xs
end
mutual
/-- no texts, no dicts; ints below 1,900 bits -/
def sm : PyData → Bool
  | .none => true
  | .bool _ => true
  | .int i => decide (i.natAbs.log2 < 1900)
  | .str _ => false
  | .list xs => sms xs
  | .tuple xs => sms xs
  | .dict _ => false
def sms : List PyData → Bool
  | [] => true
  | x :: xs => sm x && sms xs
end
theorem list_le (ts : List Str) : (listText ts).length ≤ piled ts + 2 := by
  cases ts with
  | nil => decide +kernel
  | cons t r =>
    have h := textFrom_length_pos r 1 (("[" : Str) ++ (if (0 : Nat) > 0 then ", " else "" : String) ++ t) (Nat.succ_pos 0)
    have e : ((("[" : Str) ++ (if (0 : Nat) > 0 then ", " else "" : String) ++ t)).length = 1 + t.length := by rw [strLen_append, strLen_append] <;> rfl
    have e2 : (listText (t :: r)).length = (textFrom 1 (("[" : Str) ++ (if (0 : Nat) > 0 then ", " else "" : String) ++ t) r).length + 1 := strLen_append _ _
    rw [e2, h, e, piled_cons]
    omega
mutual
theorem shown_le : ∀ d : PyData, sm d = true → d.shown.length ≤ sz d ∧ d.showable = true ∧ d.hasDict = false
  | .none, _ => ⟨by decide +kernel, by simp [PyData.showable], by simp [PyData.hasDict]⟩
  | .bool b, _ => ⟨by cases b <;> decide +kernel, by simp [PyData.showable], by simp [PyData.hasDict]⟩
  | .int i, h => by
    have h1 : i.natAbs.log2 < 1900 := by simpa [sm] using h
    refine ⟨?_, by simp [PyData.showable]; omega, by simp [PyData.hasDict]⟩
    have e := int_text_length_le (a := i) (k := i.natAbs.log2 + 1) (by omega) (by omega)
    have e3 : (PyData.int i).shown = Str.ofString (toString i) := by simp only [PyData.shown]
    rw [e3, PySem.ofString_length, sz]
    omega
  | .str _, h => by simp [sm] at h
  | .dict _, h => by simp [sm] at h
  | .list xs, h => by
    have q := showns_le xs (by simpa [sm] using h)
    refine ⟨?_, by simp [PyData.showable, q.2.1], by simp [PyData.hasDict, q.2.2]⟩
    have e := list_le (PyData.shownAll xs)
    simp only [PyData.shown, sz]
    omega
  | .tuple xs, h => by
    have q := showns_le xs (by simpa [sm] using h)
    refine ⟨?_, by simp [PyData.showable, q.2.1], by simp [PyData.hasDict, q.2.2]⟩
    have e := fmt_text (PyData.shownAll xs)
    simp only [PyData.shown, sz]
    omega
theorem showns_le : ∀ xs : List PyData, sms xs = true → piled (PyData.shownAll xs) ≤ szs xs ∧ PyData.showableAll xs = true ∧ PyData.hasDictAll xs = false
  | [], _ => ⟨Nat.zero_le _, by simp [PyData.showableAll], by simp [PyData.hasDictAll]⟩
  | x :: xs, h => by
    have h2 : sm x = true ∧ sms xs = true := by simpa [sms] using h
    have p := shown_le x h2.1
    have q := showns_le xs h2.2
    refine ⟨?_, by simp [PyData.showableAll, p.2.1, q.2.1], by simp [PyData.hasDictAll, p.2.2, q.2.2]⟩
    have e : PyData.shownAll (x :: xs) = x.shown :: PyData.shownAll xs := by simp only [PyData.shownAll]
    rw [e, piled_cons, szs]
    omega
end
def rRepr (K : PySem.W.Frag) : List V → Hp → VK → Prop := fun xs H Q => ∃ (a : Addr) (d : PyData), xs = [.ref a] ∧ Dp K H (.ref a) d ∧ sm d = true ∧ sz d ≤ 1000000 ∧ d.depth ≤ 50 ∧ Q (.str d.shown) H
section
variable {X : Cx}
theorem cr_repr (hg : X.A.guards = some []) (hu : X.A.units + 64 < cLine) : CallR X (.builtin "repr") (rRepr X.K) := by
  intro pins s σ H xs us Q I r h
  obtain ⟨a, d, rfl, hd, hs, hz, hp, q⟩ := h
  obtain ⟨u, rfl, ru⟩ := vals1 r
  cases ru
  obtain ⟨as, rd⟩ := Dp.reads I d _ _ hd rfl
  obtain ⟨h1, h2, h3⟩ := shown_le d hs
  have hk : ∀ b o, s.heap.get? b = some o → s.heap.get? b = some o := fun _ _ e => e
  refine repr_of_reads' rd h2 (PyData.noDict_hsm h3) hg (by omega) hk (fun h' u tk k => ⟨.str _, H, I.kept k, ⟨_, rfl⟩, q⟩) (Nat.le_trans h1 (Nat.le_trans hz (by decide)))
/-- // by any number but 0 below 2 ^ 9000 -/
def CDv (_ j : Int) : Prop := j ≠ 0 ∧ j.natAbs < 2 ^ 9000
theorem op_dv : OpR X (binaryOp .FloorDiv) (rI CDv fun i j => .int (i.fdiv j)) := opI fun _ _ _ _ _ _ _ hc q => floordiv_int hc.1 q (.inl (PyProof.noPylong_of_log2 (PySem.Flt.log2_lt_of (by decide) hc.2)))
end
/-! ### bounds by powers of two -/
def Bd (n : Nat) (x : Int) : Prop := x.natAbs < 2 ^ n
theorem Bd.mono {m n : Nat} {x : Int} (h : Bd m x) (k : m ≤ n) : Bd n x := Nat.lt_of_lt_of_le h (Nat.pow_le_pow_right (by decide) k)
theorem Bd.mul {m n : Nat} {x y : Int} (h : Bd m x) (k : Bd n y) : Bd (m + n) (x * y) := wide_lt h k
theorem Bd.neg {n : Nat} {x : Int} (h : Bd n x) : Bd n (-x) := by unfold Bd; rw [Int.natAbs_neg]; exact h
theorem Bd.of_neg {n : Nat} {x : Int} (h : Bd n (-x)) : Bd n x := by unfold Bd at h; rw [Int.natAbs_neg] at h; exact h
theorem Bd.add {n : Nat} {x y : Int} (h : Bd n x) (k : Bd n y) : Bd (n + 1) (x + y) := by
  unfold Bd at *
  have e : 2 ^ (n + 1) = 2 ^ n + 2 ^ n := by rw [Nat.pow_succ]; omega
  have := Int.natAbs_add_le x y
  omega
theorem Bd.sub {n : Nat} {x y : Int} (h : Bd n x) (k : Bd n y) : Bd (n + 1) (x - y) := by
  have q := h.add k.neg
  rwa [← Int.sub_eq_add_neg] at q
theorem Bd.log {n : Nat} {x : Int} (h : Bd n x) (h0 : 0 < n := by decide) : x.natAbs.log2 < n := PySem.Flt.log2_lt_of h0 h
theorem Bd.le {n : Nat} {x y : Int} (h : Bd n y) (k : x.natAbs ≤ y.natAbs) : Bd n x := Nat.lt_of_le_of_lt k h
theorem Bd.lit {n : Nat} {x : Int} (h : decide (x.natAbs < 2 ^ n) = true) : Bd n x := by unfold Bd; exact of_decide_eq_true h
theorem Bd.cmul {m n : Nat} {x y : Int} (h : Bd m x) (k : Bd n y) (h0 : 0 < m := by decide) (h1 : 0 < n := by decide) (hs : m + n ≤ 1000000 := by decide) : CMulW x y := wide_mul h k h0 h1 hs
end Ob
namespace Ob
open PySem PySem.Spec PyProof.Rows L2
/-! ### readings, one step each -/
def rLen (K : PySem.W.Frag) : List V → Hp → VK → Prop := fun xs H Q => ∃ p ys, xs = [.ref p] ∧ (SqL K H p ys ∨ SqT K H p ys) ∧ Q (.int ys.length) H
section
variable {K : PySem.W.Frag} {σ : L2.St} {H : Hp} {D : Ends} {te ta tb : TE} {tt uu : TT} {tr : TA} {tl : TA} {Q : VK} {R : Bool → Hp → Prop} {T : List V → Hp → Prop} {v : V} {s1 s2 : TS}
theorem rd_var {i : Nat} (h : σ[i]? = some (some v)) (q : Q v H) : tVar i σ H Q := ⟨v, h, q⟩
theorem rd_c (q : Q v H) : tC v σ H Q := q
theorem rd_nil (q : T [] H) : tNil σ H T := q
theorem rd_cons (q : ta σ H fun x H1 => tl σ H1 fun xs H2 => T (x :: xs) H2) : tCons ta tl σ H T := q
theorem rd_op {r : R2} (q : ta σ H fun x H1 => tb σ H1 fun y H2 => r x y H2 Q) : tOp r ta tb σ H Q := q
theorem rd_un {r : V → Hp → VK → Prop} (q : ta σ H fun x H1 => r x H1 Q) : tUn r ta σ H Q := q
theorem rd_I0 {g : Int → Int → V} {i j : Int} (q : Q (g i j) H) : rI0 g (.int i) (.int j) H Q := ⟨i, j, rfl, rfl, q⟩
theorem rd_I {C : Int → Int → Prop} {g : Int → Int → V} {i j : Int} (c : C i j) (q : Q (g i j) H) : rI C g (.int i) (.int j) H Q := ⟨i, j, rfl, rfl, c, q⟩
theorem rd_U {g : Int → V} {i : Int} (q : Q (g i) H) : rU g (.int i) H Q := ⟨i, rfl, q⟩
theorem rd_eq {x y : V} (h : scal x y = true) (q : Q (.bl (decide (x = y))) H) : rEq x y H Q := ⟨h, q⟩
theorem rd_ne {x y : V} (h : scal x y = true) (q : Q (.bl (!decide (x = y))) H) : rNe x y H Q := ⟨h, q⟩
theorem rd_eqI {i j : Int} (q : Q (.bl (decide (i = j))) H) : rEq (.int i) (.int j) H Q := ⟨rfl, by
  have e : decide (V.int i = V.int j) = decide (i = j) := by
    by_cases h : i = j
    · rw [decide_eq_true h, decide_eq_true (by rw [h])]
    · rw [decide_eq_false h, decide_eq_false fun z => h (V.int.inj z)]
  rw [e]
  exact q⟩
theorem rd_neI {i j : Int} (q : Q (.bl (!decide (i = j))) H) : rNe (.int i) (.int j) H Q := ⟨rfl, by
  have e : decide (V.int i = V.int j) = decide (i = j) := by
    by_cases h : i = j
    · rw [decide_eq_true h, decide_eq_true (by rw [h])]
    · rw [decide_eq_false h, decide_eq_false fun z => h (V.int.inj z)]
  rw [e]
  exact q⟩
theorem rd_same {x : V} (h : scal x x = true) (q : Q (.bl true) H) : rEq x x H Q := ⟨h, by rw [decide_eq_true rfl]; exact q⟩
theorem rd_nsame {x : V} (h : scal x x = true) (q : Q (.bl false) H) : rNe x x H Q := ⟨h, by rw [decide_eq_true rfl]; exact q⟩
theorem rd_test (q : te σ H fun x H' => ∃ k, x = .bl k ∧ R k H') : tTest te σ H R := q
theorem rd_B (q : te σ H fun x H' => ∃ k, x = .bl k ∧ R k H') : tB te σ H R := q
theorem rd_bl {c : Bool} {R : Bool → Prop} (q : R c) : ∃ k, V.bl c = V.bl k ∧ R k := ⟨c, rfl, q⟩
theorem rd_not (q : tt σ H fun c H1 => R (!c) H1) : tNot tt σ H R := q
theorem rd_and (q : tt σ H fun c H1 => if c = true then uu σ H1 R else R false H1) : tAnd tt uu σ H R := q
theorem rd_or (q : tt σ H fun c H1 => if c = true then R true H1 else uu σ H1 R) : tOr tt uu σ H R := q
theorem rd_andV (q : ta σ H fun x H1 => ∃ c, x = .bl c ∧ if c = true then tb σ H1 Q else Q (.bl false) H1) : tAndV ta tb σ H Q := q
theorem rd_orV (q : ta σ H fun x H1 => ∃ c, x = .bl c ∧ if c = true then Q (.bl true) H1 else tb σ H1 Q) : tOrV ta tb σ H Q := q
theorem rd_notV (q : ta σ H fun x H1 => ∃ c, x = .bl c ∧ Q (.bl (!c)) H1) : tNotV ta σ H Q := q
theorem rd_ifE (q : tt σ H fun c H1 => if c = true then ta σ H1 Q else tb σ H1 Q) : tIf tt ta tb σ H Q := q
theorem rd_tup (q : tl σ H fun xs H1 => xs.length ≤ sizeLine ∧ ∀ p, H1 p = none → Q (.ref p) (upd H1 p (.tup xs))) : tTup tl σ H Q := q
theorem rd_lst (q : tl σ H fun xs H1 => xs.length ≤ sizeLine ∧ ∀ p, H1 p = none → Q (.ref p) (upd H1 p (.lst xs))) : tLst tl σ H Q := q
theorem rd_new {xs : List V} {A : Prop} (h : Nat.ble xs.length 1000 = true) (q : A) : xs.length ≤ sizeLine ∧ A := ⟨Nat.le_of_lt (small1000 (Nat.le_of_ble_eq_true h)), q⟩
def kT (Q : VK) (xs : List V) (H : Hp) : Prop := xs.length ≤ sizeLine ∧ ∀ p, H p = none → Q (.ref p) (upd H p (.tup xs))
def kL (Q : VK) (xs : List V) (H : Hp) : Prop := xs.length ≤ sizeLine ∧ ∀ p, H p = none → Q (.ref p) (upd H p (.lst xs))
theorem rd_tupK (q : tl σ H fun xs H1 => kT Q xs H1) : tTup tl σ H Q := q
theorem rd_lstK (q : tl σ H fun xs H1 => kL Q xs H1) : tLst tl σ H Q := q
theorem rd_kT {xs : List V} (h : Nat.ble xs.length 1000 = true) (q : ∀ p J, H p = none → Same H J → J p = some (.tup xs) → Q (.ref p) J) : kT Q xs H :=
  ⟨Nat.le_of_lt (small1000 (Nat.le_of_ble_eq_true h)), fun p np => q p _ np (fun a u e => by rw [upd_ne (ne_of_none e np)]; exact e) upd_same⟩
theorem rd_kL {xs : List V} (h : Nat.ble xs.length 1000 = true) (q : ∀ p J, H p = none → Same H J → J p = some (.lst xs) → Q (.ref p) J) : kL Q xs H :=
  ⟨Nat.le_of_lt (small1000 (Nat.le_of_ble_eq_true h)), fun p np => q p _ np (fun a u e => by rw [upd_ne (ne_of_none e np)]; exact e) upd_same⟩
theorem rd_call {sp : Sp} {dvs : List V} {E : XK} (q : tl σ H fun vs H1 => sp (vs ++ dvs) H1 Q E) : tCall sp dvs E tl σ H Q := q
theorem rd_CB {r : List V → Hp → VK → Prop} (q : tl σ H fun vs H1 => r vs H1 Q) : tCB r tl σ H Q := q
theorem rd_one {i : Int} {R : Int → Prop} (q : R i) : ∃ j, [V.int i] = [V.int j] ∧ R j := ⟨i, rfl, q⟩
theorem rd_two {i j : Int} {R : Int → Int → Prop} (q : R i j) : ∃ k l, [V.int i, V.int j] = [V.int k, V.int l] ∧ R k l := ⟨i, j, rfl, q⟩
theorem rd_int {i : Int} {R : Int → Prop} {S : Bool → Prop} (q : R i) : (∃ j, [V.int i] = [V.int j] ∧ R j) ∨ ∃ k, [V.int i] = [V.bl k] ∧ S k := .inl ⟨i, rfl, q⟩
theorem rd_intB {b : Bool} {R : Int → Prop} {S : Bool → Prop} (q : S b) : (∃ j, [V.bl b] = [V.int j] ∧ R j) ∨ ∃ k, [V.bl b] = [V.bl k] ∧ S k := .inr ⟨b, rfl, q⟩
theorem rd_ixL {p : Addr} {xs : List V} {i : Int} (h : SqL K H p xs) (ha : atI xs i = some v) (q : Q v H) : rIxL K (.ref p) (.int i) H Q := ⟨p, xs, i, v, rfl, rfl, h, ha, q⟩
theorem rd_ixT {p : Addr} {xs : List V} {i : Int} (h : SqT K H p xs) (ha : atI xs i = some v) (q : Q v H) : rIxT K (.ref p) (.int i) H Q := ⟨p, xs, i, v, rfl, rfl, h, ha, q⟩
theorem rd_sxL {p : Addr} {xs : List V} {i : Int} (h : SqL K H p xs) (ha : atI xs i = some v) (q : Q v H) : rIx K (.ref p) (.int i) H Q := .inl ⟨p, xs, i, v, rfl, rfl, h, ha, q⟩
theorem rd_sxT {p : Addr} {xs : List V} {i : Int} (h : SqT K H p xs) (ha : atI xs i = some v) (q : Q v H) : rIx K (.ref p) (.int i) H Q := .inr (.inl ⟨p, xs, i, v, rfl, rfl, h, ha, q⟩)
theorem fmod_rng {x n : Int} (h : 0 < n) : 0 ≤ x.fmod n ∧ x.fmod n < n := by
  rw [Int.fmod_eq_emod_of_nonneg x (by omega)]
  exact ⟨Int.emod_nonneg x (by omega), Int.emod_lt_of_pos x h⟩
/-- a rest of which only the bounds matter -/
theorem rd_md {i j : Int} (c : 0 < j) (q : ∀ r, 0 ≤ r → r < j → Q (.int r) H) : rI (fun _ j => j ≠ 0) (fun i j => V.int (i.fmod j)) (.int i) (.int j) H Q :=
  ⟨i, j, rfl, rfl, by omega, q _ (fmod_rng c).1 (fmod_rng c).2⟩
def Lp (J : It) (g : TG) (tb : TS) (D : Ends) (σ : L2.St) (H : Hp) : Prop := ∃ W : Nat → Nat → L2.St → Hp → Prop, (∃ m, W 0 m σ H) ∧ ∀ i m σ H, W i m σ H →
  (J.stop i H ∧ D.nx σ H) ∨ (J.go i H ∧ ∃ N : L2.St → Hp → Prop, (∀ σ' H', N σ' H' → ∃ m', m' < m ∧ W (i + 1) m' σ' H') ∧ ∀ x H', J.yld i H x H' → g x σ H' fun σ2 H2 => tb { D with nx := N, ct := N, bk := D.nx } σ2 H2)
theorem rd_for1 {ta : TA} {g : TG} {tb : TS} (q : ta σ H fun vs H1 => ∃ j : Int, vs = [.int j] ∧ -(2 ^ 62) ≤ j ∧ j < 2 ^ 62 ∧ Lp (Itr 0 j.toNat) g tb D σ H1) : tFor (iRng1 ta) g tb D σ H := q
theorem rd_for1b {j : Int} {R : Int → Prop} (h : -(2 ^ 62) ≤ j ∧ j < 2 ^ 62) (q : R j) : ∃ k : Int, [V.int j] = [V.int k] ∧ -(2 ^ 62) ≤ k ∧ k < 2 ^ 62 ∧ R k := ⟨j, rfl, h.1, h.2, q⟩
theorem lp_rng {lo : Int} {n : Nat} {g : TG} {tb : TS} (Pv : Nat → L2.St → Hp → Prop) (h0 : Pv 0 σ H) (hs : ∀ i σ H, i < n → Pv i σ H → g (.int (lo + i)) σ H fun σ2 H2 => tb { D with nx := Pv (i + 1), ct := Pv (i + 1), bk := D.nx } σ2 H2)
    (hd : ∀ σ H, Pv n σ H → D.nx σ H) : Lp (Itr lo n) g tb D σ H := for_range Pv h0 hs hd
theorem rd_len {a : Addr} {ys : List V} (h : SqL K H a ys) (q : Q (.int ys.length) H) : rLen K [.ref a] H Q := ⟨a, ys, rfl, .inl h, q⟩
theorem rd_lenTu {a : Addr} {ys : List V} (h : SqT K H a ys) (q : Q (.int ys.length) H) : rLen K [.ref a] H Q := ⟨a, ys, rfl, .inr h, q⟩
theorem rd_lenL {a : Addr} {ys : List V} {R : List V → Prop} (h : SqL K H a ys) (q : R ys) : ∃ p zs, [V.ref a] = [V.ref p] ∧ (SqL K H p zs ∨ SqT K H p zs) ∧ R zs := ⟨a, ys, rfl, .inl h, q⟩
theorem rd_lenT {a : Addr} {ys : List V} {R : List V → Prop} (h : SqT K H a ys) (q : R ys) : ∃ p zs, [V.ref a] = [V.ref p] ∧ (SqL K H p zs ∨ SqT K H p zs) ∧ R zs := ⟨a, ys, rfl, .inr h, q⟩
theorem rd_repr {a : Addr} {d : PyData} (h : Dp K H (.ref a) d) (h1 : sm d = true) (h2 : sz d ≤ 1000000) (h3 : d.depth ≤ 50) (q : Q (.str d.shown) H) : rRepr K [.ref a] H Q := ⟨a, d, rfl, h, h1, h2, h3, q⟩
theorem rd_gtup {a : Addr} {xs : List V} {n : Nat} {t : TGs} {F : L2.St → Hp → Prop} (h : SqT K H a xs) (hn : xs.length = n) (q : t xs σ H F) : gTup K n t (.ref a) σ H F := ⟨a, xs, rfl, h, hn, q⟩
theorem rd_gcons {t : TG} {u : TGs} {w : V} {r : List V} {F : L2.St → Hp → Prop} (q : t w σ H fun σ' H' => u r σ' H' F) : gCons t u (w :: r) σ H F := ⟨w, r, rfl, q⟩
theorem rd_gnil {F : L2.St → Hp → Prop} (q : F σ H) : gNil [] σ H F := ⟨rfl, q⟩
theorem rd_isi {x : V} {n t : String} {b : Bool} (ty : TyX K H x (.type t)) (h : kitB t n = some b) (q : Q (.bl b) H) : rIsi K [x, .ty n] H Q := ⟨x, .ty n, _, _, b, rfl, .ty n, ty, kit_ty h, q⟩
theorem rd_isiI {i : Int} {n : String} {b : Bool} (h : kitB "int" n = some b) (q : Q (.bl b) H) : rIsi K [.int i, .ty n] H Q := rd_isi (.base (.int i)) h q
theorem rd_isiB {i : Bool} {n : String} {b : Bool} (h : kitB "bool" n = some b) (q : Q (.bl b) H) : rIsi K [.bl i, .ty n] H Q := rd_isi (.base (.bl i)) h q
theorem rd_isiN {n : String} {b : Bool} (h : kitB "NoneType" n = some b) (q : Q (.bl b) H) : rIsi K [.non, .ty n] H Q := rd_isi (.base .non) h q
theorem rd_isiS {i : Str} {n : String} {b : Bool} (h : kitB "str" n = some b) (q : Q (.bl b) H) : rIsi K [.str i, .ty n] H Q := rd_isi (.base (.str i)) h q
theorem rd_isiT {a : Addr} {xs : List V} {n : String} {b : Bool} (e : H a = some (.tup xs)) (h : kitB "tuple" n = some b) (q : Q (.bl b) H) : rIsi K [.ref a, .ty n] H Q := rd_isi (.base (.tup e)) h q
theorem rd_isiL {a : Addr} {xs : List V} {n : String} {b : Bool} (e : H a = some (.lst xs)) (h : kitB "list" n = some b) (q : Q (.bl b) H) : rIsi K [.ref a, .ty n] H Q := rd_isi (.base (.lst e)) h q
theorem rd_chain {r r' : R2} {tc : TE} (q : ta σ H fun x H1 => tb σ H1 fun y H2 => r x y H2 fun z H3 => ∃ k, z = .bl k ∧ if k = true then tc σ H3 fun w H4 => r' y w H4 Q else Q (.bl false) H3) : tChain r r' ta tb tc σ H Q := q
theorem rd_eqDs {x y : V} {d : PyData} (h : Dp K H x d) (k : Dp K H y d) (s : SeqAt.shaped d = true) (q : Q (.bl true) H) : rEqD K x y H Q := ⟨d, d, h, k, s, s, by rw [SeqAt.eqv_refl d (SeqAt.canLay_of_shaped s)]; exact q⟩
theorem rd_neDs {x y : V} {d : PyData} (h : Dp K H x d) (k : Dp K H y d) (s : SeqAt.shaped d = true) (q : Q (.bl false) H) : rNeD K x y H Q := ⟨d, d, h, k, s, s, by rw [SeqAt.eqv_refl d (SeqAt.canLay_of_shaped s)]; exact q⟩
theorem rd_cat {l b : Addr} {xs zs : List V} (h : H l = some (.lst xs)) (k : H b = some (.lst zs)) (hz : xs.length + zs.length ≤ 1000) (q : ∀ p, H p = none → Q (.ref p) (upd H p (.lst (xs ++ zs)))) : rCat (.ref l) (.ref b) H Q :=
  ⟨l, b, xs, zs, rfl, rfl, h, k, Nat.le_of_lt (small1000 hz), q⟩
theorem rd_rep {l : Addr} {k : Int} {xs ys : List V} (h : H l = some (.lst xs)) (h0 : 0 ≤ k ∧ k ≤ 1000) (hz : xs.length * k.toNat ≤ 1000) (e : (List.replicate k.toNat xs).flatten = ys) (q : ∀ p, H p = none → Q (.ref p) (upd H p (.lst ys))) : rRep (.ref l) (.int k) H Q := by
  subst e
  exact ⟨l, k, xs, rfl, rfl, h, by omega, by omega, Nat.le_of_lt (small1000 hz), q⟩
theorem rd_append {T : String} {l : Addr} {xs : List V} (h : H l = some (.lst xs)) (q : tl σ H fun vs H1 => rAppend (.ref l) vs H1 Q) : (fun (x : V) (H1 : Hp) => tyV K "list" x H1 ∧ tl σ H1 fun vs H2 => rAppend x vs H2 Q) (.ref l) H := ⟨.inl ⟨rfl, _, SqL.of h⟩, q⟩
theorem rd_BM {T : String} {r : V → List V → Hp → VK → Prop} (q : te σ H fun x H1 => tyV K T x H1 ∧ tl σ H1 fun vs H2 => r x vs H2 Q) : tBM K T r te tl σ H Q := q
theorem rd_tyl {l : Addr} {xs : List V} {A : Prop} (h : H l = some (.lst xs)) (q : A) : tyV K "list" (.ref l) H ∧ A := ⟨.inl ⟨rfl, _, SqL.of h⟩, q⟩
theorem rd_app {l : Addr} {y : V} {xs : List V} (h : H l = some (.lst xs)) (hz : xs.length ≤ 1000) (q : Q .non (upd H l (.lst (xs ++ [y])))) : rAppend (.ref l) [y] H Q := ⟨l, xs, y, rfl, rfl, h, small1000 hz, q⟩
/-- what a comprehension's loop is to reach -/
def Lc (J : It) (g : TG) (tt : TT) (te : TE) (vs : List Nat) (σ : L2.St) (Qd : Hp → Prop) (H1 : Hp) (D : Addr) : Prop := ∃ W : Nat → Nat → Hp → Prop, (∃ m, W 0 m (upd H1 D (.lst []))) ∧ ∀ i m H, W i m H →
  (J.stop i H ∧ Qd H) ∨ (J.go i H ∧ ∃ Nx : Hp → Prop, (∀ H', Nx H' → ∃ m', m' < m ∧ W (i + 1) m' H') ∧ ∀ x H', J.yld i H x H' → g x (wipe σ vs) H' fun σ2 H2 => wipe σ2 vs = wipe σ vs ∧ tt σ2 H2 fun b H3 =>
    if b = true then te σ2 H3 fun y H4 => ∃ acc, H4 D = some (.lst acc) ∧ acc.length < sizeLine ∧ Nx (upd H4 D (.lst (acc ++ [y]))) else Nx H3)
theorem rd_lc {wi : TI} {g : TG} {vs : List Nat} (q : wi σ H fun J H1 => ∀ D, H1 D = none → Lc J g tt te vs σ (fun H' => Q (.ref D) H') H1 D) : tLc wi g tt te vs σ H Q := q
theorem rd_iTup {R : It → Hp → Prop} (q : te σ H fun x H1 => ∃ a, x = .ref a ∧ (∃ xs, SqT K H1 a xs) ∧ R (Itt K a) H1) : iTup K te σ H R := q
theorem rd_iTupA {a : Addr} {xs : List V} {R : Addr → Prop} (h : SqT K H a xs) (q : R a) : ∃ p, V.ref a = .ref p ∧ (∃ xs, SqT K H p xs) ∧ R p := ⟨a, rfl, ⟨xs, h⟩, q⟩
theorem rd_iLst {R : It → Hp → Prop} (q : te σ H fun x H1 => ∃ a, x = .ref a ∧ (∃ xs, SqL K H1 a xs) ∧ R (Itl K a) H1) : iList K te σ H R := q
theorem rd_iLstA {a : Addr} {xs : List V} {R : Addr → Prop} (h : SqL K H a xs) (q : R a) : ∃ p, V.ref a = .ref p ∧ (∃ xs, SqL K H p xs) ∧ R p := ⟨a, rfl, ⟨xs, h⟩, q⟩
theorem rd_iR1 {ta : TA} {R : It → Hp → Prop} (q : ta σ H fun vs H1 => ∃ j : Int, vs = [.int j] ∧ -(2 ^ 62) ≤ j ∧ j < 2 ^ 62 ∧ R (Itr 0 j.toNat) H1) : iRng1 ta σ H R := q
theorem upd_upd {D : Addr} {x y : HO} : upd (upd H D x) D y = upd H D y := by
  funext b
  unfold upd
  split <;> rfl
/-- [f(x) for x in t], t a tuple, f's heap as it was -/
theorem lc_mapT {a D : Addr} {xs : List V} (f : V → V) {i0 : Nat} {Qd : Hp → Prop} (hT : H a = some (.tup xs)) (hl : xs.length ≤ 1000) (hD : H D = none)
    (he : ∀ x, x ∈ xs → ∀ (l : List V) (R : VK), R (f x) (upd H D (.lst l)) → te ((σ.set i0 none).set i0 (some x)) (upd H D (.lst l)) R) (hd : Qd (upd H D (.lst (xs.map f)))) : Lc (Itt K a) (gName i0) tYes te [i0] σ Qd H D := by
  have ne : a ≠ D := ne_of_none hT hD
  refine lc_tup (xs := xs) (fun i J => i ≤ xs.length ∧ J = upd H D (.lst ((xs.take i).map f))) ⟨Nat.zero_le _, by rw [List.take_zero]; rfl⟩ (fun i J _ w => by
    rw [w.2]
    exact SqT.of (by rw [upd_ne ne]; exact hT)) (fun i x J hx w => ?_) fun J w => ?_
  · obtain ⟨hi, rfl⟩ := w
    have lt : i < xs.length := (List.getElem?_eq_some_iff.mp hx).1
    refine ⟨?_, ?_⟩
    · show ((σ.set i0 none).set i0 (some x)).set i0 none = σ.set i0 none
      rw [List.set_set, List.set_set]
    · show te _ _ _
      refine he x (List.mem_of_getElem? hx) _ _ ⟨_, upd_same, ?_, ?_, ?_⟩
      · rw [List.length_map, List.length_take]
        exact small1000 (by omega)
      · omega
      · rw [upd_upd]
        have e : (xs.take (i + 1)).map f = (xs.take i).map f ++ [f x] := by rw [List.take_add_one, hx, List.map_append]; rfl
        rw [e]
  · rw [List.take_length] at w
    rw [w.2]
    exact hd
/-- [f for _ in range(n)] -/
theorem lc_mapR {D : Addr} {n : Nat} (f : Nat → V) {i0 : Nat} {Qd : Hp → Prop} (hl : n ≤ 1000) (hD : H D = none)
    (he : ∀ i, i < n → ∀ (l : List V) (R : VK), R (f i) (upd H D (.lst l)) → te ((σ.set i0 none).set i0 (some (.int (0 + (i : Int))))) (upd H D (.lst l)) R) (hd : Qd (upd H D (.lst ((List.range n).map f)))) : Lc (Itr 0 n) (gName i0) tYes te [i0] σ Qd H D := by
  refine lc_range (fun i J => J = upd H D (.lst ((List.range i).map f))) rfl (fun i J hi w => ?_) fun J w => ?_
  · subst w
    refine ⟨?_, ?_⟩
    · show ((σ.set i0 none).set i0 _).set i0 none = σ.set i0 none
      rw [List.set_set, List.set_set]
    · show te _ _ _
      refine he i hi _ _ ⟨_, upd_same, ?_, ?_⟩
      · rw [List.length_map, List.length_range]
        exact small1000 (by omega)
      · rw [upd_upd, List.range_succ, List.map_append]
        rfl
  · subst w
    exact hd
theorem rd_all {a : Addr} {bs : List Bool} (h : SqL K H a (bs.map V.bl)) (q : Q (.bl (bs.all id)) H) : rAll K [.ref a] H Q := ⟨a, bs, rfl, h, q⟩
theorem rd_any {a : Addr} {bs : List Bool} (h : SqL K H a (bs.map V.bl)) (q : Q (.bl (bs.any id)) H) : rAny K [.ref a] H Q := ⟨a, bs, rfl, h, q⟩
theorem rd_gcd {i j : Int} (q : Q (.int ((Nat.gcd i.natAbs j.natAbs : Nat) : Int)) H) : rGcd [.int i, .int j] H Q := ⟨i, j, rfl, q⟩
theorem rd_seq (q : s1 { D with nx := s2 D } σ H) : tSeq s1 s2 D σ H := q
theorem rd_next (q : D.nx σ H) : tNext D σ H := q
theorem rd_ret (q : te σ H D.rt) : tRet te D σ H := q
theorem rd_drop (q : te σ H fun _ H1 => D.nx σ H1) : tDrop te D σ H := q
theorem rd_asg {g : TG} (q : te σ H fun x H1 => g x σ H1 D.nx) : tAsg te g D σ H := q
theorem rd_name {i : Nat} {F : L2.St → Hp → Prop} {τ : L2.St} (e : σ.set i (some v) = τ) (q : F τ H) : gName i v σ H F := by subst e; exact q
theorem rd_sub {to ti : TE} {t : TSet} {F : L2.St → Hp → Prop} (q : to σ H fun o H1 => ti σ H1 fun i H2 => t o i v H2 fun H3 => F σ H3) : gSub to ti t v σ H F := q
theorem rd_setL {p : Addr} {xs ys : List V} {k : Int} {j : Nat} {F : Hp → Prop} (h : H p = some (.lst xs)) (hj : ixN xs.length k = some j) (e : xs.set j v = ys) (q : F (upd H p (.lst ys))) : rSetL (.ref p) (.int k) v H F := by
  subst e
  exact ⟨p, xs, k, j, rfl, rfl, h, hj, q⟩
theorem rd_ifS (q : tt σ H fun b H1 => if b = true then s1 D σ H1 else s2 D σ H1) : tIfS tt s1 s2 D σ H := q
theorem rd_par {i j : Nat} {x y : V} {τ : L2.St} (e : (σ.set i (some x)).set j (some y) = τ) (q : D.nx τ H) : ∃ v w, [x, y] = [v, w] ∧ D.nx ((σ.set i (some v)).set j (some w)) H := by
  subst e
  exact ⟨x, y, rfl, q⟩
theorem rd_tpar {i j : Nat} (q : tl σ H fun vs H1 => ∃ v w, vs = [v, w] ∧ D.nx ((σ.set i (some v)).set j (some w)) H1) : tPar i j tl D σ H := q
theorem rd_if {P : Prop} [Decidable P] {A B : Prop} (h1 : P → A) (h2 : ¬ P → B) : if decide P = true then A else B := ite2 (fun c => h1 (of_decide_eq_true c)) fun c => h2 fun z => c (decide_eq_true z)
theorem rd_ifn {P : Prop} [Decidable P] {A B : Prop} (h1 : ¬ P → A) (h2 : P → B) : if (!decide P) = true then A else B :=
  ite2 (fun c => h1 (by simpa using c)) fun c => h2 (by simpa using c)
theorem rd_mulok {i j : Int} (h : (-(2 ^ 64) < i ∧ i < 2 ^ 64) ∨ (-(2 ^ 64) < j ∧ j < 2 ^ 64)) : IntMulOk i j := CMul.ok h
theorem rd_mulB {m n : Nat} {i j : Int} (h : Bd m i) (k : Bd n j) (h0 : 0 < m := by decide) (h1 : 0 < n := by decide) (hs : m + n ≤ 1000000 := by decide) : IntMulOk i j := (h.cmul k h0 h1 hs).ok
theorem rd_dvI {j : Int} (i : Int) (h : j ≠ 0) (k : j.natAbs < 2 ^ 400) : CDv i j := ⟨h, Nat.lt_of_lt_of_le k (Nat.pow_le_pow_right (by decide) (by decide))⟩
theorem rd_dvB {n : Nat} {j : Int} (i : Int) (h : j ≠ 0) (k : Bd n j) (hn : n ≤ 9000 := by decide) : CDv i j := ⟨h, k.mono hn⟩
end
section
variable {X : Cx}
theorem op_ml : OpR X (binaryOp .Mult) (rI IntMulOk fun i j => .int (i * j)) := opI fun _ _ _ _ _ _ _ hc q => mul_int q hc
end
structure Cal (P : Program) (w : World) (K : PySem.W.Frag) (mg : Str → Option Value) (base : Heap) (x : Str) (k : Nat) (f : Addr) (fd : FuncData) (ps : List Str) (sp : Sp) : Prop where
  g : FnG P w K mg base CX0 k f fd ps sp
  b : Binds K fd ps []
  kp : PySem.W.keepIn K (.ref f) = true
  m : mg x = some (.ref f)
theorem pe_c {X : Cx} {k : Nat} {f : Addr} {fd : FuncData} {ps : List Str} {sp : Sp} {x : Str} {e : Expr} {es : List Expr} {t : TA} {p pos : Pos} (C : Cal X.prog X.w X.K X.mg X.base x k f fd ps sp) (hg : X.A.guards = some []) (hr : Room k X.A) (gl : Gl X x)
    (ha : PA X (e :: es) t) (hdb : (x == ("__debug__" : Str)) = false := by decide) (he : starEach (e :: es) X.env = (false, eval e X.env) :: starEach es X.env := by rfl) (hpl : (backTo pos (starEach es X.env)).any (·.1) = false := by rfl) :
    PE X (.Call (.Name x p) (e :: es) [] pos) (tCall sp [] E0 t) := pe_g C.g hg hr gl C.m C.kp C.b .nil pass0 ha hdb he hpl
theorem room_u {k : Nat} {A : Around} (h : Room k A) : A.units + 64 < cLine := h.units
section
variable {X : Cx} {K : PySem.W.Frag}
theorem ixK (h : X.K = K) : IxR X (rIx K) := h ▸ ix_seq
theorem lenK (h : X.K = K) : CallR X (.builtin "len") (rLen K) := h ▸ call_len_seq
theorem isiK (h : X.K = K) : CallR X (.builtin "isinstance") (rIsi K) := h ▸ call_isi
theorem reprK (h : X.K = K) (hg : X.A.guards = some []) (hu : X.A.units + 64 < cLine) : CallR X (.builtin "repr") (rRepr K) := h ▸ cr_repr hg hu
theorem allK (h : X.K = K) (hc : X.calm = true) : CallR X (.builtin "all") (rAll K) := h ▸ cr_all hc
theorem anyK (h : X.K = K) (hc : X.calm = true) : CallR X (.builtin "any") (rAny K) := h ▸ cr_any hc
theorem sumK (h : X.K = K) (hc : X.calm = true) : CallR X (.builtin "sum") (rSum K) := h ▸ cr_sum hc
theorem eqK (h : X.K = K) (hu : X.A.units + 64 < cLine) : OpR X (compareOp .Eq) (rEqD K) := h ▸ op_eqD hu
theorem neK (h : X.K = K) (hu : X.A.units + 64 < cLine) : OpR X (compareOp .NotEq) (rNeD K) := h ▸ op_neD hu
theorem inK (h : X.K = K) : OpR X (compareOp .In) (rIn K false) := h ▸ op_in_seq
theorem niK (h : X.K = K) : OpR X (compareOp .NotIn) (rIn K true) := h ▸ op_notIn_seq
theorem slK (h : X.K = K) : SlR X (rSlL K) := h ▸ sl_list
theorem piL (h : X.K = K) {tg l : Expr} {tl : TE} (hl : PE X l tl) : PI X tg l (iList K tl) := h ▸ pi_list hl
theorem piT (h : X.K = K) {tg l : Expr} {tl : TE} (hl : PE X l tl) : PI X tg l (iTup K tl) := h ▸ pi_tup hl
end
/-! ### what stays -/
/-- all but what stands at b stays as it is -/
def Kp (b : Addr) (H J : Hp) : Prop := ∀ a o, a ≠ b → H a = some o → J a = some o
def Bag (b : Addr) (H : Hp) : Prop := ∃ x y : Int, H b = some (.lst [.int x, .int y])
def Scr (K : PySem.W.Frag) (H : Hp) (a : Addr) (xs : List V) : Prop := (∃ o, H a = some (.frz o (.lst xs))) ∨ SqL K (fun _ => none) a xs
section
variable {K : PySem.W.Frag} {H J M : Hp} {a b p : Addr} {xs ys : List V} {o : HO}
theorem Kp.refl : Kp b H H := fun _ _ _ e => e
theorem Kp.trans (h : Kp b H J) (k : Kp b J M) : Kp b H M := fun a o n e => k a o n (h a o n e)
theorem Kp.new (h : H p = none) : Kp b H (upd H p o) := fun a u _ e => by rw [upd_ne (ne_of_none e h)]; exact e
theorem Kp.at : Kp b H (upd H b o) := fun a u n e => by rw [upd_ne n]; exact e
theorem Kp.tup (h : Kp b H J) (g : Bag b H) (e : H a = some (.tup xs)) : J a = some (.tup xs) := h a _ (fun z => by
  obtain ⟨x, y, q⟩ := g
  subst z
  cases e.symm.trans q) e
theorem Kp.lst (h : Kp b H J) (n : a ≠ b) (e : H a = some (.lst xs)) : J a = some (.lst xs) := h a _ n e
theorem Bag.new (g : Bag b H) (h : H p = none) : Bag b (upd H p o) := by
  obtain ⟨x, y, q⟩ := g
  exact ⟨x, y, by rw [upd_ne (ne_of_none q h)]; exact q⟩
theorem Bag.ne (g : Bag b H) (h : H p = none) : p ≠ b := fun z => by
  obtain ⟨x, y, q⟩ := g
  subst z
  cases h.symm.trans q
theorem Bag.off (h : H p = none) (g : Bag b H) : p ≠ b := g.ne h
theorem Kp.free (k : Kp b H J) (g : Bag b J) (h : J p = none) : H p = none := by
  cases e : H p with
  | none => rfl
  | some o => cases h.symm.trans (k p o (g.ne h) e)
theorem set_tup (h : H p = some (.lst ys)) (e : H a = some (.tup xs)) : upd H p o a = some (.tup xs) := by
  rw [upd_ne (fun z => by subst z; cases h.symm.trans e)]
  exact e
theorem set_lst (n : a ≠ p) (e : H a = some (.lst xs)) : upd H p o a = some (.lst xs) := by rw [upd_ne n]; exact e
theorem Bag.put (n : p ≠ b) (g : Bag b H) : Bag b (upd H p o) := by
  obtain ⟨x, y, q⟩ := g
  exact ⟨x, y, by rw [upd_ne (fun z => n z.symm)]; exact q⟩
theorem new_tup (h : H p = none) (e : H a = some (.tup xs)) : upd H p o a = some (.tup xs) := by rw [upd_ne (ne_of_none e h)]; exact e
theorem new_any {u : HO} (h : H p = none) (e : H a = some u) : upd H p o a = some u := by rw [upd_ne (ne_of_none e h)]; exact e
theorem Scr.sq (h : Scr K H a xs) : SqL K H a xs := by
  rcases h with ⟨o, e⟩ | (e | e)
  · exact .inl (.inr ⟨o, e⟩)
  · rcases e with e | ⟨_, e⟩ <;> cases e
  · exact .inr e
theorem Scr.kp (h : Kp b H J) (g : Bag b H) (e : Scr K H a xs) : Scr K J a xs := by
  rcases e with ⟨o, e⟩ | e
  · refine .inl ⟨o, h a _ (fun z => ?_) e⟩
    obtain ⟨x, y, q⟩ := g
    subst z
    cases e.symm.trans q
  · exact .inr e
theorem Scr.new (h : H p = none) (e : Scr K H a xs) : Scr K (upd H p o) a xs := by
  rcases e with ⟨u, e⟩ | e
  · exact .inl ⟨u, new_any h e⟩
  · exact .inr e
theorem Scr.of (o : Only H) (h : SqL K H a xs) : Scr K H a xs := by
  rcases h with (e | e) | e
  · rcases o a with z | ⟨_, _, z⟩
    · cases e.symm.trans z
    · cases e.symm.trans z
  · exact .inl e
  · exact .inr (.inr e)
theorem same_any {u : HO} (h : Same H J) (e : H a = some u) : J a = some u := h a u e
theorem Bag.same (h : Same H J) (g : Bag b H) : Bag b J := by
  obtain ⟨x, y, q⟩ := g
  exact ⟨x, y, h _ _ q⟩
theorem Scr.same (h : Same H J) (e : Scr K H a xs) : Scr K J a xs := by
  rcases e with ⟨o, e⟩ | e
  · exact .inl ⟨o, h _ _ e⟩
  · exact .inr e
theorem rd_pick {K : PySem.W.Frag} {Q : VK} {r : Int} (h : H p = some (.lst xs)) (h0 : 0 ≤ r) (h1 : r < xs.length) (q : ∀ v, v ∈ xs → Q v H) : rIx K (.ref p) (.int r) H Q := by
  have l1 : r.toNat < xs.length := by omega
  have e : r = ((r.toNat : Nat) : Int) := by omega
  have z := atI_nat (xs := xs) (List.getElem?_eq_getElem l1)
  rw [← e] at z
  exact rd_sxL (SqL.of h) z (q _ (List.getElem_mem l1))
/-- a new object is not the bag -/
theorem Bag.nw (np : H p = none) (g : Bag b H) : p ≠ b := g.ne np
theorem same_new (h : H p = none) : Same H (upd H p o) := fun a u e => by rw [upd_ne (ne_of_none e h)]; exact e
/-- the list at l has been changed, all else is as it was -/
def Pu (l : Addr) (H J : Hp) : Prop := Kp l H J ∧ (∃ ys, H l = some (.lst ys)) ∧ ∃ zs, J l = some (.lst zs)
theorem Pu.tup {l : Addr} (k : Pu l H J) (e : H a = some (.tup xs)) : J a = some (.tup xs) := k.1 a _ (fun z => by
  obtain ⟨ys, q⟩ := k.2.1
  subst z
  cases e.symm.trans q) e
theorem Pu.lst {l : Addr} (k : Pu l H J) (n : a ≠ l) (e : H a = some (.lst xs)) : J a = some (.lst xs) := k.1 a _ n e
theorem Pu.bag {l : Addr} (k : Pu l H J) (n : l ≠ b) (g : Bag b H) : Bag b J := by
  obtain ⟨x, y, q⟩ := g
  exact ⟨x, y, k.1 b _ (fun z => n z.symm) q⟩
theorem Pu.scr {K : PySem.W.Frag} {l : Addr} (k : Pu l H J) (e : Scr K H a xs) : Scr K J a xs := by
  rcases e with ⟨o, e⟩ | e
  · refine .inl ⟨o, k.1 a _ (fun z => ?_) e⟩
    obtain ⟨ys, q⟩ := k.2.1
    subst z
    cases e.symm.trans q
  · exact .inr e
theorem rd_appK {Q : VK} {l : Addr} {y : V} (h : H l = some (.lst xs)) (hz : xs.length ≤ 1000) (q : ∀ J, Pu l H J → J l = some (.lst (xs ++ [y])) → Q .non J) : rAppend (.ref l) [y] H Q :=
  ⟨l, xs, y, rfl, rfl, h, small1000 hz, q _ ⟨Kp.at, ⟨_, h⟩, ⟨_, upd_same⟩⟩ upd_same⟩
theorem rd_catK {Q : VK} {l m : Addr} {zs : List V} (h : H l = some (.lst xs)) (k : H m = some (.lst zs)) (hz : xs.length + zs.length ≤ 1000) (q : ∀ p J, H p = none → Same H J → J p = some (.lst (xs ++ zs)) → Q (.ref p) J) : rCat (.ref l) (.ref m) H Q :=
  ⟨l, m, xs, zs, rfl, rfl, h, k, Nat.le_of_lt (small1000 hz), fun p np => q p _ np (same_new np) upd_same⟩
theorem rd_repK {Q : VK} {l : Addr} {k : Int} (h : H l = some (.lst xs)) (h0 : 0 ≤ k ∧ k ≤ 1000) (hz : xs.length * k.toNat ≤ 1000) (e : (List.replicate k.toNat xs).flatten = ys) (q : ∀ p J, H p = none → Same H J → J p = some (.lst ys) → Q (.ref p) J) : rRep (.ref l) (.int k) H Q := by
  subst e
  exact ⟨l, k, xs, rfl, rfl, h, by omega, by omega, Nat.le_of_lt (small1000 hz), fun p np => q p _ np (same_new np) upd_same⟩
theorem Kp.of (h : Same H J) : Kp b H J := fun a o _ e => h a o e
theorem pick {r : Int} (h0 : 0 ≤ r) (h : r < xs.length) : ∃ v, atI xs r = some v ∧ v ∈ xs := by
  have h1 : r.toNat < xs.length := by omega
  have e : r = ((r.toNat : Nat) : Int) := by omega
  have q := atI_nat (xs := xs) (List.getElem?_eq_getElem h1)
  rw [← e] at q
  exact ⟨xs[r.toNat], q, List.getElem_mem h1⟩
theorem pick_int {ns : List Int} {r : Int} (h0 : 0 ≤ r) (h : r < ns.length) : ∃ n, atI (ns.map V.int) r = some (.int n) ∧ n ∈ ns := by
  have h1 : r.toNat < ns.length := by omega
  have e : r = ((r.toNat : Nat) : Int) := by omega
  have q : atI (ns.map V.int) ((r.toNat : Nat) : Int) = some (.int ns[r.toNat]) := atI_nat (by rw [List.getElem?_map, List.getElem?_eq_getElem h1]; rfl)
  rw [← e] at q
  exact ⟨ns[r.toNat], q, List.getElem_mem h1⟩
def msr : L2.St → Nat
  | [_, some (.int y)] => y.natAbs
  | _ => 0
end
/-! ### greatest common divisors, lowest terms -/
theorem gcd_turn {x y : Int} : Int.gcd y (x.fmod y) = Int.gcd x y := by
  rw [Int.fmod_def, Int.gcd_sub_mul_left_right, Int.gcd_comm]
theorem fmod_abs {x y : Int} (h : y ≠ 0) : (x.fmod y).natAbs < y.natAbs := by
  rcases Int.lt_or_gt_of_ne h with h1 | h1
  · have := fmod_rng (x := -x) (n := -y) (by omega)
    rw [Int.neg_fmod_neg] at this
    omega
  · have := fmod_rng (x := x) h1
    omega
theorem natAbs_fdiv_le (u : Int) {v : Int} (h : 0 < v) : (u.fdiv v).natAbs ≤ u.natAbs := by
  rw [Int.fdiv_eq_ediv_of_nonneg u (by omega)]
  exact Int.natAbs_ediv_le_natAbs u v
theorem dvd_gcd1 {x y v : Int} (g : Int.gcd x y = 1) (h : y ∣ x * v) : y ∣ v := by
  have h1 : y.natAbs ∣ x.natAbs * v.natAbs := by rw [← Int.natAbs_mul]; exact Int.natAbs_dvd_natAbs.mpr h
  have g1 : Nat.Coprime y.natAbs x.natAbs := by rw [Nat.coprime_comm]; exact g
  exact Int.natAbs_dvd_natAbs.mp (g1.dvd_of_dvd_mul_left h1)
/-- a ratio in lowest terms is one alone -/
theorem low_one {x y u v : Int} (hy : 0 < y) (hv : 0 < v) (g : Int.gcd x y = 1) (k : Int.gcd u v = 1) (e : x * v = u * y) : x = u ∧ y = v := by
  have d1 : y ∣ v := dvd_gcd1 g ⟨u, by rw [e, Int.mul_comm]⟩
  have d2 : v ∣ y := dvd_gcd1 k ⟨x, by rw [← e, Int.mul_comm]⟩
  have e2 : y = v := Int.dvd_antisymm (by omega) (by omega) d1 d2
  subst e2
  exact ⟨Int.eq_of_mul_eq_mul_right (by omega) e, rfl⟩
def IsLow (t u x y : Int) : Prop := 0 < y ∧ Int.gcd x y = 1 ∧ x * u = t * y ∧ x.natAbs ≤ t.natAbs ∧ y.natAbs ≤ u.natAbs
theorem low_uniq {t u x y t' u' x' y' : Int} (h : IsLow t u x y) (k : IsLow t' u' x' y') (hu : u ≠ 0) (hv : u' ≠ 0) (e : t * u' = t' * u) : x = x' ∧ y = y' := by
  obtain ⟨y0, g, e1, _, _⟩ := h
  obtain ⟨v0, g', e2, _, _⟩ := k
  refine low_one y0 v0 g g' (Int.eq_of_mul_eq_mul_right (Int.mul_ne_zero hu hv) ?_)
  grind
theorem low_self {x y : Int} (y0 : 0 < y) (g : Int.gcd x y = 1) : IsLow x y x y := ⟨y0, g, rfl, Nat.le_refl _, Nat.le_refl _⟩
theorem low_at {t u s : Int} (h : u ≠ 0) (es : s = if u < 0 then -((Int.gcd t u : Nat) : Int) else ((Int.gcd t u : Nat) : Int)) : IsLow t u (t.fdiv s) (u.fdiv s) ∧ s ≠ 0 ∧ s.natAbs ≤ u.natAbs := by
  have g0 : 0 < Int.gcd t u := Int.gcd_pos_of_ne_zero_right t h
  have gu : (Int.gcd t u) ≤ u.natAbs := Int.gcd_le_natAbs_right t (by omega)
  have ns : s.natAbs = Int.gcd t u := by rw [es]; split <;> omega
  have s0 : s ≠ 0 := by omega
  have du : s ∣ u := by rw [← Int.natAbs_dvd, ns]; exact Int.gcd_dvd_right t u
  have dt : s ∣ t := by rw [← Int.natAbs_dvd, ns]; exact Int.gcd_dvd_left t u
  have eu := Int.fdiv_mul_cancel du
  have et := Int.fdiv_mul_cancel dt
  generalize u.fdiv s = y at *
  generalize t.fdiv s = x at *
  refine ⟨⟨?_, ?_, ?_, ?_, ?_⟩, s0, by omega⟩
  · rcases Int.lt_or_gt_of_ne h with n | n
    · have sn : s < 0 := by rw [es, if_pos n]; omega
      by_cases z : 0 < y
      · exact z
      · have z : y ≤ 0 := by omega
        have := Int.mul_nonneg_of_nonpos_of_nonpos z (show s ≤ 0 by omega)
        omega
    · have sp : 0 < s := by rw [es, if_neg (by omega)]; omega
      by_cases z : 0 < y
      · exact z
      · have z : y ≤ 0 := by omega
        have := Int.mul_nonpos_of_nonpos_of_nonneg z (show 0 ≤ s by omega)
        omega
  · have q : Int.gcd t u = s.natAbs * Int.gcd x y := by rw [← et, ← eu, Int.mul_comm x s, Int.mul_comm y s, Int.gcd_mul_left]
    rw [ns] at q
    exact Nat.eq_of_mul_eq_mul_left g0 (by omega)
  · rw [← eu, ← et, Int.mul_assoc, Int.mul_comm s y]
  · rw [← et, Int.natAbs_mul]
    exact Nat.le_mul_of_pos_right _ (by omega)
  · rw [← eu, Int.natAbs_mul]
    exact Nat.le_mul_of_pos_right _ (by omega)
end Ob
namespace Ob
open PySem PySem.Spec PyProof.Rows L2
/-! ### a tuple of the module's own top -/
structure TupC (K : PySem.W.Frag) (mg : Str → Option Value) (x : Str) (z : Addr) (xs : List V) : Prop where
  m : mg x = some (.ref z)
  sq : ∀ H, SqT K H z xs
def TupObj (o : Obj) (xs : List V) : Prop := o.cls = .type "tuple" ∧ ∃ its n, o.data = .seq its n ∧ its.size ≤ sizeLine ∧ Vals xs its.toList
theorem TupC.of {K : PySem.W.Frag} {mg : Str → Option Value} {x : Str} {z : Addr} {xs : List V} {o : Obj} (h : mg x = some (.ref z)) (l : K.lookup z = some o) (t : TupObj o xs) : TupC K mg x z xs :=
  ⟨h, fun _ => let ⟨c, its, n, d, s, v⟩ := t; .inr ⟨o, its, n, l, c, d, s, v⟩⟩
section
variable {K : PySem.W.Frag} {H J : Hp} {a b p l : Addr} {xs ys zs : List V} {o : HO}
theorem sqt_same (s : Same H J) (h : SqT K H a xs) : SqT K J a xs := by
  rcases h with (e | ⟨u, e⟩) | e
  · exact .inl (.inl (s _ _ e))
  · exact .inl (.inr ⟨u, s _ _ e⟩)
  · exact .inr e
theorem sqt_new (n : H p = none) (h : SqT K H a xs) : SqT K (upd H p o) a xs := sqt_same (same_new n) h
theorem sqt_kp (k : Kp b H J) (hb : ∀ e : H b = some (.tup xs), False) (hf : ∀ u, H b = some (.frz u (.tup xs)) → False) (h : SqT K H a xs) : SqT K J a xs := by
  rcases h with (e | ⟨u, e⟩) | e
  · exact .inl (.inl (k _ _ (fun z => by subst z; exact hb e) e))
  · exact .inl (.inr ⟨u, k _ _ (fun z => by subst z; exact hf u e) e⟩)
  · exact .inr e
theorem sqt_lst (k : Kp l H J) (e : H l = some (.lst ys)) (h : SqT K H a xs) : SqT K J a xs := sqt_kp k (fun z => by cases e.symm.trans z) (fun u z => by cases e.symm.trans z) h
theorem sqt_bag (k : Kp b H J) (g : Bag b H) (h : SqT K H a xs) : SqT K J a xs := by
  obtain ⟨x, y, e⟩ := g
  exact sqt_lst k e h
theorem sqt_pu (k : Pu l H J) (h : SqT K H a xs) : SqT K J a xs := by
  obtain ⟨ys, e⟩ := k.2.1
  exact sqt_lst k.1 e h
theorem sqt_fresh (k : Kp l H J) (e : H l = none) (h : SqT K H a xs) : SqT K J a xs := sqt_kp k (fun z => by cases e.symm.trans z) (fun u z => by cases e.symm.trans z) h
theorem tyT (h : SqT K H a xs) : TyX K H (.ref a) (.type "tuple") := by
  rcases h with (e | ⟨u, e⟩) | ⟨o, its, n, l, c, _⟩
  · exact .base (.tup e)
  · exact .fTuple e
  · exact .kTuple l c
theorem rd_isiQ {Q : VK} {n : String} {b : Bool} (e : SqT K H a xs) (h : kitB "tuple" n = some b) (q : Q (.bl b) H) : rIsi K [.ref a, .ty n] H Q := rd_isi (tyT e) h q
variable {σ : L2.St} {te : TE} {D : Addr}
/-- [f(x) for x in xs], xs a list, f's heap as it was -/
theorem lc_mapL (f : V → V) {i0 : Nat} {Qd : Hp → Prop} (hT : H a = some (.lst xs)) (hl : xs.length ≤ 1000) (hD : H D = none)
    (he : ∀ x, x ∈ xs → ∀ (l : List V) (R : VK), R (f x) (upd H D (.lst l)) → te ((σ.set i0 none).set i0 (some x)) (upd H D (.lst l)) R) (hd : Qd (upd H D (.lst (xs.map f)))) : Lc (Itl K a) (gName i0) tYes te [i0] σ Qd H D := by
  have ne : a ≠ D := ne_of_none hT hD
  refine lc_list (xs := xs) (fun i J => i ≤ xs.length ∧ J = upd H D (.lst ((xs.take i).map f))) ⟨Nat.zero_le _, by rw [List.take_zero]; rfl⟩ (fun i J _ w => by
    rw [w.2]
    exact SqL.of (by rw [upd_ne ne]; exact hT)) (fun i x J hx w => ?_) fun J w => ?_
  · obtain ⟨hi, rfl⟩ := w
    have lt : i < xs.length := (List.getElem?_eq_some_iff.mp hx).1
    refine ⟨?_, ?_⟩
    · show ((σ.set i0 none).set i0 (some x)).set i0 none = σ.set i0 none
      rw [List.set_set, List.set_set]
    · show te _ _ _
      refine he x (List.mem_of_getElem? hx) _ _ ⟨_, upd_same, ?_, ?_, ?_⟩
      · rw [List.length_map, List.length_take]
        exact small1000 (by omega)
      · omega
      · rw [upd_upd]
        have e : (xs.take (i + 1)).map f = (xs.take i).map f ++ [f x] := by rw [List.take_add_one, hx, List.map_append]; rfl
        rw [e]
  · rw [List.take_length] at w
    rw [w.2]
    exact hd
theorem zip_take_succ {α β γ : Type} (f : α → β → γ) : ∀ {xs : List α} {ys : List β} {i : Nat} {x : α} {y : β}, xs[i]? = some x → ys[i]? = some y → (List.zipWith f xs ys).take (i + 1) = (List.zipWith f xs ys).take i ++ [f x y] := by
  intro xs ys i x y hx hy
  have e : (List.zipWith f xs ys)[i]? = some (f x y) := by rw [List.getElem?_zipWith, hx, hy]
  rw [List.take_add_one, e]
  rfl
/-- [f(x, y) for x, y in zip(xs, ys)], two lists; f's heap as it was -/
theorem lc_mapZ (f : V → V → V) {i1 i2 n : Nat} {Qd : Hp → Prop} (hn : n = 2) (ha : H a = some (.lst xs)) (hb : H b = some (.lst ys)) (hl : xs.length ≤ 1000) (hD : H D = none)
    (hw : ∀ x y, wipe (((wipe σ [i1, i2]).set i1 (some x)).set i2 (some y)) [i1, i2] = wipe σ [i1, i2])
    (he : ∀ (i : Nat) x y, xs[i]? = some x → ys[i]? = some y → ∀ J, Kp D H J → ∀ R : VK, R (f x y) J → te (((wipe σ [i1, i2]).set i1 (some x)).set i2 (some y)) J R)
    (hd : ∀ J, Kp D H J → J D = some (.lst (List.zipWith f xs ys)) → Qd J) : Lc (Itz K a b) (gTup K n (gCons (gName i1) (gCons (gName i2) gNil))) tYes te [i1, i2] σ Qd H D := by
  subst hn
  have na : a ≠ D := ne_of_none ha hD
  have nb : b ≠ D := ne_of_none hb hD
  have zl : (List.zipWith f xs ys).length = min xs.length ys.length := List.length_zipWith
  let P : Nat → Hp → Prop := fun i J => i ≤ min xs.length ys.length ∧ Kp D H J ∧ J D = some (.lst ((List.zipWith f xs ys).take i))
  refine ⟨fun i m J => m = min xs.length ys.length - i ∧ P i J, ⟨_, rfl, Nat.zero_le _, Kp.new hD, by rw [List.take_zero]; exact upd_same⟩, ?_⟩
  rintro i m J ⟨rfl, hi, k, e⟩
  have qa : SqL K J a xs := SqL.of (k a _ na ha)
  have qb : SqL K J b ys := SqL.of (k b _ nb hb)
  by_cases lt : i < min xs.length ys.length
  · have hx : xs[i]? = some xs[i] := List.getElem?_eq_getElem (by omega)
    have hy : ys[i]? = some ys[i] := List.getElem?_eq_getElem (by omega)
    refine .inr ⟨⟨xs, ys, _, _, qa, qb, hx, hy⟩, P (i + 1), fun J' p' => ⟨min xs.length ys.length - (i + 1), by omega, rfl, p'⟩, fun v J' y => ?_⟩
    obtain ⟨T, x', y', rfl, nT, rfl, fx, fy⟩ := y
    have ex := fx xs qa
    have ey := fy ys qb
    have kT : Kp D H (upd J T (.tup [x', y'])) := k.trans (Kp.new nT)
    have eD : (upd J T (.tup [x', y'])) D = some (.lst ((List.zipWith f xs ys).take i)) := new_any nT e
    refine ⟨T, _, rfl, SqT.of upd_same, rfl, x', _, rfl, y', _, rfl, rfl, hw x' y', ?_⟩
    show te _ _ _
    refine he i x' y' ex ey _ kT _ ⟨_, eD, ?_, ?_⟩
    · rw [List.length_take]
      exact small1000 (by omega)
    · refine ⟨by omega, kT.trans Kp.at, ?_⟩
      rw [zip_take_succ f ex ey]
      exact upd_same
  · have ei : i = min xs.length ys.length := by omega
    subst ei
    refine .inl ⟨⟨xs, ys, qa, qb, by omega⟩, hd J k ?_⟩
    rw [e, ← zl, List.take_length]
/-- the same two, the results given as a list -/
theorem lc_mapLI {i0 : Nat} {Qd : Hp → Prop} (ys : List V) (hy : ys.length = xs.length) (hT : H a = some (.lst xs)) (hl : xs.length ≤ 1000) (hD : H D = none)
    (he : ∀ (i : Nat) x y, xs[i]? = some x → ys[i]? = some y → ∀ (l : List V) (R : VK), R y (upd H D (.lst l)) → te ((σ.set i0 none).set i0 (some x)) (upd H D (.lst l)) R) (hd : Qd (upd H D (.lst ys))) : Lc (Itl K a) (gName i0) tYes te [i0] σ Qd H D := by
  have ne : a ≠ D := ne_of_none hT hD
  refine lc_list (xs := xs) (fun i J => i ≤ xs.length ∧ J = upd H D (.lst (ys.take i))) ⟨Nat.zero_le _, by rw [List.take_zero]⟩ (fun i J _ w => by
    rw [w.2]
    exact SqL.of (by rw [upd_ne ne]; exact hT)) (fun i x J hx w => ?_) fun J w => ?_
  · obtain ⟨hi, rfl⟩ := w
    have lt : i < xs.length := (List.getElem?_eq_some_iff.mp hx).1
    have hyi : ys[i]? = some ys[i] := List.getElem?_eq_getElem (by omega)
    refine ⟨?_, ?_⟩
    · show ((σ.set i0 none).set i0 (some x)).set i0 none = σ.set i0 none
      rw [List.set_set, List.set_set]
    · show te _ _ _
      refine he i x _ hx hyi _ _ ⟨_, upd_same, ?_, ?_, ?_⟩
      · rw [List.length_take]
        exact small1000 (by omega)
      · omega
      · rw [upd_upd, List.take_add_one, hyi]
        rfl
  · rw [← hy, List.take_length] at w
    rw [w.2]
    exact hd
theorem lc_mapZI {i1 i2 n : Nat} {Qd : Hp → Prop} (zs : List V) (hz : zs.length = min xs.length ys.length) (hn : n = 2) (ha : H a = some (.lst xs)) (hb : H b = some (.lst ys)) (hl : xs.length ≤ 1000) (hD : H D = none)
    (hw : ∀ x y, wipe (((wipe σ [i1, i2]).set i1 (some x)).set i2 (some y)) [i1, i2] = wipe σ [i1, i2])
    (he : ∀ (i : Nat) x y z, xs[i]? = some x → ys[i]? = some y → zs[i]? = some z → ∀ J, Kp D H J → ∀ R : VK, R z J → te (((wipe σ [i1, i2]).set i1 (some x)).set i2 (some y)) J R)
    (hd : ∀ J, Kp D H J → J D = some (.lst zs) → Qd J) : Lc (Itz K a b) (gTup K n (gCons (gName i1) (gCons (gName i2) gNil))) tYes te [i1, i2] σ Qd H D := by
  subst hn
  have na : a ≠ D := ne_of_none ha hD
  have nb : b ≠ D := ne_of_none hb hD
  let P : Nat → Hp → Prop := fun i J => i ≤ min xs.length ys.length ∧ Kp D H J ∧ J D = some (.lst (zs.take i))
  refine ⟨fun i m J => m = min xs.length ys.length - i ∧ P i J, ⟨_, rfl, Nat.zero_le _, Kp.new hD, by rw [List.take_zero]; exact upd_same⟩, ?_⟩
  rintro i m J ⟨rfl, hi, k, e⟩
  have qa : SqL K J a xs := SqL.of (k a _ na ha)
  have qb : SqL K J b ys := SqL.of (k b _ nb hb)
  by_cases lt : i < min xs.length ys.length
  · have hx : xs[i]? = some xs[i] := List.getElem?_eq_getElem (by omega)
    have hy : ys[i]? = some ys[i] := List.getElem?_eq_getElem (by omega)
    have hzi : zs[i]? = some zs[i] := List.getElem?_eq_getElem (by omega)
    refine .inr ⟨⟨xs, ys, _, _, qa, qb, hx, hy⟩, P (i + 1), fun J' p' => ⟨min xs.length ys.length - (i + 1), by omega, rfl, p'⟩, fun v J' y => ?_⟩
    obtain ⟨T, x', y', rfl, nT, rfl, fx, fy⟩ := y
    have kT : Kp D H (upd J T (.tup [x', y'])) := k.trans (Kp.new nT)
    have eD : (upd J T (.tup [x', y'])) D = some (.lst (zs.take i)) := new_any nT e
    refine ⟨T, _, rfl, SqT.of upd_same, rfl, x', _, rfl, y', _, rfl, rfl, hw x' y', ?_⟩
    show te _ _ _
    refine he i x' y' _ (fx xs qa) (fy ys qb) hzi _ kT _ ⟨_, eD, ?_, ?_⟩
    · rw [List.length_take]
      exact small1000 (by omega)
    · refine ⟨by omega, kT.trans Kp.at, ?_⟩
      rw [List.take_add_one, hzi]
      exact upd_same
  · have ei : i = min xs.length ys.length := by omega
    subst ei
    refine .inl ⟨⟨xs, ys, qa, qb, by omega⟩, hd J k ?_⟩
    rw [e, ← hz, List.take_length]
theorem cut_tail : cutV xs (some 1) none = xs.tail := by
  cases xs with
  | nil => rfl
  | cons x r =>
    have e1 : HT.sIx (x :: r).length 0 (some 1) = 1 := by
      simp [HT.sIx]
    have e2 : HT.sIx (x :: r).length (x :: r).length none = (x :: r).length := by simp [HT.sIx]
    unfold cutV
    rw [e1, e2]
    simp
theorem rd_sl {Q : VK} {r : V → Option Int → Option Int → Hp → VK → Prop} {tl th : TO} (q : te σ H fun x H1 => tl σ H1 fun l H2 => th σ H2 fun u H3 => r x l u H3 Q) : tSl r te tl th σ H Q := q
theorem rd_part {R : Option Int → Hp → Prop} (q : te σ H fun x H1 => ∃ i, x = .int i ∧ R (some i) H1) : tPart te σ H R := q
theorem rd_partI {i : Int} {R : Int → Prop} (q : R i) : ∃ j, V.int i = .int j ∧ R j := ⟨i, rfl, q⟩
theorem rd_nopart {R : Option Int → Hp → Prop} (q : R none H) : tNoPart σ H R := q
theorem rd_slL {Q : VK} {lo hi : Option Int} (h : SqL K H a xs) (e : cutV xs lo hi = ys) (q : ∀ p J, H p = none → Same H J → J p = some (.lst ys) → Q (.ref p) J) : rSlL K (.ref a) lo hi H Q := by
  subst e
  exact ⟨a, xs, rfl, h, fun p np => q p _ np (same_new np) upd_same⟩
theorem rd_zip {ta : TA} {R : It → Hp → Prop} (q : ta σ H fun vs H1 => ∃ a b xs ys, vs = [.ref a, .ref b] ∧ SqL K H1 a xs ∧ SqL K H1 b ys ∧ R (Itz K a b) H1) : iZip K ta σ H R := q
theorem rd_zipA {R : Addr → Addr → Prop} (h : SqL K H a xs) (k : SqL K H b ys) (q : R a b) : ∃ a' b' xs ys, [V.ref a, V.ref b] = [.ref a', .ref b'] ∧ SqL K H a' xs ∧ SqL K H b' ys ∧ R a' b' := ⟨a, b, xs, ys, rfl, h, k, q⟩
theorem piZ {X : Cx} (h : X.K = K) {e e2 : Expr} {ta : TA} {p pos tpos : Pos} {elts : List Expr} {kk : Nat} (hg : Gl X "zip") (hm : X.mg "zip" = none) (ha : PA X [e, e2] ta)
    (hs : starEach [e, e2] X.env = (false, eval e X.env) :: starEach [e2] X.env := by rfl) (hpl : (backTo pos (starEach [e2] X.env)).any (·.1) = false := by rfl) :
    PI X (.Tuple elts kk tpos) (.Call (.Name "zip" p) [e, e2] [] pos) (iZip K ta) := h ▸ pi_zip hg hm ha hs hpl
theorem pgT {X : Cx} (h : X.K = K) {es : List Expr} {k n : Nat} {t : TGs} {pos : Pos} (hc : X.calm = true) (hs : PGs X es t) (hn : (assignEach es X.env).length = n := by rfl) (hst : (assignEach es X.env).findIdx? (·.1) = none := by rfl) : PG X (.Tuple es k pos) (gTup K n t) := h ▸ pg_tup hc hs hn hst
/-! ### a ratio at an address, spans, a list of spans -/
structure Ra (K : PySem.W.Frag) (H : Hp) (p : Addr) (x y : Int) : Prop where
  sq : SqT K H p [.int x, .int y]
  pos : 0 < y
  gcd : Int.gcd x y = 1
  bx : Bd 1000 x
  bu : Bd 1000 y
theorem Ra.mono {x y : Int} (h : Ra K H p x y) (m : ∀ xs, SqT K H p xs → SqT K J p xs) : Ra K J p x y := ⟨m _ h.sq, h.pos, h.gcd, h.bx, h.bu⟩
structure Sn where
  x : Int
  y : Int
  u : Int
  v : Int
def SnAt (K : PySem.W.Frag) (H : Hp) (r : V) (s : Sn) : Prop := ∃ c p q, r = .ref c ∧ SqT K H c [.ref p, .ref q] ∧ Ra K H p s.x s.y ∧ Ra K H q s.u s.v
theorem SnAt.mono {r : V} {s : Sn} (h : SnAt K H r s) (m : ∀ p xs, SqT K H p xs → SqT K J p xs) : SnAt K J r s :=
  let ⟨c, p, q, e, h1, h2, h3⟩ := h; ⟨c, p, q, e, m _ _ h1, h2.mono (m _), h3.mono (m _)⟩
inductive SnsAt (K : PySem.W.Frag) (H : Hp) : List V → List Sn → Prop
  | nil : SnsAt K H [] []
  | cons {r : V} {rs : List V} {s : Sn} {ss : List Sn} (h : SnAt K H r s) (t : SnsAt K H rs ss) : SnsAt K H (r :: rs) (s :: ss)
theorem SnsAt.mono (m : ∀ p xs, SqT K H p xs → SqT K J p xs) : ∀ {rs : List V} {ss : List Sn}, SnsAt K H rs ss → SnsAt K J rs ss
  | _, _, .nil => .nil
  | _, _, .cons h t => .cons (h.mono m) (t.mono m)
theorem SnsAt.len : ∀ {rs : List V} {ss : List Sn}, SnsAt K H rs ss → rs.length = ss.length
  | _, _, .nil => rfl
  | _, _, .cons _ t => congrArg (· + 1) t.len
theorem SnsAt.get : ∀ {rs : List V} {ss : List Sn} {i : Nat} {r : V}, SnsAt K H rs ss → rs[i]? = some r → ∃ s, ss[i]? = some s ∧ SnAt K H r s
  | _, _, _, _, .nil, e => by simp at e
  | _, _, 0, _, .cons h t, e => by
    cases Option.some.inj (show some _ = some _ from e)
    exact ⟨_, rfl, h⟩
  | _, _, i + 1, _, .cons h t, e => t.get (i := i) e
theorem SnsAt.tail : ∀ {rs : List V} {ss : List Sn}, SnsAt K H rs ss → SnsAt K H rs.tail ss.tail
  | _, _, .nil => .nil
  | _, _, .cons _ t => t
/-! the same as data -/
def snD (s : Sn) : PyData := .tuple [.tuple [.int s.x, .int s.y], .tuple [.int s.u, .int s.v]]
theorem Ra.dp {x y : Int} (h : Ra K H p x y) : Dp K H (.ref p) (.tuple [.int x, .int y]) := .tup h.sq (.cons (.int _) (.cons (.int _) .nil))
theorem SnsAt.dp : ∀ {rs : List V} {ss : List Sn}, SnsAt K H rs ss → DpAll K H rs (ss.map snD)
  | _, _, .nil => .nil
  | _, _, .cons h t => by
    obtain ⟨c, p, q, rfl, hc, h1, h2⟩ := h
    exact .cons (.tup hc (.cons h1.dp (.cons h2.dp .nil))) t.dp
theorem SnsAt.small : ∀ {rs : List V} {ss : List Sn}, SnsAt K H rs ss → sms (ss.map snD) = true ∧ szs (ss.map snD) ≤ 5000 * rs.length ∧ PyData.depthAll (ss.map snD) ≤ 2 ∧ PyData.canLayAll0 (ss.map snD) = true
  | _, _, .nil => ⟨by simp [sms], by simp [szs], by simp [PyData.depthAll], by simp [PyData.canLayAll0]⟩
  | _, _, .cons h t => by
    obtain ⟨c, p, q, rfl, hc, h1, h2⟩ := h
    obtain ⟨a1, a2, a3, a4⟩ := t.small
    have b1 := h1.bx.log
    have b2 := h1.bu.log
    have b3 := h2.bx.log
    have b4 := h2.bu.log
    refine ⟨?_, ?_, ?_, ?_⟩
    · simp only [List.map_cons, snD, sms, sm, a1, Bool.and_true, Bool.and_eq_true, decide_eq_true_eq]
      omega
    · simp only [List.map_cons, snD, szs, sz, List.length_cons]
      omega
    · simp only [List.map_cons, snD, PyData.depthAll, PyData.depth]
      omega
    · simp [List.map_cons, snD, PyData.canLayAll0, PyData.canLay0, a4]
theorem rd_reprS {Q : VK} {rs : List V} {ss : List Sn} (h : SqL K H l rs) (s : SnsAt K H rs ss) (hl : rs.length ≤ 100) (q : Q (.str (PyData.shown (.list (ss.map snD)))) H) : rRepr K [.ref l] H Q := by
  obtain ⟨a1, a2, a3, _⟩ := s.small
  refine ⟨l, _, rfl, Dp.lst h s.dp, by simpa [sm] using a1, ?_, ?_, q⟩
  · simp only [sz]
    omega
  · simp only [PyData.depth]
    omega
theorem eqv_two {x y u v : Int} : PyData.eqv (.tuple [.int x, .int y]) (.tuple [.int u, .int v]) = decide (x = u ∧ y = v) := by
  by_cases h : x = u <;> by_cases k : y = v <;> simp [PyData.eqv, PyData.eqvAll, h, k]
theorem rd_eqR {Q : VK} {x y u v : Int} (h : SqT K H a [.int x, .int y]) (k : SqT K H b [.int u, .int v]) (q : Q (.bl (decide (x = u ∧ y = v))) H) : rEqD K (.ref a) (.ref b) H Q :=
  ⟨_, _, Dp.tup h (.cons (.int _) (.cons (.int _) .nil)), Dp.tup k (.cons (.int _) (.cons (.int _) .nil)), by simp [SeqAt.shaped, PyData.canLay0, PyData.canLayAll0, PyData.depth, PyData.depthAll], by simp [SeqAt.shaped, PyData.canLay0, PyData.canLayAll0, PyData.depth, PyData.depthAll], by rw [eqv_two]; exact q⟩
theorem rd_eqS {Q : VK} {rs zs : List V} {ss : List Sn} (h : SqL K H a rs) (s : SnsAt K H rs ss) (k : SqL K H b zs) (t : SnsAt K H zs ss) (q : Q (.bl true) H) : rEqD K (.ref a) (.ref b) H Q := by
  obtain ⟨a1, a2, a3, a4⟩ := s.small
  exact rd_eqDs (Dp.lst h s.dp) (Dp.lst k t.dp) (by
    have z : PyData.depthAll (ss.map snD) + 1 ≤ 64 := by omega
    simp [SeqAt.shaped, PyData.canLay0, PyData.depth, a4, z]) q
/-- the spans of the arc -/
def arcD (x y u v : Int) : List Sn := if x = u ∧ y = v then [] else if x * v < u * y then [⟨x, y, u, v⟩] else (if u = 0 ∧ v = 1 then [] else [⟨0, 1, u, v⟩]) ++ [⟨x, y, 1, 1⟩]
def okS (s : Sn) : Bool := decide (¬ s.x * 1 < 0 * s.y) && (decide (s.x * s.v < s.u * s.y) && decide (¬ 1 * s.v < s.u * 1))
def okN (s t : Sn) : Bool := decide (s.u * t.y < t.x * s.v)
theorem dummy_ok : True := True.intro
def cutsB (ss : List Sn) : Bool := (ss.map okS).all id && (List.zipWith okN ss ss.tail).all id
theorem arc_ok {x y u v : Int} (hx : 0 ≤ x) (hxy : x < y) (hu : 0 ≤ u) (huv : u < v) (g : Int.gcd x y = 1) (g' : Int.gcd u v = 1) : cutsB (arcD x y u v) = true := by
  unfold arcD
  by_cases h : x = u ∧ y = v
  · rw [if_pos h]
    rfl
  · rw [if_neg h]
    by_cases k : x * v < u * y
    · rw [if_pos k]
      simp [cutsB, okS, k]
      omega
    · rw [if_neg k]
      have ne : x * v ≠ u * y := fun e => h (low_one (by omega) (by omega) g g' e)
      by_cases z : u = 0 ∧ v = 1
      · rw [if_pos z]
        simp [cutsB, okS]
        omega
      · rw [if_neg z]
        have u0 : 0 < u := by
          rcases Int.lt_or_eq_of_le hu with w | w
          · exact w
          · subst w
            rw [Int.zero_gcd] at g'
            omega
        simp [cutsB, okS, okN]
        omega
end
end Ob
namespace Ob
open PySem PySem.Spec PyProof.Rows L2
section
variable {K : PySem.W.Frag} {H J : Hp} {a b p l D : Addr} {xs ys : List V} {o : HO} {σ : L2.St} {te : TE} {g : TG} {vs : List Nat}
theorem rd_tpar3 {i j k : Nat} {ta : TA} {E : Ends} (q : ta σ H fun vs H1 => ∃ u v w, vs = [u, v, w] ∧ E.nx (((σ.set i (some u)).set j (some v)).set k (some w)) H1) : tPar3 i j k ta E σ H := q
theorem rd_par3 {i j k : Nat} {x y z : V} {E : Ends} {τ : L2.St} (e : ((σ.set i (some x)).set j (some y)).set k (some z) = τ) (q : E.nx τ H) : ∃ u v w, [x, y, z] = [u, v, w] ∧ E.nx (((σ.set i (some u)).set j (some v)).set k (some w)) H := by
  subst e
  exact ⟨x, y, z, rfl, q⟩
theorem ix_last (r : V) : ixN (xs ++ [r]).length (-1) = some xs.length := by
  have e : (xs ++ [r]).length = xs.length + 1 := by simp
  unfold ixN
  rw [e, if_neg (by decide), if_pos (by omega)]
  congr 1
  omega
theorem set_last (r s : V) : (xs ++ [r]).set xs.length s = xs ++ [s] := by
  simp
/-- xs[-1] = v -/
theorem rd_setLast {r v : V} {F : Hp → Prop} (h : H l = some (.lst (xs ++ [r]))) (q : ∀ J, Pu l H J → J l = some (.lst (xs ++ [v])) → F J) : rSetL (.ref l) (.int (-1)) v H F := by
  refine ⟨l, _, -1, xs.length, rfl, rfl, h, ix_last r, ?_⟩
  rw [set_last]
  exact q _ ⟨Kp.at, ⟨_, h⟩, ⟨_, upd_same⟩⟩ upd_same
theorem rd_last {r : V} {Q : VK} (h : H l = some (.lst (xs ++ [r]))) (q : Q r H) : rIx K (.ref l) (.int (-1)) H Q := rd_sxL (SqL.of h) (atI_last xs r) q
theorem Kp.pu {M : Hp} (k : Kp b H M) (u : Pu l M J) (n : H l = none) : Kp b H J := fun a o ne e => u.1 a o (ne_of_none e n) (k a o ne e)
theorem Same.pu {M : Hp} (k : Same H M) (u : Pu l M J) (n : H l = none) : Same H J := fun a o e => u.1 a o (ne_of_none e n) (k a o e)
/-! ### a comprehension whose element may lay objects -/
def LcEnd (D : Addr) (H : Hp) (P : List V → Hp → Prop) (i : Nat) (y : V) (J : Hp) : Prop := ∃ acc, J D = some (.lst acc) ∧ acc.length < sizeLine ∧ ∃ ys, ys.length = i ∧ Kp D H (upd J D (.lst (acc ++ [y]))) ∧ (upd J D (.lst (acc ++ [y]))) D = some (.lst ys) ∧ P ys (upd J D (.lst (acc ++ [y])))
theorem lcEnd_mk {P : List V → Hp → Prop} {i : Nat} {y : V} (h : J D = some (.lst ys)) (hl : ys.length = i) (hz : i ≤ 500) (k : Kp D H J) (q : ∀ J4, Pu D J J4 → J4 D = some (.lst (ys ++ [y])) → P (ys ++ [y]) J4) : LcEnd D H P (i + 1) y J :=
  ⟨ys, h, small1000 (by omega), ys ++ [y], by rw [List.length_append, hl]; rfl, k.trans Kp.at, upd_same, q _ ⟨Kp.at, ⟨_, h⟩, ⟨_, upd_same⟩⟩ upd_same⟩
theorem lc_growL (P : List V → Hp → Prop) {Qd : Hp → Prop} (hT : H a = some (.lst xs)) (hl : xs.length ≤ 500) (hD : H D = none) (h0 : ∀ J, Kp D H J → P [] J)
    (he : ∀ (i : Nat) x ys J, xs[i]? = some x → i ≤ 500 → ys.length = i → Kp D H J → J D = some (.lst ys) → P ys J → g x (wipe σ vs) J fun σ2 J2 => wipe σ2 vs = wipe σ vs ∧ te σ2 J2 fun y J3 => LcEnd D H P (i + 1) y J3)
    (hd : ∀ ys J, ys.length = xs.length → Kp D H J → J D = some (.lst ys) → P ys J → Qd J) : Lc (Itl K a) g tYes te vs σ Qd H D := by
  have ne : a ≠ D := ne_of_none hT hD
  refine lc_list (xs := xs) (fun i J => ∃ ys, ys.length = i ∧ Kp D H J ∧ J D = some (.lst ys) ∧ P ys J) ⟨[], rfl, Kp.new hD, upd_same, h0 _ (Kp.new hD)⟩ (fun i J _ w => ?_) (fun i x J hx w => ?_) fun J w => ?_
  · obtain ⟨ys, _, k, _⟩ := w
    exact SqL.of (k a _ ne hT)
  · obtain ⟨ys, e, k, hJ, p⟩ := w
    have lt : i < xs.length := (List.getElem?_eq_some_iff.mp hx).1
    exact he i x ys J hx (by omega) e k hJ p
  · obtain ⟨ys, e, k, hJ, p⟩ := w
    exact hd ys J e k hJ p
/-- the same over range(n) -/
theorem lc_growR (P : List V → Hp → Prop) {n : Nat} {Qd : Hp → Prop} (hl : n ≤ 500) (hD : H D = none) (h0 : ∀ J, Kp D H J → P [] J)
    (he : ∀ (i : Nat) ys J, i < n → ys.length = i → Kp D H J → J D = some (.lst ys) → P ys J → g (.int (0 + (i : Int))) (wipe σ vs) J fun σ2 J2 => wipe σ2 vs = wipe σ vs ∧ te σ2 J2 fun y J3 => LcEnd D H P (i + 1) y J3)
    (hd : ∀ ys J, ys.length = n → Kp D H J → J D = some (.lst ys) → P ys J → Qd J) : Lc (Itr 0 n) g tYes te vs σ Qd H D := by
  refine lc_range (fun i J => ∃ ys, ys.length = i ∧ Kp D H J ∧ J D = some (.lst ys) ∧ P ys J) ⟨[], rfl, Kp.new hD, upd_same, h0 _ (Kp.new hD)⟩ (fun i J hi w => ?_) fun J w => ?_
  · obtain ⟨ys, e, k, hJ, p⟩ := w
    exact he i ys J hi e k hJ p
  · obtain ⟨ys, e, k, hJ, p⟩ := w
    exact hd ys J e k hJ p
theorem rd_forL {tl : TE} {tb : TS} {E : Ends} (q : tl σ H fun x H1 => ∃ a, x = .ref a ∧ (∃ xs, SqL K H1 a xs) ∧ Lp (Itl K a) g tb E σ H1) : tFor (iList K tl) g tb E σ H := q
theorem lp_lst {tb : TS} {E : Ends} (Pv : Nat → L2.St → Hp → Prop) (h0 : Pv 0 σ H) (hl : ∀ i σ H, i ≤ xs.length → Pv i σ H → SqL K H a xs)
    (hs : ∀ i x σ H, xs[i]? = some x → Pv i σ H → g x σ H fun σ2 H2 => tb { E with nx := Pv (i + 1), ct := Pv (i + 1), bk := E.nx } σ2 H2) (hd : ∀ σ H, Pv xs.length σ H → E.nx σ H) : Lp (Itl K a) g tb E σ H := for_list Pv h0 hl hs hd
/-! ### pairs of places -/
inductive PrsAt (H : Hp) : List V → List (Nat × Nat) → Prop
  | nil : PrsAt H [] []
  | cons {c : Addr} {rs : List V} {lo hi : Nat} {ps : List (Nat × Nat)} (h : H c = some (.tup [.int lo, .int hi])) (t : PrsAt H rs ps) : PrsAt H (.ref c :: rs) ((lo, hi) :: ps)
theorem PrsAt.mono (m : ∀ c xs, H c = some (.tup xs) → J c = some (.tup xs)) : ∀ {rs : List V} {ps : List (Nat × Nat)}, PrsAt H rs ps → PrsAt J rs ps
  | _, _, .nil => .nil
  | _, _, .cons h t => .cons (m _ _ h) (t.mono m)
theorem PrsAt.app : ∀ {rs ts : List V} {ps qs : List (Nat × Nat)}, PrsAt H rs ps → PrsAt H ts qs → PrsAt H (rs ++ ts) (ps ++ qs)
  | _, _, _, _, .nil, k => k
  | _, _, _, _, .cons h t, k => .cons h (t.app k)
theorem PrsAt.rev : ∀ {rs : List V} {ps : List (Nat × Nat)}, PrsAt H rs ps → PrsAt H rs.reverse ps.reverse
  | _, _, .nil => .nil
  | _, _, .cons h t => by
    rw [List.reverse_cons, List.reverse_cons]
    exact t.rev.app (.cons h .nil)
theorem PrsAt.get : ∀ {rs : List V} {ps : List (Nat × Nat)} {i : Nat} {r : V}, PrsAt H rs ps → rs[i]? = some r → ∃ c lo hi, r = .ref c ∧ ps[i]? = some (lo, hi) ∧ H c = some (.tup [.int lo, .int hi])
  | _, _, _, _, .nil, e => by simp at e
  | _, _, 0, _, .cons h t, e => by
    cases Option.some.inj (show some _ = some _ from e)
    exact ⟨_, _, _, rfl, rfl, h⟩
  | _, _, i + 1, _, .cons h t, e => t.get (i := i) e
theorem PrsAt.len : ∀ {rs : List V} {ps : List (Nat × Nat)}, PrsAt H rs ps → rs.length = ps.length
  | _, _, .nil => rfl
  | _, _, .cons _ t => congrArg (· + 1) t.len
/-- found != [] -/
theorem PrsAt.dp : ∀ {rs : List V} {ps : List (Nat × Nat)}, PrsAt H rs ps → ∃ ds, DpAll K H rs ds ∧ ds.length = rs.length ∧ PyData.canLayAll0 ds = true ∧ PyData.depthAll ds ≤ 1
  | _, _, .nil => ⟨[], .nil, rfl, by simp [PyData.canLayAll0], by simp [PyData.depthAll]⟩
  | _, _, .cons (lo := lo) (hi := hi) h t => by
    obtain ⟨ds, d, e, c, z⟩ := t.dp
    refine ⟨.tuple [.int lo, .int hi] :: ds, .cons (.tup (SqT.of h) (.cons (.int _) (.cons (.int _) .nil))) d, by simp [e], by simp [PyData.canLayAll0, PyData.canLay0, c], ?_⟩
    simp only [PyData.depthAll, PyData.depth]
    omega
theorem rd_neNil {Q : VK} {rs : List V} {ps : List (Nat × Nat)} (h : H a = some (.lst rs)) (s : PrsAt H rs ps) (k : H b = some (.lst [])) (q : Q (.bl (!decide (rs = []))) H) : rNeD K (.ref a) (.ref b) H Q := by
  obtain ⟨ds, d, e, c, z⟩ := s.dp (K := K)
  have z2 : PyData.depthAll ds + 1 ≤ 64 := by omega
  refine ⟨.list ds, .list [], Dp.lst (SqL.of h) d, Dp.lst (SqL.of k) .nil, by simp [SeqAt.shaped, PyData.canLay0, PyData.depth, c, z2], by simp [SeqAt.shaped, PyData.canLay0, PyData.canLayAll0, PyData.depth, PyData.depthAll], ?_⟩
  have e2 : PyData.eqv (.list ds) (.list []) = decide (rs = []) := by
    cases ds with
    | nil =>
      have : rs = [] := List.length_eq_zero_iff.mp (by simpa using e.symm)
      subst this
      simp [PyData.eqv, PyData.eqvAll]
    | cons d0 ds0 =>
      have : rs ≠ [] := fun w => by
        subst w
        simp at e
      simp [PyData.eqv, PyData.eqvAll, this]
  rw [e2]
  exact q
end
/-! ### lists of units -/
def nV (n : Nat) : V := .int (n : Int)
theorem unit_step (f : Nat → Bool) (i : Nat) (b : Bool) : ∃ f' : Nat → Bool, (List.range (i + 1)).filter f' = (List.range i).filter f ++ (if b = true then [i] else []) := by
  refine ⟨fun n => if n = i then b else f n, ?_⟩
  rw [List.range_succ, List.filter_append]
  congr 1
  · refine List.filter_congr fun n hn => ?_
    have : n < i := List.mem_range.mp hn
    rw [if_neg (by omega)]
  · cases b <;> simp
theorem unit_in (f : Nat → Bool) {g u : Nat} (h : u < g) : inV (.int (u : Int)) (((List.range g).filter f).map nV) = f u := by
  unfold inV
  rw [List.any_map, Bool.eq_iff_iff, List.any_eq_true]
  constructor
  · rintro ⟨n, hn, e⟩
    have e2 : ((n : Int) == (u : Int)) = true := e
    have e3 : (n : Int) = (u : Int) := by simpa using e2
    obtain rfl : n = u := by omega
    exact (List.mem_filter.mp hn).2
  · intro hf
    exact ⟨u, List.mem_filter.mpr ⟨List.mem_range.mpr h, hf⟩, by show ((u : Int) == (u : Int)) = true; simp⟩
theorem unit_flat (us : List Nat) : (us.map nV).all flatV = true := by
  rw [List.all_map, List.all_eq_true]
  intro n _
  rfl
/-! ### runs of units: the last run first -/
def rruns (f : Nat → Bool) : Nat → List (Nat × Nat)
  | 0 => []
  | i + 1 => if f i = true then (match rruns f i with
    | (lo, hi) :: t => if hi = i then (lo, i + 1) :: t else (i, i + 1) :: (lo, hi) :: t
    | [] => [(i, i + 1)]) else rruns f i
theorem rruns_succ (f : Nat → Bool) (i : Nat) : rruns f (i + 1) = if f i = true then (match rruns f i with
    | (lo, hi) :: t => if hi = i then (lo, i + 1) :: t else (i, i + 1) :: (lo, hi) :: t
    | [] => [(i, i + 1)]) else rruns f i := rfl
/-- ascending runs below i, none touches the next -/
inductive Runs : Nat → List (Nat × Nat) → Prop
  | nil {i : Nat} : Runs i []
  | cons {i lo hi : Nat} {t : List (Nat × Nat)} (h : lo < hi) (k : hi ≤ i) (n : ∀ x ∈ t, x.2 < lo) (r : Runs lo t) : Runs i ((lo, hi) :: t)
theorem Runs.up {i j : Nat} {t : List (Nat × Nat)} (h : Runs i t) (k : i ≤ j) : Runs j t := by
  cases h with
  | nil => exact .nil
  | cons a b c d => exact .cons a (Nat.le_trans b k) c d
theorem Runs.bnd {i : Nat} {t : List (Nat × Nat)} (h : Runs i t) : ∀ x ∈ t, x.2 ≤ i := by
  induction h with
  | nil => intro x hx; cases hx
  | cons a b c d ih =>
    intro x hx
    rcases List.mem_cons.mp hx with rfl | hx
    · exact b
    · have := c x hx
      omega
theorem rruns_ok (f : Nat → Bool) : ∀ i, Runs i (rruns f i)
  | 0 => .nil
  | i + 1 => by
    have ih := rruns_ok f i
    rw [rruns_succ]
    by_cases h : f i = true
    · rw [if_pos h]
      cases e : rruns f i with
      | nil => exact .cons (Nat.lt_succ_self i) (Nat.le_refl _) (fun x hx => by cases hx) .nil
      | cons r t =>
        obtain ⟨lo, hi⟩ := r
        rw [e] at ih
        cases ih with
        | cons a b c d =>
          show Runs (i + 1) (if hi = i then (lo, i + 1) :: t else (i, i + 1) :: (lo, hi) :: t)
          by_cases z : hi = i
          · rw [if_pos z]
            exact .cons (by omega) (Nat.le_refl _) c d
          · rw [if_neg z]
            refine .cons (Nat.lt_succ_self i) (Nat.le_refl _) (fun x hx => ?_) (.cons a b c d)
            rcases List.mem_cons.mp hx with rfl | hx
            · show hi < i
              omega
            · have := c x hx
              omega
    · rw [if_neg h]
      exact ih.up (Nat.le_succ i)
/-- what the drawn form of the runs is -/
inductive SnsOf (g : Nat) : List (Nat × Nat) → List Sn → Prop
  | nil : SnsOf g [] []
  | cons {lo hi : Nat} {ps : List (Nat × Nat)} {s : Sn} {ss : List Sn} (h : IsLow (lo : Int) (g : Int) s.x s.y) (k : IsLow (hi : Int) (g : Int) s.u s.v) (t : SnsOf g ps ss) : SnsOf g ((lo, hi) :: ps) (s :: ss)
theorem SnsOf.snoc {g : Nat} : ∀ {ps : List (Nat × Nat)} {ss : List Sn} {lo hi : Nat} {s : Sn}, SnsOf g ps ss → IsLow (lo : Int) (g : Int) s.x s.y → IsLow (hi : Int) (g : Int) s.u s.v → SnsOf g (ps ++ [(lo, hi)]) (ss ++ [s])
  | _, _, _, _, _, .nil, h, k => .cons h k .nil
  | _, _, _, _, _, .cons a b t, h, k => .cons a b (t.snoc h k)
theorem SnsAt.snoc {K : PySem.W.Frag} {H : Hp} {r : V} {s : Sn} : ∀ {rs : List V} {ss : List Sn}, SnsAt K H rs ss → SnAt K H r s → SnsAt K H (rs ++ [r]) (ss ++ [s])
  | _, _, .nil, h => .cons h .nil
  | _, _, .cons a t, h => .cons a (t.snoc h)
theorem Runs.pos {i : Nat} {t : List (Nat × Nat)} (h : Runs i t) : ∀ x ∈ t, x.1 < x.2 := by
  induction h with
  | nil => intro x hx; cases hx
  | cons a b c d ih =>
    intro x hx
    rcases List.mem_cons.mp hx with rfl | hx
    · exact a
    · exact ih x hx
/-! ### what sums and comparisons of drawn forms come to -/
theorem low_of {t u x y : Int} (y0 : 0 < y) (g : Int.gcd x y = 1) (e : x * u = t * y) (hu : u ≠ 0) : IsLow t u x y := by
  have d1 : y ∣ u := dvd_gcd1 g ⟨t, by rw [e, Int.mul_comm]⟩
  have b1 : y.natAbs ≤ u.natAbs := Nat.le_of_dvd (by omega) (Int.natAbs_dvd_natAbs.mpr d1)
  refine ⟨y0, g, e, ?_, b1⟩
  by_cases ht : t = 0
  · subst ht
    rw [Int.zero_mul] at e
    rcases Int.mul_eq_zero.mp e with z | z
    · rw [z]
      exact Nat.le_refl _
    · exact absurd z hu
  · have d2 : x ∣ t := by
      have : x ∣ y * t := ⟨u, by rw [Int.mul_comm, ← e]⟩
      exact dvd_gcd1 (by rw [Int.gcd_comm]; exact g) this
    exact Nat.le_of_dvd (by omega) (Int.natAbs_dvd_natAbs.mpr d2)
theorem dif_form {lo hi g x y u v m n : Int} (h1 : x * g = lo * y) (h2 : u * g = hi * v) (y0 : 0 < y) (v0 : 0 < v) (h : m * (v * y) = (u * y - x * v) * n) : m * g = (hi - lo) * n := by
  refine Int.eq_of_mul_eq_mul_right (show v * y ≠ 0 from Int.mul_ne_zero (by omega) (by omega)) ?_
  grind
theorem sum_form {T d g m n m1 n1 m2 n2 : Int} (h1 : m * g = T * n) (h2 : m1 * g = d * n1) (n0 : 0 < n) (n10 : 0 < n1) (h : m2 * (n * n1) = (m * n1 + m1 * n) * n2) : m2 * g = (T + d) * n2 := by
  refine Int.eq_of_mul_eq_mul_right (show n * n1 ≠ 0 from Int.mul_ne_zero (by omega) (by omega)) ?_
  grind
def hasS (x y : Int) (s : Sn) : Bool := !decide (x * s.y < s.x * y) && decide (x * s.v < s.u * y)
theorem cut_lt {unit fine off g x y lo p q : Int} (h : x * (g * fine) = (unit * fine + off) * y) (k : p * g = lo * q) (y0 : 0 < y) (q0 : 0 < q) (g0 : 0 < g) (f0 : 0 < fine) (o0 : 0 ≤ off) (o1 : off < fine) : (x * q < p * y) ↔ unit < lo := by
  have e1 : (x * q) * (g * fine) = (unit * fine + off) * (y * q) := by grind
  have e2 : (p * y) * (g * fine) = (lo * fine) * (y * q) := by grind
  have gf : 0 < g * fine := Int.mul_pos g0 f0
  have yq : 0 < y * q := Int.mul_pos y0 q0
  have a1 : x * q < p * y ↔ (x * q) * (g * fine) < (p * y) * (g * fine) := (Int.mul_lt_mul_right gf).symm
  have a2 : (unit * fine + off) * (y * q) < (lo * fine) * (y * q) ↔ unit * fine + off < lo * fine := Int.mul_lt_mul_right yq
  rw [a1, e1, e2, a2]
  constructor
  · intro h
    rcases Int.lt_or_le unit lo with w | w
    · exact w
    · have := Int.mul_le_mul_of_nonneg_right w (Int.le_of_lt f0)
      omega
  · intro w
    have h1 := Int.mul_le_mul_of_nonneg_right (show unit + 1 ≤ lo by omega) (Int.le_of_lt f0)
    rw [Int.add_mul, Int.one_mul] at h1
    omega
theorem has_form {g : Nat} {unit fine off x y : Int} (h : IsLow (unit * fine + off) ((g : Int) * fine) x y) (g0 : 0 < (g : Int)) (f0 : 0 < fine) (o0 : 0 ≤ off) (o1 : off < fine) :
    ∀ {ps : List (Nat × Nat)} {ss : List Sn}, SnsOf g ps ss → (ss.any (hasS x y) = true ↔ ∃ r ∈ ps, (r.1 : Int) ≤ unit ∧ unit < (r.2 : Int))
  | _, _, .nil => ⟨fun z => (by cases z), fun ⟨r, hr, _⟩ => (by cases hr)⟩
  | _, _, .cons (lo := lo) (hi := hi) (s := s) a b t => by
    have ih := has_form h g0 f0 o0 o1 t
    have c1 := cut_lt (lo := lo) h.2.2.1 a.2.2.1 h.1 a.1 g0 f0 o0 o1
    have c2 := cut_lt (lo := hi) h.2.2.1 b.2.2.1 h.1 b.1 g0 f0 o0 o1
    have e : hasS x y s = true ↔ (lo : Int) ≤ unit ∧ unit < (hi : Int) := by
      unfold hasS
      rw [Bool.and_eq_true, Bool.not_eq_true', decide_eq_false_iff_not, decide_eq_true_eq, c1, c2]
      omega
    rw [List.any_cons, Bool.or_eq_true, e, ih]
    constructor
    · rintro (z | ⟨r, hr, z⟩)
      · exact ⟨_, List.mem_cons_self, z⟩
      · exact ⟨r, List.mem_cons_of_mem _ hr, z⟩
    · rintro ⟨r, hr, z⟩
      rcases List.mem_cons.mp hr with rfl | hr
      · exact .inl z
      · exact .inr ⟨r, hr, z⟩
/-- how many units -/
def tot : List (Nat × Nat) → Nat
  | [] => 0
  | (lo, hi) :: t => (hi - lo) + tot t
theorem rruns_tot (f : Nat → Bool) : ∀ i, tot (rruns f i) = ((List.range i).filter f).length
  | 0 => rfl
  | i + 1 => by
    have ih := rruns_tot f i
    have ok := rruns_ok f i
    rw [List.range_succ, List.filter_append, List.length_append, ← ih, rruns_succ]
    by_cases h : f i = true
    · rw [if_pos h]
      have e1 : ([i].filter f).length = 1 := by simp [h]
      rw [e1]
      cases e : rruns f i with
      | nil => simp [tot]
      | cons r t =>
        obtain ⟨lo, hi⟩ := r
        rw [e] at ok
        cases ok with
        | cons a b c d =>
          show tot (if hi = i then (lo, i + 1) :: t else (i, i + 1) :: (lo, hi) :: t) = _
          by_cases z : hi = i
          · rw [if_pos z]
            simp only [tot]
            omega
          · rw [if_neg z]
            simp only [tot]
            omega
    · rw [if_neg h]
      have e1 : ([i].filter f).length = 0 := by simp [h]
      rw [e1]
      rfl
theorem rruns_mem (f : Nat → Bool) : ∀ i u, u < i → (f u = true ↔ ∃ r ∈ rruns f i, r.1 ≤ u ∧ u < r.2)
  | 0, u, h => by omega
  | i + 1, u, h => by
    have ih := rruns_mem f i
    have ok := rruns_ok f i
    rw [rruns_succ]
    by_cases hf : f i = true
    · rw [if_pos hf]
      cases e : rruns f i with
      | nil =>
        rw [e] at ih
        show _ ↔ ∃ r ∈ [(i, i + 1)], _
        by_cases z : u = i
        · subst z
          exact ⟨fun _ => ⟨_, List.mem_singleton.mpr rfl, Nat.le_refl _, Nat.lt_succ_self _⟩, fun _ => hf⟩
        · refine (ih u (by omega)).trans ⟨fun ⟨r, hr, _⟩ => (by cases hr), fun ⟨r, hr, q1, q2⟩ => ?_⟩
          obtain rfl := List.mem_singleton.mp hr
          have : i ≤ u := q1
          omega
      | cons r t =>
        obtain ⟨lo, hi⟩ := r
        rw [e] at ok ih
        cases ok with
        | cons a b c d =>
          show _ ↔ ∃ r ∈ (if hi = i then (lo, i + 1) :: t else (i, i + 1) :: (lo, hi) :: t), _
          by_cases z : hi = i
          · rw [if_pos z]
            by_cases w : u = i
            · subst w
              exact ⟨fun _ => ⟨_, List.mem_cons_self, by show lo ≤ u; omega, Nat.lt_succ_self _⟩, fun _ => hf⟩
            · refine (ih u (by omega)).trans ⟨fun ⟨r, hr, q1, q2⟩ => ?_, fun ⟨r, hr, q1, q2⟩ => ?_⟩
              · rcases List.mem_cons.mp hr with rfl | hr
                · exact ⟨_, List.mem_cons_self, q1, by show u < i + 1; omega⟩
                · exact ⟨r, List.mem_cons_of_mem _ hr, q1, q2⟩
              · rcases List.mem_cons.mp hr with rfl | hr
                · exact ⟨_, List.mem_cons_self, q1, by show u < hi; omega⟩
                · exact ⟨r, List.mem_cons_of_mem _ hr, q1, q2⟩
          · rw [if_neg z]
            by_cases w : u = i
            · subst w
              exact ⟨fun _ => ⟨_, List.mem_cons_self, Nat.le_refl _, Nat.lt_succ_self _⟩, fun _ => hf⟩
            · refine (ih u (by omega)).trans ⟨fun ⟨r, hr, q1, q2⟩ => ⟨r, List.mem_cons_of_mem _ hr, q1, q2⟩, fun ⟨r, hr, q1, q2⟩ => ?_⟩
              rcases List.mem_cons.mp hr with rfl | hr
              · have : i ≤ u := q1
                omega
              · exact ⟨r, hr, q1, q2⟩
    · rw [if_neg hf]
      by_cases w : u = i
      · subst w
        refine ⟨fun q => absurd q hf, fun ⟨r, hr, q1, q2⟩ => ?_⟩
        have := ok.bnd r hr
        omega
      · exact ih u (by omega)
theorem tot_append (a b : List (Nat × Nat)) : tot (a ++ b) = tot a + tot b := by
  induction a with
  | nil => simp [tot]
  | cons r t ih =>
    obtain ⟨lo, hi⟩ := r
    simp only [List.cons_append, tot, ih]
    omega
theorem tot_rev (a : List (Nat × Nat)) : tot a.reverse = tot a := by
  induction a with
  | nil => rfl
  | cons r t ih =>
    obtain ⟨lo, hi⟩ := r
    rw [List.reverse_cons, tot_append, ih]
    simp only [tot]
    omega
end Ob
namespace Ob
open PySem PySem.Spec PyProof.Rows L2
def top (i : Nat) : Stmt := PySem.Challenge.pw_onecut_k10_lengths_and_members.main.body.getD i (.Pass ⟨0, 0, 0, 0⟩)
local macro_rules | `(tactic| walk_at "hp") => `(tactic| (first
  | assumption
  | exact L2.upd_same
  | ((with_reducible refine SqT.of ?h); (case h => walk_at "hp"))
  | ((with_reducible refine SqL.of ?h); (case h => walk_at "hp"))
  | ((with_reducible refine Scr.sq ?h); (case h => walk_at "hp"))
  | ((with_reducible refine Bag.new ?h ?k); (case h => walk_at "hp"); (case k => assumption))
  | ((with_reducible refine Scr.new ?k ?h); (case k => assumption); (case h => walk_at "hp"))
  | ((with_reducible refine Scr.kp (b := ?bb) (H := ?hh) ?k ?g ?h); (case k => assumption); (case g => walk_at "hp"); (case h => walk_at "hp"))
  | ((with_reducible refine Bag.same (H := ?hh) ?k ?h); (case k => assumption); (case h => walk_at "hp"))
  | ((with_reducible refine Scr.same (H := ?hh) ?k ?h); (case k => assumption); (case h => walk_at "hp"))
  | ((with_reducible refine same_any (H := ?hh) ?k ?h); (case k => assumption); (case h => walk_at "hp"))
  | ((with_reducible refine new_any ?k ?h); (case k => assumption); (case h => walk_at "hp"))
  | ((with_reducible refine set_tup (ys := ?ys) ?k ?h); (case k => assumption); (case h => walk_at "hp"))
  | ((with_reducible refine Bag.put ?k ?h); (case k => assumption); (case h => walk_at "hp"))
  | ((with_reducible refine Kp.tup (b := ?bb) (H := ?hh) ?k ?g ?h); (case k => assumption); (case g => walk_at "hp"); (case h => walk_at "hp"))
  | ((with_reducible refine Kp.lst (b := ?bb) (H := ?hh) ?k ?g ?h); (case k => assumption); (case g => walk_at "hp"); (case h => walk_at "hp"))
  | ((with_reducible refine Bag.off (H := ?hh) ?h ?g); (case h => assumption); (case g => walk_at "hp"))
  | (with_reducible exact Kp.refl)
  | (with_reducible exact Kp.new (by assumption))))
local macro_rules | `(tactic| walk_at "dp") => `(tactic| (first
  | exact Dp.int _
  | exact Dp.bl _
  | exact Dp.non
  | exact Dp.str _
  | exact DpAll.nil
  | ((refine DpAll.cons (d := ?d) (ds := ?ds) ?h ?k); (case h => walk_at "dp"); (case k => walk_at "dp"))
  | ((refine Dp.lst (xs := ?xs) (ds := ?ds) ?h ?k); (case h => walk_at "hp"); (case k => walk_at "dp"))
  | ((refine Dp.tup (xs := ?xs) (ds := ?ds) ?h ?k); (case h => walk_at "hp"); (case k => walk_at "dp"))))
local macro_rules | `(tactic| walk_at "small") => `(tactic| first | decide +kernel | (simp only [sm, sms, sz, szs, Bool.and_true, Bool.and_eq_true, decide_eq_true_eq, and_true, true_and]; (first | done | omega | (repeat' constructor) <;> first | omega | decide +kernel)))
local macro_rules | `(tactic| walk_at "side") => `(tactic| (first
  | ((with_reducible show IntMulOk _ _); first | exact rd_mulB (by assumption) (by assumption) | (refine rd_mulok ?_; omega))
  | ((with_reducible show CDv _ _); exact rd_dvB _ (Int.ne_of_gt (by assumption)) (by assumption))
  | ((with_reducible show CDv _ _); refine rd_dvI _ ?_ ?_ <;> first | assumption | omega | decide)
  | ((with_reducible show CPow _ _); exact ⟨by decide, by decide, by first | decide | omega⟩)
  | omega
  | assumption
  | decide
  | (refine rd_mulB (m := 400) (n := 400) (Bd.lit ?_) (Bd.lit ?_) <;> decide +kernel)))
local macro_rules | `(tactic| walk_at "rd1") => `(tactic| (first
  | ((with_reducible refine rd_var (v := ?v) ?h ?_); (case h => exact rfl))
  | (with_reducible refine rd_c ?_)
  | (with_reducible refine rd_op ?_)
  | (with_reducible refine rd_cons ?_)
  | (with_reducible refine rd_nil ?_)
  | ((with_reducible refine rd_sxT (xs := ?xs) (v := ?v) ?h ?a ?_); (case h => walk_at "hp"); (case a => exact rfl))
  | ((with_reducible refine rd_sxL (xs := ?xs) (v := ?v) ?h ?a ?_); (case h => walk_at "hp"); (case a => exact rfl))
  | (with_reducible refine rd_I0 ?_)
  | ((with_reducible refine rd_I ?c ?_); (case c => walk_at "side"))
  | ((with_reducible refine rd_name (τ := ?t) ?e ?_); (case e => exact rfl))
  | (with_reducible refine rd_seq ?_)
  | (with_reducible refine rd_asg ?_)
  | (with_reducible refine rd_call ?_)
  | (with_reducible refine rd_CB ?_)
  | (with_reducible refine rd_tup ?_)
  | ((with_reducible refine rd_new ?h ?_); (case h => exact rfl))
  | (with_reducible refine rd_test ?_)
  | (with_reducible refine rd_bl ?_)
  | (with_reducible refine rd_U ?_)
  | (with_reducible refine rd_un ?_)
  | (with_reducible refine rd_neI ?_)
  | (with_reducible refine rd_eqI ?_)
  | (with_reducible refine rd_tpar ?_)
  | (with_reducible refine rd_lc ?_)
  | (with_reducible refine rd_iTup ?_)
  | (with_reducible refine rd_iLst ?_)
  | (with_reducible refine rd_iR1 ?_)
  | (with_reducible refine rd_BM ?_)
  | ((with_reducible refine rd_iTupA (xs := ?xs) ?h ?_); (case h => walk_at "hp"))
  | ((with_reducible refine rd_iLstA (xs := ?xs) ?h ?_); (case h => walk_at "hp"))
  | ((with_reducible refine rd_tyl (xs := ?xs) ?h ?_); (case h => walk_at "hp"))
  | ((with_reducible refine rd_app (xs := ?xs) ?h ?a ?_); (case h => walk_at "hp"); (case a => exact Nat.le_of_ble_eq_true rfl))
  | ((with_reducible refine rd_cat (xs := ?xs) (zs := ?zs) ?h ?k ?a ?_); (case h => walk_at "hp"); (case k => walk_at "hp"); (case a => exact Nat.le_of_ble_eq_true rfl))
  | ((with_reducible refine rd_rep (xs := ?xs) (ys := ?ys) ?h ?a ?b ?c ?_); (case h => walk_at "hp"); (case a => decide); (case b => exact Nat.le_of_ble_eq_true rfl); (case c => exact rfl))
  | (with_reducible refine rd_ret ?_)
  | (with_reducible refine rd_next ?_)
  | (with_reducible refine rd_drop ?_)
  | (with_reducible refine rd_ifS ?_)
  | (with_reducible refine rd_B ?_)
  | (with_reducible refine rd_not ?_)
  | (with_reducible refine rd_and ?_)
  | (with_reducible refine rd_or ?_)
  | (with_reducible refine rd_andV ?_)
  | (with_reducible refine rd_orV ?_)
  | (with_reducible refine rd_notV ?_)
  | (with_reducible refine rd_ifE ?_)
  | (with_reducible refine rd_lst ?_)
  | ((with_reducible refine rd_for1b ?h ?_); (case h => constructor <;> (repeat' split) <;> omega))
  | (with_reducible refine rd_one ?_)
  | (with_reducible refine rd_two ?_)
  | (with_reducible refine rd_int ?_)
  | (with_reducible refine rd_intB ?_)
  | (with_reducible refine rd_gcd ?_)
  | ((with_reducible refine rd_par (τ := ?t) ?e ?_); (case e => exact rfl))
  | (with_reducible refine rd_sub ?_)
  | (with_reducible refine rd_for1 ?_)
  | ((with_reducible refine rd_len (ys := ?ys) ?h ?_); (case h => walk_at "hp"))
  | ((with_reducible refine rd_lenTu (ys := ?ys) ?h ?_); (case h => walk_at "hp"))
  | ((with_reducible refine rd_repr (d := ?d) ?h ?a ?b ?c ?_); (case h => walk_at "dp"); (case a => walk_at "small"); (case b => walk_at "small"); (case c => simp only [PyData.depth, PyData.depthAll]; omega))
  | ((with_reducible refine rd_nsame ?h ?_); (case h => exact rfl))
  | ((with_reducible refine rd_same ?h ?_); (case h => exact rfl))
  | ((with_reducible refine rd_gtup (xs := ?xs) ?h ?a ?_); (case h => walk_at "hp"); (case a => exact rfl))
  | (with_reducible refine rd_gcons ?_)
  | (with_reducible refine rd_gnil ?_)
  | ((with_reducible refine rd_isiI (b := true) ?a ?_); (case a => decide +kernel))
  | ((with_reducible refine rd_isiI (b := false) ?a ?_); (case a => decide +kernel))
  | ((with_reducible refine rd_isiB (b := true) ?a ?_); (case a => decide +kernel))
  | ((with_reducible refine rd_isiB (b := false) ?a ?_); (case a => decide +kernel))
  | ((with_reducible refine rd_isiN (b := true) ?a ?_); (case a => decide +kernel))
  | ((with_reducible refine rd_isiN (b := false) ?a ?_); (case a => decide +kernel))
  | ((with_reducible refine rd_isiS (b := true) ?a ?_); (case a => decide +kernel))
  | ((with_reducible refine rd_isiS (b := false) ?a ?_); (case a => decide +kernel))
  | ((with_reducible refine rd_isiT (b := true) (xs := ?xs) ?h ?a ?_); (case a => decide +kernel); (case h => walk_at "hp"))
  | ((with_reducible refine rd_isiT (b := false) (xs := ?xs) ?h ?a ?_); (case a => decide +kernel); (case h => walk_at "hp"))
  | ((with_reducible refine rd_isiL (b := true) (xs := ?xs) ?h ?a ?_); (case a => decide +kernel); (case h => walk_at "hp"))
  | ((with_reducible refine rd_isiL (b := false) (xs := ?xs) ?h ?a ?_); (case a => decide +kernel); (case h => walk_at "hp"))
  | ((with_reducible refine rd_isi (t := ?t) (b := true) ?h ?a ?_); (case h => assumption); (case a => decide +kernel))
  | ((with_reducible refine rd_isi (t := ?t) (b := false) ?h ?a ?_); (case h => assumption); (case a => decide +kernel))
  | (with_reducible refine rd_chain ?_)
  | ((with_reducible refine rd_eqDs (d := ?d) ?h ?k ?s ?_); (case h => walk_at "dp"); (case k => walk_at "dp"); (case s => first | rfl | decide | simp [SeqAt.shaped]))
  | ((with_reducible refine rd_neDs (d := ?d) ?h ?k ?s ?_); (case h => walk_at "dp"); (case k => walk_at "dp"); (case s => first | rfl | decide | simp [SeqAt.shaped]))
  | ((with_reducible refine rd_setL (xs := ?xs) (ys := ?ys) (j := ?j) ?h ?a ?e ?_); (case h => walk_at "hp"); (case a => exact rfl); (case e => exact rfl))))
local macro_rules | `(tactic| walk_at "rdm1") => `(tactic| (first
  | ((with_reducible refine rd_md ?c ?_); (case c => first | omega | decide); intro r r0 r1)
  | walk_at "rd1"))
local macro_rules | `(tactic| walk_at "rdm") => `(tactic| (repeat walk_at "rdm1"))
local macro_rules | `(tactic| walk_at "rd") => `(tactic| (repeat walk_at "rd1"))

/-! ### the drawing -/
theorem prime_at {n : Int} (h0 : 0 ≤ n) (h : n < 7) : ∃ p, atI [V.int 2147483647, V.int 2147483629, V.int 2147483587, V.int 2147483579, V.int 2147483563, V.int 2147483549, V.int 2147483543] n = some (.int p) ∧ 0 < p ∧ p ≤ 2147483647 := by
  obtain ⟨p, e, m⟩ := pick_int (ns := [2147483647, 2147483629, 2147483587, 2147483579, 2147483563, 2147483549, 2147483543]) h0 h
  refine ⟨p, e, ?_⟩
  simp only [List.mem_cons, List.not_mem_nil, or_false] at m
  omega
theorem rd_prime {K : PySem.W.Frag} {H : Hp} {t : Addr} {i : Int} {Q : VK} (h : H t = some (.tup [V.int 2147483647, V.int 2147483629, V.int 2147483587, V.int 2147483579, V.int 2147483563, V.int 2147483549, V.int 2147483543]))
    (h0 : 0 ≤ i) (h1 : i < 7) (q : ∀ p : Int, 0 < p → p ≤ 2147483647 → Q (.int p) H) : rIx K (.ref t) (.int i) H Q := by
  obtain ⟨p, e, p0, p1⟩ := prime_at h0 h1
  exact rd_sxT (SqT.of h) e (q p p0 p1)
def sp__law_bag (K : PySem.W.Frag) : Sp := fun vs H Q _ => ∃ (a : Addr) (ns : List Int) (n : Int), vs = [.ref a, .int n] ∧ Scr K H a (ns.map V.int) ∧ ns.length ≤ 63 ∧ 0 ≤ n ∧ n ≤ 62 ∧
  ∀ b J, H b = none → Same H J → Bag b J → Q (.ref b) J
theorem ar__law_bag (K : PySem.W.Frag) : ∀ vs H Q E, sp__law_bag K vs H Q E → vs.length = 2 := by
  intro vs H Q E h
  obtain ⟨a, ns, n, rfl, _⟩ := h
  rfl
abbrev S__law_bag : Stmt := top 11
abbrev N__law_bag : List Str := ["_law_script", "_law_at", "_law_primes", "_law_cell", "_law_large", "_law_mixed"]
theorem sc__law_bag : FnScope N__law_bag ["_law_script", "_law_at"] (defScope S__law_bag) := ⟨rfl, rfl, rfl, by decide +kernel, rfl, by decide +kernel, by decide +kernel⟩
theorem ok__law_bag {P : Program} {w : World} {K : PySem.W.Frag} {mg : Str → Option Value} {base : Heap} {f : Addr} {fd : FuncData} (F : Fun K "_law_bag" "_law_bag" S__law_bag f fd) (m_abs : mg "abs" = none) (m_len : mg "len" = none) :
    FnG P w K mg base CX0 1 f fd ["_law_script", "_law_at"] (sp__law_bag K) := by
  refine Fun_okG F sc__law_bag (ar__law_bag K) (fun cdv A outer s H vs Q E hg hr h => ?_)
  obtain ⟨a, ns, n, rfl, hS, hl, n0, n1, q⟩ := h
  refine ⟨_, (pss_cons (ps_set (i := 2) sc__law_bag.nd rfl (Or.inl rfl) (pe_tup (pa_cons pe_int (pa_cons pe_int (pa_cons pe_int (pa_cons pe_int (pa_cons pe_int (pa_cons pe_int (pa_cons pe_int pa_nil)))))))))
    (pss_cons (ps_set (i := 3) sc__law_bag.nd rfl (Or.inl rfl) (pe_ifExp (pt_cmpR op_lt (pv 1) (pe_callB (id := "len") (lenK (K := K) rfl) (by rfl) m_len (by decide +kernel) (pa_cons (pv 0) pa_nil)) (nomark _)) (pe_ix (ixK (K := K) rfl) (pv 0) (pv 1) (fun _ _ => rfl)) pe_int))
    (pss_cons (ps_set (i := 4) sc__law_bag.nd rfl (Or.inl rfl) (pe_ifExp (pt_cmpR op_ge (pe_callB (id := "abs") call_abs (by rfl) m_abs (by decide +kernel) (pa_cons (pv 3) pa_nil)) (pe_op op_pow pe_int pe_int) (nomark _)) (pe_callB (id := "abs") call_abs (by rfl) m_abs (by decide +kernel) (pa_cons (pv 3) pa_nil)) pe_int))
    (pss_cons (ps_set (i := 5) sc__law_bag.nd rfl (Or.inl rfl) (pe_op op_modN (pe_op op_pow (pe_op op_add (pe_op op_add (pe_op op_modN (pv 3) pe_int) (pe_op op_ml pe_int (pv 1))) pe_int) pe_int) (pe_ix (ixK (K := K) rfl) (pv 2) (pe_op op_modN (pv 1) pe_int) (fun _ _ => rfl))))
    (pss_one (ps_ret (pe_lst (pa_cons (pv 4) (pa_cons (pe_op op_add (pe_op op_modN (pe_op op_ml (pv 5) (pe_op op_add (pe_op op_add (pe_op op_dv (pv 5) pe_int) (pe_op op_ml pe_int (pv 1))) pe_int)) (pe_ix (ixK (K := K) rfl) (pv 2) (pe_op op_modN (pe_op op_add (pv 1) pe_int) pe_int) (fun _ _ => rfl))) pe_int) pa_nil))))))))), ?_⟩
  walk_at "rd"
  intro t nt
  have hS2 : Scr K (upd H t (.tup [V.int 2147483647, V.int 2147483629, V.int 2147483587, V.int 2147483579, V.int 2147483563, V.int 2147483549, V.int 2147483543])) a (ns.map V.int) := by walk_at "hp"
  walk_at "rd"
  refine rd_if (fun c => ?_) (fun c => ?_)
  · rw [List.length_map] at c
    obtain ⟨v, hv, _⟩ := pick_int (ns := ns) n0 c
    walk_at "rd"
    refine rd_sxL hS2.sq hv ?_
    walk_at "rd"
    refine rd_if (fun c2 => ?_) (fun c2 => ?_)
    all_goals walk_at "rdm"
    all_goals refine rd_prime (by walk_at "hp") (by omega) (by omega) (fun p1 p1a p1b => ?_)
    all_goals walk_at "rdm"
    all_goals refine rd_prime (by walk_at "hp") (by omega) (by omega) (fun p2 p2a p2b => ?_)
    all_goals walk_at "rdm"
    all_goals intro p np
    all_goals exact q _ _ ((same_new nt).free np) ((same_new nt).trans (same_new np)) ⟨_, _, upd_same⟩
  · walk_at "rd"
    refine rd_if (fun c2 => ?_) (fun c2 => ?_)
    all_goals walk_at "rdm"
    all_goals refine rd_prime (by walk_at "hp") (by omega) (by omega) (fun p1 p1a p1b => ?_)
    all_goals walk_at "rdm"
    all_goals refine rd_prime (by walk_at "hp") (by omega) (by omega) (fun p2 p2a p2b => ?_)
    all_goals walk_at "rdm"
    all_goals intro p np
    all_goals exact q _ _ ((same_new nt).free np) ((same_new nt).trans (same_new np)) ⟨_, _, upd_same⟩
def sp__law_take (K : PySem.W.Frag) : Sp := fun vs H Q _ => ∃ (b : Addr) (n : Int), vs = [.ref b, .int n] ∧ Bag b H ∧ 0 < n ∧ n.natAbs < 2 ^ 400 ∧ ∀ (r : Int) J, 0 ≤ r → r < n → Kp b H J → Bag b J → Q (.int r) J
theorem ar__law_take (K : PySem.W.Frag) : ∀ vs H Q E, sp__law_take K vs H Q E → vs.length = 2 := by
  intro vs H Q E h
  obtain ⟨b, n, rfl, _⟩ := h
  rfl
abbrev S__law_take : Stmt := top 12
abbrev N__law_take : List Str := ["_law_bag_here", "_law_size", "_law_digit"]
theorem sc__law_take : FnScope N__law_take ["_law_bag_here", "_law_size"] (defScope S__law_take) := ⟨rfl, rfl, rfl, by decide +kernel, rfl, by decide +kernel, by decide +kernel⟩
theorem ok__law_take {P : Program} {w : World} {K : PySem.W.Frag} {mg : Str → Option Value} {base : Heap} {f : Addr} {fd : FuncData} (F : Fun K "_law_take" "_law_take" S__law_take f fd) :
    FnG P w K mg base CX0 1 f fd ["_law_bag_here", "_law_size"] (sp__law_take K) := by
  refine Fun_okG F sc__law_take (ar__law_take K) (fun cdv A outer s H vs Q E hg hr h => ?_)
  obtain ⟨b, n, rfl, ⟨x, y, hb⟩, n0, n1, q⟩ := h
  refine ⟨_, (pss_cons (ps_if (pt_cmpR op_gt (pe_ix (ixK (K := K) rfl) (pv 0) pe_int (fun _ _ => rfl)) pe_int (nomark _)) (pss_cons (ps_set (i := 2) sc__law_take.nd rfl (Or.inl rfl) (pe_op op_modN (pe_ix (ixK (K := K) rfl) (pv 0) pe_int (fun _ _ => rfl)) (pv 1)))
    (pss_cons (ps_asg (pe_op op_dv (pe_ix (ixK (K := K) rfl) (pv 0) pe_int (fun _ _ => rfl)) (pv 1)) (pg_sub (pv 0) pe_int set_list))
    (pss_one (ps_ret (pv 2))))) pss_nil)
    (pss_cons (ps_asg (pe_op op_modN (pe_op op_ml (pe_ix (ixK (K := K) rfl) (pv 0) pe_int (fun _ _ => rfl)) pe_int) pe_int) (pg_sub (pv 0) pe_int set_list))
    (pss_one (ps_ret (pe_op op_modN (pe_op op_dv (pe_op op_modN (pe_op op_ml (pe_ix (ixK (K := K) rfl) (pv 0) pe_int (fun _ _ => rfl)) pe_int) pe_int) (pe_op op_pow pe_int pe_int)) (pv 1)))))), ?_⟩
  walk_at "rd"
  refine rd_if (fun c => ?_) (fun c => ?_)
  · walk_at "rd"
    exact q _ _ (fmod_rng n0).1 (fmod_rng n0).2 Kp.at ⟨_, _, upd_same⟩
  · walk_at "rd"
    exact q _ _ (fmod_rng n0).1 (fmod_rng n0).2 Kp.at ⟨_, _, upd_same⟩
def sp__law_part (K : PySem.W.Frag) : Sp := fun vs H Q _ => ∃ m n : Int, vs = [.int m, .int n] ∧ Q (.int (Int.gcd m n)) H
theorem ar__law_part (K : PySem.W.Frag) : ∀ vs H Q E, sp__law_part K vs H Q E → vs.length = 2 := by
  intro vs H Q E h
  obtain ⟨b, n, rfl, _⟩ := h
  rfl
abbrev S__law_part : Stmt := top 13
abbrev N__law_part : List Str := ["_law_one", "_law_other"]
theorem sc__law_part : FnScope N__law_part ["_law_one", "_law_other"] (defScope S__law_part) := ⟨rfl, rfl, rfl, by decide +kernel, rfl, by decide +kernel, by decide +kernel⟩
theorem ok__law_part {P : Program} {w : World} {K : PySem.W.Frag} {mg : Str → Option Value} {base : Heap} {f : Addr} {fd : FuncData} (F : Fun K "_law_part" "_law_part" S__law_part f fd) (m_abs : mg "abs" = none) :
    FnG P w K mg base CX0 1 f fd ["_law_one", "_law_other"] (sp__law_part K) := by
  refine Fun_okG F sc__law_part (ar__law_part K) (fun cdv A outer s H vs Q E hg hr h => ?_)
  obtain ⟨m, n, rfl, q⟩ := h
  refine ⟨_, (pss_cons (ps_while PassesOwn.never (pt_cmpR op_ne (pv 1) pe_int (nomark _)) (pss_one (ps_par (i := 0) (j := 1) rfl sc__law_part.nd rfl rfl (by decide) rfl rfl (pa_cons (pv 1) (pa_cons (pe_op op_modN (pv 0) (pv 1)) pa_nil)) (by rfl))))
    (pss_one (ps_ret (pe_callB (id := "abs") call_abs (by rfl) m_abs (by decide +kernel) (pa_cons (pv 0) pa_nil))))), ?_⟩
  walk_at "rd"
  refine while_by (fun σ' H' => ∃ x y : Int, σ' = [some (.int x), some (.int y)] ∧ H' = H ∧ Int.gcd x y = Int.gcd m n) (fun σ' _ => msr σ') ⟨m, n, rfl, rfl, rfl⟩ (fun σ' H' w => ?_) fun σ' H' R R' f h => ?_
  · obtain ⟨x, y, rfl, rfl, e⟩ := w
    walk_at "rd"
    refine rd_ifn (fun c => ?_) (fun c => ?_)
    · walk_at "rd"
      exact ⟨⟨_, _, rfl, rfl, by rw [gcd_turn]; exact e⟩, fmod_abs c⟩
    · subst c
      walk_at "rd"
      have e2 : (if x < 0 then -x else x) = ((Int.gcd m n : Nat) : Int) := by
        rw [← e, Int.gcd_zero_right]
        split <;> omega
      rw [e2]
      exact q
  · obtain ⟨v, h1, h2, k, h3, h4⟩ := h
    exact ⟨v, h1, h2, k, h3, f _ _ h4⟩

def sp__law_lowest (K : PySem.W.Frag) : Sp := fun vs H Q _ => ∃ t u : Int, vs = [.int t, .int u] ∧ u ≠ 0 ∧ Bd 8000 u ∧ ∀ x y p J, IsLow t u x y → H p = none → Same H J → J p = some (.tup [.int x, .int y]) → Q (.ref p) J
theorem ar__law_lowest (K : PySem.W.Frag) : ∀ vs H Q E, sp__law_lowest K vs H Q E → vs.length = 2 := by
  intro vs H Q E h
  obtain ⟨b, n, rfl, _⟩ := h
  rfl
abbrev S__law_lowest : Stmt := top 14
abbrev N__law_lowest : List Str := ["_law_top", "_law_under", "_law_part_here"]
theorem sc__law_lowest : FnScope N__law_lowest ["_law_top", "_law_under"] (defScope S__law_lowest) := ⟨rfl, rfl, rfl, by decide +kernel, rfl, by decide +kernel, by decide +kernel⟩
theorem ok__law_lowest {P : Program} {w : World} {K : PySem.W.Frag} {mg : Str → Option Value} {base : Heap} {f : Addr} {fd : FuncData} (F : Fun K "_law_lowest" "_law_lowest" S__law_lowest f fd) {f__law_part : Addr} {fd__law_part : FuncData} (C__law_part : Cal P w K mg base "_law_part" 1 f__law_part fd__law_part ["_law_one", "_law_other"] (sp__law_part K)) :
    FnG P w K mg base CX0 2 f fd ["_law_top", "_law_under"] (sp__law_lowest K) := by
  refine Fun_okG F sc__law_lowest (ar__law_lowest K) (fun cdv A outer s H vs Q E hg hr h => ?_)
  obtain ⟨t, u, rfl, u0, hu, q⟩ := h
  refine ⟨_, (pss_cons (ps_set (i := 2) sc__law_lowest.nd rfl (Or.inl rfl) (pe_c C__law_part hg (hr.mono (by decide)) rfl (pa_cons (pv 0) (pa_cons (pv 1) pa_nil))))
    (pss_cons (ps_if (pt_cmpR op_lt (pv 1) pe_int (nomark _)) (pss_one (ps_set (i := 2) sc__law_lowest.nd rfl (Or.inl rfl) (pe_un un_neg (pv 2)))) pss_nil)
    (pss_one (ps_ret (pe_tup (pa_cons (pe_op op_dv (pv 0) (pv 2)) (pa_cons (pe_op op_dv (pv 1) (pv 2)) pa_nil))))))), ?_⟩
  walk_at "rd"
  refine ⟨t, u, rfl, ?_⟩
  walk_at "rd"
  refine rd_if (fun c => ?_) (fun c => ?_)
  · walk_at "rd"
    obtain ⟨h1, h2, h3⟩ := low_at (t := t) u0 (s := -((Int.gcd t u : Nat) : Int)) (by rw [if_pos c])
    refine rd_I (rd_dvB _ h2 (hu.le h3)) ?_
    walk_at "rd"
    refine rd_I (rd_dvB _ h2 (hu.le h3)) ?_
    walk_at "rd"
    intro p np
    exact q _ _ _ _ h1 np (same_new np) upd_same
  · walk_at "rd"
    obtain ⟨h1, h2, h3⟩ := low_at (t := t) u0 (s := ((Int.gcd t u : Nat) : Int)) (by rw [if_neg c])
    refine rd_I (rd_dvB _ h2 (hu.le h3)) ?_
    walk_at "rd"
    refine rd_I (rd_dvB _ h2 (hu.le h3)) ?_
    walk_at "rd"
    intro p np
    exact q _ _ _ _ h1 np (same_new np) upd_same

local macro_rules | `(tactic| walk_at "hp_4") => `(tactic| (first
  | assumption
  | exact L2.upd_same
  | (with_reducible exact TupC.sq (by assumption) _)
  | ((with_reducible refine SqT.of ?h); (case h => walk_at "hp_4"))
  | ((with_reducible refine sqt_same (H := ?hh) ?k ?h); (case k => assumption); (case h => walk_at "hp_4"))
  | ((with_reducible refine sqt_bag (b := ?bb) (H := ?hh) ?k ?g ?h); (case k => assumption); (case g => walk_at "hp_4"); (case h => walk_at "hp_4"))
  | ((with_reducible refine sqt_pu (l := ?ll) (H := ?hh) ?k ?h); (case k => assumption); (case h => walk_at "hp_4"))
  | ((with_reducible refine sqt_new ?k ?h); (case k => assumption); (case h => walk_at "hp_4"))
  | ((with_reducible refine SqL.of ?h); (case h => walk_at "hp_4"))
  | ((with_reducible refine Scr.sq ?h); (case h => walk_at "hp_4"))
  | ((with_reducible refine Bag.new ?h ?k); (case h => walk_at "hp_4"); (case k => assumption))
  | ((with_reducible refine Scr.new ?k ?h); (case k => assumption); (case h => walk_at "hp_4"))
  | ((with_reducible refine Scr.kp (b := ?bb) (H := ?hh) ?k ?g ?h); (case k => assumption); (case g => walk_at "hp_4"); (case h => walk_at "hp_4"))
  | ((with_reducible refine Bag.same (H := ?hh) ?k ?h); (case k => assumption); (case h => walk_at "hp_4"))
  | ((with_reducible refine Scr.same (H := ?hh) ?k ?h); (case k => assumption); (case h => walk_at "hp_4"))
  | ((with_reducible refine same_any (H := ?hh) ?k ?h); (case k => assumption); (case h => walk_at "hp_4"))
  | ((with_reducible refine new_any ?k ?h); (case k => assumption); (case h => walk_at "hp_4"))
  | ((with_reducible refine set_tup (ys := ?ys) ?k ?h); (case k => assumption); (case h => walk_at "hp_4"))
  | ((with_reducible refine Bag.put ?k ?h); (case k => assumption); (case h => walk_at "hp_4"))
  | ((with_reducible refine Kp.tup (b := ?bb) (H := ?hh) ?k ?g ?h); (case k => assumption); (case g => walk_at "hp_4"); (case h => walk_at "hp_4"))
  | ((with_reducible refine Pu.bag (l := ?ll) (H := ?hh) ?k ?n ?h); (case k => assumption); (case n => walk_at "hp_4"); (case h => walk_at "hp_4"))
  | ((with_reducible refine Pu.scr (l := ?ll) (H := ?hh) ?k ?h); (case k => assumption); (case h => walk_at "hp_4"))
  | ((with_reducible refine Pu.tup (l := ?ll) (H := ?hh) ?k ?h); (case k => assumption); (case h => walk_at "hp_4"))
  | ((with_reducible refine Pu.lst (l := ?ll) (H := ?hh) ?k ?n ?h); (case k => assumption); (case n => walk_at "hp_4"); (case h => walk_at "hp_4"))
  | ((with_reducible refine Kp.lst (b := ?bb) (H := ?hh) ?k ?g ?h); (case k => assumption); (case g => walk_at "hp_4"); (case h => walk_at "hp_4"))
  | ((with_reducible refine Bag.off (H := ?hh) ?h ?g); (case h => assumption); (case g => walk_at "hp_4"))
  | (with_reducible exact Kp.refl)
  | (with_reducible exact Kp.new (by assumption))))
local macro_rules | `(tactic| walk_at "dp_4") => `(tactic| (first
  | exact Dp.int _
  | exact Dp.bl _
  | exact Dp.non
  | exact Dp.str _
  | exact DpAll.nil
  | ((refine DpAll.cons (d := ?d) (ds := ?ds) ?h ?k); (case h => walk_at "dp_4"); (case k => walk_at "dp_4"))
  | ((refine Dp.lst (xs := ?xs) (ds := ?ds) ?h ?k); (case h => walk_at "hp_4"); (case k => walk_at "dp_4"))
  | ((refine Dp.tup (xs := ?xs) (ds := ?ds) ?h ?k); (case h => walk_at "hp_4"); (case k => walk_at "dp_4"))))
local macro_rules | `(tactic| walk_at "small_4") => `(tactic| first | decide +kernel | (simp only [sm, sms, sz, szs, Bool.and_true, Bool.and_eq_true, decide_eq_true_eq, and_true, true_and]; (first | done | omega | (repeat' constructor) <;> first | omega | decide +kernel)))
local macro_rules | `(tactic| walk_at "side_4") => `(tactic| (first
  | ((with_reducible show IntMulOk _ _); first | exact rd_mulB (by assumption) (by assumption) | (refine rd_mulok ?_; omega))
  | ((with_reducible show CDv _ _); exact rd_dvB _ (Int.ne_of_gt (by assumption)) (by assumption))
  | ((with_reducible show CDv _ _); refine rd_dvI _ ?_ ?_ <;> first | assumption | omega | decide)
  | ((with_reducible show CPow _ _); exact ⟨by decide, by decide, by first | decide | omega⟩)
  | omega
  | assumption
  | decide
  | (refine rd_mulB (m := 400) (n := 400) (Bd.lit ?_) (Bd.lit ?_) <;> decide +kernel)))
local macro_rules | `(tactic| walk_at "rd1_4") => `(tactic| (first
  | ((with_reducible refine rd_var (v := ?v) ?h ?_); (case h => exact rfl))
  | (with_reducible refine rd_c ?_)
  | (with_reducible refine rd_op ?_)
  | (with_reducible refine rd_cons ?_)
  | (with_reducible refine rd_nil ?_)
  | ((with_reducible refine rd_sxT (xs := ?xs) (v := ?v) ?h ?a ?_); (case h => walk_at "hp_4"); (case a => exact rfl))
  | ((with_reducible refine rd_sxL (xs := ?xs) (v := ?v) ?h ?a ?_); (case h => walk_at "hp_4"); (case a => exact rfl))
  | (with_reducible refine rd_I0 ?_)
  | ((with_reducible refine rd_I ?c ?_); (case c => walk_at "side_4"))
  | ((with_reducible refine rd_name (τ := ?t) ?e ?_); (case e => exact rfl))
  | (with_reducible refine rd_seq ?_)
  | (with_reducible refine rd_asg ?_)
  | (with_reducible refine rd_call ?_)
  | (with_reducible refine rd_CB ?_)
  | (with_reducible refine rd_tupK ?_)
  | ((with_reducible refine rd_kT ?h ?_); (case h => exact rfl); intro p J np sJ eJ)
  | ((with_reducible refine rd_new ?h ?_); (case h => exact rfl))
  | (with_reducible refine rd_test ?_)
  | (with_reducible refine rd_bl ?_)
  | (with_reducible refine rd_U ?_)
  | (with_reducible refine rd_un ?_)
  | (with_reducible refine rd_neI ?_)
  | (with_reducible refine rd_eqI ?_)
  | (with_reducible refine rd_tpar ?_)
  | (with_reducible refine rd_tpar3 ?_)
  | (with_reducible refine rd_forL ?_)
  | ((with_reducible refine rd_par3 (τ := ?t) ?e ?_); (case e => exact rfl))
  | (with_reducible refine rd_sl ?_)
  | (with_reducible refine rd_part ?_)
  | (with_reducible refine rd_partI ?_)
  | (with_reducible refine rd_nopart ?_)
  | ((with_reducible refine rd_slL (xs := ?xs) (ys := ?ys) ?h ?e ?_); (case h => walk_at "hp_4"); (case e => exact rfl); intro p J np sJ eJ)
  | (with_reducible refine rd_zip ?_)
  | ((with_reducible refine rd_zipA (xs := ?xs) (ys := ?ys) ?h ?k ?_); (case h => walk_at "hp_4"); (case k => walk_at "hp_4"))
  | ((with_reducible refine rd_isiQ (b := true) (xs := ?xs) ?h ?a ?_); (case a => decide +kernel); (case h => walk_at "hp_4"))
  | ((with_reducible refine rd_isiQ (b := false) (xs := ?xs) ?h ?a ?_); (case a => decide +kernel); (case h => walk_at "hp_4"))
  | (with_reducible refine rd_lc ?_)
  | (with_reducible refine rd_iTup ?_)
  | (with_reducible refine rd_iLst ?_)
  | (with_reducible refine rd_iR1 ?_)
  | (with_reducible refine rd_BM ?_)
  | ((with_reducible refine rd_iTupA (xs := ?xs) ?h ?_); (case h => walk_at "hp_4"))
  | ((with_reducible refine rd_iLstA (xs := ?xs) ?h ?_); (case h => walk_at "hp_4"))
  | ((with_reducible refine rd_tyl (xs := ?xs) ?h ?_); (case h => walk_at "hp_4"))
  | ((with_reducible refine rd_appK (xs := ?xs) ?h ?a ?_); (case h => walk_at "hp_4"); (case a => exact Nat.le_of_ble_eq_true rfl); intro J pJ eJ)
  | ((with_reducible refine rd_catK (xs := ?xs) (zs := ?zs) ?h ?k ?a ?_); (case h => walk_at "hp_4"); (case k => walk_at "hp_4"); (case a => exact Nat.le_of_ble_eq_true rfl); intro p J np sJ eJ)
  | ((with_reducible refine rd_repK (xs := ?xs) (ys := ?ys) ?h ?a ?b ?c ?_); (case h => walk_at "hp_4"); (case a => decide); (case b => exact Nat.le_of_ble_eq_true rfl); (case c => exact rfl); intro p J np sJ eJ)
  | (with_reducible refine rd_ret ?_)
  | (with_reducible refine rd_next ?_)
  | (with_reducible refine rd_drop ?_)
  | (with_reducible refine rd_ifS ?_)
  | (with_reducible refine rd_B ?_)
  | (with_reducible refine rd_not ?_)
  | (with_reducible refine rd_and ?_)
  | (with_reducible refine rd_or ?_)
  | (with_reducible refine rd_andV ?_)
  | (with_reducible refine rd_orV ?_)
  | (with_reducible refine rd_notV ?_)
  | (with_reducible refine rd_ifE ?_)
  | (with_reducible refine rd_lstK ?_)
  | ((with_reducible refine rd_kL ?h ?_); (case h => exact rfl); intro p J np sJ eJ)
  | ((with_reducible refine rd_for1b ?h ?_); (case h => constructor <;> (repeat' split) <;> omega))
  | (with_reducible refine rd_one ?_)
  | (with_reducible refine rd_two ?_)
  | (with_reducible refine rd_int ?_)
  | (with_reducible refine rd_intB ?_)
  | (with_reducible refine rd_gcd ?_)
  | ((with_reducible refine rd_par (τ := ?t) ?e ?_); (case e => exact rfl))
  | (with_reducible refine rd_sub ?_)
  | (with_reducible refine rd_for1 ?_)
  | ((with_reducible refine rd_len (ys := ?ys) ?h ?_); (case h => walk_at "hp_4"))
  | ((with_reducible refine rd_lenTu (ys := ?ys) ?h ?_); (case h => walk_at "hp_4"))
  | ((with_reducible refine rd_repr (d := ?d) ?h ?a ?b ?c ?_); (case h => walk_at "dp_4"); (case a => walk_at "small_4"); (case b => walk_at "small_4"); (case c => simp only [PyData.depth, PyData.depthAll]; omega))
  | ((with_reducible refine rd_nsame ?h ?_); (case h => exact rfl))
  | ((with_reducible refine rd_same ?h ?_); (case h => exact rfl))
  | ((with_reducible refine rd_gtup (xs := ?xs) ?h ?a ?_); (case h => walk_at "hp_4"); (case a => exact rfl))
  | (with_reducible refine rd_gcons ?_)
  | (with_reducible refine rd_gnil ?_)
  | ((with_reducible refine rd_isiI (b := true) ?a ?_); (case a => decide +kernel))
  | ((with_reducible refine rd_isiI (b := false) ?a ?_); (case a => decide +kernel))
  | ((with_reducible refine rd_isiB (b := true) ?a ?_); (case a => decide +kernel))
  | ((with_reducible refine rd_isiB (b := false) ?a ?_); (case a => decide +kernel))
  | ((with_reducible refine rd_isiN (b := true) ?a ?_); (case a => decide +kernel))
  | ((with_reducible refine rd_isiN (b := false) ?a ?_); (case a => decide +kernel))
  | ((with_reducible refine rd_isiS (b := true) ?a ?_); (case a => decide +kernel))
  | ((with_reducible refine rd_isiS (b := false) ?a ?_); (case a => decide +kernel))
  | ((with_reducible refine rd_isiT (b := true) (xs := ?xs) ?h ?a ?_); (case a => decide +kernel); (case h => walk_at "hp_4"))
  | ((with_reducible refine rd_isiT (b := false) (xs := ?xs) ?h ?a ?_); (case a => decide +kernel); (case h => walk_at "hp_4"))
  | ((with_reducible refine rd_isiL (b := true) (xs := ?xs) ?h ?a ?_); (case a => decide +kernel); (case h => walk_at "hp_4"))
  | ((with_reducible refine rd_isiL (b := false) (xs := ?xs) ?h ?a ?_); (case a => decide +kernel); (case h => walk_at "hp_4"))
  | ((with_reducible refine rd_isi (t := ?t) (b := true) ?h ?a ?_); (case h => assumption); (case a => decide +kernel))
  | ((with_reducible refine rd_isi (t := ?t) (b := false) ?h ?a ?_); (case h => assumption); (case a => decide +kernel))
  | (with_reducible refine rd_chain ?_)
  | ((with_reducible refine rd_eqR (x := ?x) (y := ?y) (u := ?u) (v := ?v) ?h ?k ?_); (case h => walk_at "hp_4"); (case k => walk_at "hp_4"))
  | ((with_reducible refine rd_eqDs (d := ?d) ?h ?k ?s ?_); (case h => walk_at "dp_4"); (case k => walk_at "dp_4"); (case s => first | rfl | decide | simp [SeqAt.shaped]))
  | ((with_reducible refine rd_neDs (d := ?d) ?h ?k ?s ?_); (case h => walk_at "dp_4"); (case k => walk_at "dp_4"); (case s => first | rfl | decide | simp [SeqAt.shaped]))
  | ((with_reducible refine rd_setL (xs := ?xs) (ys := ?ys) (j := ?j) ?h ?a ?e ?_); (case h => walk_at "hp_4"); (case a => exact rfl); (case e => exact rfl))))
local macro_rules | `(tactic| walk_at "rdm1_4") => `(tactic| (first
  | ((with_reducible refine rd_md ?c ?_); (case c => first | omega | decide); intro r r0 r1)
  | walk_at "rd1_4"))
local macro_rules | `(tactic| walk_at "rdm_4") => `(tactic| (repeat walk_at "rdm1_4"))
local macro_rules | `(tactic| walk_at "rd_4") => `(tactic| (repeat walk_at "rd1_4"))
local macro_rules | `(tactic| walk_at "kp_4") => `(tactic| (first
  | exact Kp.refl
  | assumption
  | ((refine Kp.trans (J := ?m) ?a ?b); (case b => first | assumption | exact Kp.of (by assumption)); (case a => walk_at "kp_4"))))

def sp__law_units (K : PySem.W.Frag) : Sp := fun vs H Q _ => ∃ (b : Addr) (g : Nat), vs = [.ref b, .int (g : Int)] ∧ Bag b H ∧ g ≤ 30 ∧
  ∀ l J (f : Nat → Bool), l ≠ b → J l = some (.lst (((List.range g).filter f).map nV)) → Kp b H J → Bag b J → Q (.ref l) J
theorem ar__law_units (K : PySem.W.Frag) : ∀ vs H Q E, sp__law_units K vs H Q E → vs.length = 2 := by
  intro vs H Q E h
  obtain ⟨b, g, rfl, _⟩ := h
  rfl
abbrev S__law_units : Stmt := top 15
abbrev N__law_units : List Str := ["_law_bag_here", "_law_grain", "_law_found", "_law_inside", "_law_pace", "_law_unit"]
theorem sc__law_units : FnScope N__law_units ["_law_bag_here", "_law_grain"] (defScope S__law_units) := ⟨rfl, rfl, rfl, by decide +kernel, rfl, by decide +kernel, by decide +kernel⟩
theorem ok__law_units {P : Program} {w : World} {K : PySem.W.Frag} {mg : Str → Option Value} {base : Heap} {f : Addr} {fd : FuncData} (F : Fun K "_law_units" "_law_units" S__law_units f fd) {f__law_take : Addr} {fd__law_take : FuncData} (C__law_take : Cal P w K mg base "_law_take" 1 f__law_take fd__law_take ["_law_bag_here", "_law_size"] (sp__law_take K)) (m_range : mg "range" = none) :
    FnG P w K mg base CX0 2 f fd ["_law_bag_here", "_law_grain"] (sp__law_units K) := by
  refine Fun_okG F sc__law_units (ar__law_units K) (fun cdv A outer s H vs Q E hg hr h => ?_)
  obtain ⟨b, g, rfl, hb, g1, q⟩ := h
  refine ⟨_, (pss_cons (ps_par3 (i := 2) (j := 3) (l := 4) rfl sc__law_units.nd rfl rfl rfl (by decide) (by decide) (by decide) rfl rfl rfl (pa_cons (pe_lst pa_nil) (pa_cons (pe_cmpR op_eq (pe_c C__law_take hg (hr.mono (by decide)) rfl (pa_cons (pv 0) (pa_cons pe_int pa_nil))) pe_int (nomark _)) (pa_cons (pe_op op_add pe_int (pe_c C__law_take hg (hr.mono (by decide)) rfl (pa_cons (pv 0) (pa_cons pe_int pa_nil)))) pa_nil))) (by rfl))
    (pss_cons (ps_for PassesOwn.never rfl (pi_range1 rfl m_range (pa_cons (pv 1) pa_nil)) (pg_name (i := 5) sc__law_units.nd rfl (Or.inl rfl)) (pss_cons (ps_if (pt_cmpR op_eq (pe_c C__law_take hg (hr.mono (by decide)) rfl (pa_cons (pv 0) (pa_cons (pv 4) pa_nil))) pe_int (nomark _)) (pss_one (ps_set (i := 3) sc__law_units.nd rfl (Or.inl rfl) (pe_not (pv 3)))) pss_nil)
    (pss_one (ps_if (pt_val (pv 3)) (pss_one (ps_expr (pe_bm PySem.F.plainAttrs_list PySem.F.slot_list_append PySem.F.type_list_append mt_append (pv 2) (pa_cons (pv 5) pa_nil)))) pss_nil))))
    (pss_one (ps_ret (pv 2))))), ?_⟩
  walk_at "rd_4"
  refine ⟨b, 2, rfl, by walk_at "hp_4", by decide, by decide, fun r1 J1 r1a r1b k1 gb1 => ?_⟩
  walk_at "rd_4"
  refine ⟨b, 4, rfl, gb1, by decide, by decide, fun r2 J2 r2a r2b k2 gb2 => ?_⟩
  walk_at "rd_4"
  rename_i p0 J0 np0 sJ0 eJ0
  have nb : p0 ≠ b := hb.ne np0
  have e2 : J2 p0 = some (.lst []) := by walk_at "hp_4"
  refine lp_rng (fun i σ' M => ∃ (f : Nat → Bool) (k : Bool) (o5 : Option V), σ' = [some (.ref b), some (.int (g : Int)), some (.ref p0), some (.bl k), some (.int (1 + r2)), o5] ∧ M p0 = some (.lst (((List.range i).filter f).map nV)) ∧ Kp b H M ∧ Bag b M)
    ⟨fun _ => true, _, none, rfl, e2, by walk_at "kp_4", gb2⟩ (fun i σ M hi w => ?_) (fun σ M w => ?_)
  · obtain ⟨f, k, o5, rfl, hl, kp, gb⟩ := w
    have hz : (((List.range i).filter f).map nV).length ≤ 1000 := by
      have h1 := List.length_filter_le f (List.range i)
      rw [List.length_map]
      rw [List.length_range] at h1
      omega
    walk_at "rd_4"
    refine ⟨b, 1 + r2, rfl, gb, by omega, by omega, fun r3 J3 r3a r3b k3 gb3 => ?_⟩
    have hl3 : J3 p0 = some (.lst (((List.range i).filter f).map nV)) := k3 _ _ nb hl
    have kp3 : Kp b H J3 := kp.trans k3
    obtain ⟨f1, ef1⟩ := unit_step f i true
    obtain ⟨f0, ef0⟩ := unit_step f i false
    have on : ∀ J4, Pu p0 J3 J4 → J4 p0 = some (.lst (((List.range i).filter f).map nV ++ [.int (0 + (i : Int))])) → ∃ (f : Nat → Bool), J4 p0 = some (.lst (((List.range (i + 1)).filter f).map nV)) ∧ Kp b H J4 ∧ Bag b J4 := fun J4 p4 e4 => by
      refine ⟨f1, ?_, kp3.pu p4 np0, p4.bag nb gb3⟩
      rw [ef1, List.map_append, e4, Int.zero_add]
      rfl
    have off : ∃ (f : Nat → Bool), J3 p0 = some (.lst (((List.range (i + 1)).filter f).map nV)) ∧ Kp b H J3 ∧ Bag b J3 := by
      refine ⟨f0, ?_, kp3, gb3⟩
      rw [ef0, List.map_append, hl3]
      simp
    obtain ⟨fo, off1, off2, off3⟩ := off
    walk_at "rd_4"
    refine rd_if (fun c => ?_) (fun c => ?_)
    · walk_at "rd_4"
      cases k with
      | false =>
        refine iteT ?_
        walk_at "rd_4"
        refine rd_appK hl3 hz fun J4 p4 e4 => ?_
        obtain ⟨f', a1, a2, a3⟩ := on J4 p4 e4
        walk_at "rd_4"
        exact ⟨f', _, _, rfl, a1, a2, a3⟩
      | true =>
        refine iteF ?_
        walk_at "rd_4"
        exact ⟨fo, _, _, rfl, off1, off2, off3⟩
    · walk_at "rd_4"
      cases k with
      | true =>
        refine iteT ?_
        walk_at "rd_4"
        refine rd_appK hl3 hz fun J4 p4 e4 => ?_
        obtain ⟨f', a1, a2, a3⟩ := on J4 p4 e4
        walk_at "rd_4"
        exact ⟨f', _, _, rfl, a1, a2, a3⟩
      | false =>
        refine iteF ?_
        walk_at "rd_4"
        exact ⟨fo, _, _, rfl, off1, off2, off3⟩
  · obtain ⟨f, k, o5, rfl, hl, kp, gb⟩ := w
    rw [Int.toNat_natCast] at hl
    walk_at "rd_4"
    exact q _ _ f nb hl kp gb
def sp__law_drawn_grain (K : PySem.W.Frag) : Sp := fun vs H Q _ => ∃ b, vs = [.ref b] ∧ Bag b H ∧ ∀ (g : Nat) J, 1 ≤ g → g ≤ 30 → Kp b H J → Bag b J → Q (.int (g : Int)) J
theorem ar__law_drawn_grain (K : PySem.W.Frag) : ∀ vs H Q E, sp__law_drawn_grain K vs H Q E → vs.length = 1 := by
  intro vs H Q E h
  obtain ⟨b, rfl, _⟩ := h
  rfl
abbrev S__law_drawn_grain : Stmt := top 17
abbrev N__law_drawn_grain : List Str := ["_law_bag_here"]
theorem sc__law_drawn_grain : FnScope N__law_drawn_grain ["_law_bag_here"] (defScope S__law_drawn_grain) := ⟨rfl, rfl, rfl, by decide +kernel, rfl, by decide +kernel, by decide +kernel⟩
theorem ok__law_drawn_grain {P : Program} {w : World} {K : PySem.W.Frag} {mg : Str → Option Value} {base : Heap} {f : Addr} {fd : FuncData} (F : Fun K "_law_drawn_grain" "_law_drawn_grain" S__law_drawn_grain f fd) {f__law_take : Addr} {fd__law_take : FuncData} (C__law_take : Cal P w K mg base "_law_take" 1 f__law_take fd__law_take ["_law_bag_here", "_law_size"] (sp__law_take K)) :
    FnG P w K mg base CX0 2 f fd ["_law_bag_here"] (sp__law_drawn_grain K) := by
  refine Fun_okG F sc__law_drawn_grain (ar__law_drawn_grain K) (fun cdv A outer s H vs Q E hg hr h => ?_)
  obtain ⟨b, rfl, hb, q⟩ := h
  refine ⟨_, (pss_one (ps_ret (pe_ix (ixK (K := K) rfl) (pe_lst (pa_cons (pe_op op_add pe_int (pe_c C__law_take hg (hr.mono (by decide)) rfl (pa_cons (pv 0) (pa_cons pe_int pa_nil)))) (pa_cons pe_int (pa_cons pe_int (pa_cons pe_int pa_nil))))) (pe_c C__law_take hg (hr.mono (by decide)) rfl (pa_cons (pv 0) (pa_cons pe_int pa_nil))) (fun _ _ => rfl)))), ?_⟩
  walk_at "rd_4"
  refine ⟨b, 6, rfl, hb, by decide, by decide, fun r J r0 r1 k1 g1 => ?_⟩
  walk_at "rd_4"
  refine ⟨b, 4, rfl, by walk_at "hp_4", by decide, by decide, fun r2 J2 r2a r2b k2 g2 => ?_⟩
  refine rd_pick (xs := ?xs) ?h r2a ?l fun v hv => ?_
  case h => walk_at "hp_4"
  case l => exact r2b
  simp only [List.mem_cons, List.not_mem_nil, or_false] at hv
  obtain ⟨g, rfl, ga, gb⟩ : ∃ g : Nat, v = .int (g : Int) ∧ 1 ≤ g ∧ g ≤ 30 := by
    rcases hv with rfl | rfl | rfl | rfl
    · exact ⟨(1 + r).toNat, by rw [Int.toNat_of_nonneg (by omega)], by omega, by omega⟩
    · exact ⟨12, rfl, by decide, by decide⟩
    · exact ⟨30, rfl, by decide, by decide⟩
    · exact ⟨7, rfl, by decide, by decide⟩
  exact q _ _ ga gb (by walk_at "kp_4") g2
def sp__law_form (K : PySem.W.Frag) : Sp := fun vs H Q _ => ∃ (l : Addr) (g : Nat) (f : Nat → Bool), vs = [.ref l, .int (g : Int)] ∧ H l = some (.lst (((List.range g).filter f).map nV)) ∧ 1 ≤ g ∧ g ≤ 30 ∧
  ∀ m J rs ss, H m = none → Same H J → J m = some (.lst rs) → SnsAt K J rs ss → SnsOf g (rruns f g).reverse ss → rs.length ≤ 30 → Q (.ref m) J
theorem ar__law_form (K : PySem.W.Frag) : ∀ vs H Q E, sp__law_form K vs H Q E → vs.length = 2 := by
  intro vs H Q E h
  obtain ⟨b, g, f, rfl, _⟩ := h
  rfl
abbrev S__law_form : Stmt := top 16
abbrev N__law_form : List Str := ["_law_units_here", "_law_grain", "_law_found", "_law_unit", "_law_low", "_law_high"]
theorem sc__law_form : FnScope N__law_form ["_law_units_here", "_law_grain"] (defScope S__law_form) := ⟨rfl, rfl, rfl, by decide +kernel, rfl, by decide +kernel, by decide +kernel⟩
theorem ok__law_form {P : Program} {w : World} {K : PySem.W.Frag} {mg : Str → Option Value} {base : Heap} {f : Addr} {fd : FuncData} (F : Fun K "_law_form" "_law_form" S__law_form f fd) {f__law_lowest : Addr} {fd__law_lowest : FuncData} (C__law_lowest : Cal P w K mg base "_law_lowest" 2 f__law_lowest fd__law_lowest ["_law_top", "_law_under"] (sp__law_lowest K)) (m_range : mg "range" = none) :
    FnG P w K mg base CX0 3 f fd ["_law_units_here", "_law_grain"] (sp__law_form K) := by
  refine Fun_okG F sc__law_form (ar__law_form K) (fun cdv A outer s H vs Q E hg hr h => ?_)
  obtain ⟨l, g, f, rfl, hl, g0, g1, q⟩ := h
  refine ⟨_, (pss_cons (ps_set (i := 2) sc__law_form.nd rfl (Or.inl rfl) (pe_lst pa_nil))
    (pss_cons (ps_for PassesOwn.never rfl (pi_range1 rfl m_range (pa_cons (pv 1) pa_nil)) (pg_name (i := 3) sc__law_form.nd rfl (Or.inl rfl)) (pss_one (ps_if (pt_cmpR (inK (K := K) rfl) (pv 3) (pv 0) rfl) (pss_one (ps_if (PW.pt (pw_and (pt_cmpR (neK (K := K) rfl (room_u hr)) (pv 2) (pe_lst pa_nil) (nomark _)) (pw_and1 (pt_cmpR op_eq (pe_ix (ixK (K := K) rfl) (pe_ix (ixK (K := K) rfl) (pv 2) (pe_un un_neg pe_int) (fun _ _ => rfl)) pe_int (fun _ _ => rfl)) (pv 3) (nomark _))))) (pss_one (ps_asg (pe_tup (pa_cons (pe_ix (ixK (K := K) rfl) (pe_ix (ixK (K := K) rfl) (pv 2) (pe_un un_neg pe_int) (fun _ _ => rfl)) pe_int (fun _ _ => rfl)) (pa_cons (pe_op op_add (pv 3) pe_int) pa_nil))) (pg_sub (pv 2) (pe_un un_neg pe_int) set_list))) (pss_one (ps_expr (pe_bm PySem.F.plainAttrs_list PySem.F.slot_list_append PySem.F.type_list_append mt_append (pv 2) (pa_cons (pe_tup (pa_cons (pv 3) (pa_cons (pe_op op_add (pv 3) pe_int) pa_nil))) pa_nil)))))) pss_nil)))
    (pss_one (ps_ret (pe_lc (own := [("_law_low", 4), ("_law_high", 5)]) (g := gTup K 2 (gCons (gName 4) (gCons (gName 5) gNil))) rfl sc__law_form.nd (piL (K := K) rfl (pv 2)) (blkOk_by (own := [("_law_low", 4), ("_law_high", 5)]) (N := N__law_form) (sc := defScope S__law_form) (by decide +kernel)) (fun _ _ _ _ _ => (pgT rfl rfl (pgs_cons (pg_name (i := 4) sc__law_form.nd rfl (Or.inl rfl)) (pgs_cons (pg_name (i := 5) sc__law_form.nd rfl (Or.inl rfl)) pgs_nil)))) (fun _ _ _ _ _ => pts_nil) (fun _ _ _ _ _ => (pe_tup (pa_cons (pe_c C__law_lowest hg (hr.mono (by decide)) rfl (pa_cons (pv 4) (pa_cons (pv 1) pa_nil))) (pa_cons (pe_c C__law_lowest hg (hr.mono (by decide)) rfl (pa_cons (pv 5) (pa_cons (pv 1) pa_nil))) pa_nil))))))))), ?_⟩
  walk_at "rd_4"
  rename_i p0 J0 np0 sJ0 eJ0
  have hl0 := sJ0 _ _ hl
  have nl : l ≠ p0 := ne_of_none hl np0
  refine lp_rng (fun i σ' M => ∃ (rs : List V) (o3 o4 o5 : Option V), σ' = [some (.ref l), some (.int (g : Int)), some (.ref p0), o3, o4, o5] ∧ M p0 = some (.lst rs.reverse) ∧ PrsAt M rs (rruns f i) ∧ Kp p0 J0 M ∧ rs.length ≤ i)
    ⟨[], none, none, none, rfl, eJ0, .nil, Kp.refl, Nat.le_refl _⟩ (fun i σ M hi w => ?_) (fun σ M w => ?_)
  · obtain ⟨rs, o3, o4, o5, rfl, hp, pr, kp, le⟩ := w
    have ig : i < g := by
      rw [Int.toNat_natCast] at hi
      exact hi
    have hlM : M l = some (.lst (((List.range g).filter f).map nV)) := kp _ _ nl hl0
    walk_at "rd_4"
    refine ⟨l, _, rfl, .inl (SqL.of hlM), rfl, unit_flat _, ?_⟩
    rw [show (0 : Int) + (i : Int) = (i : Int) from Int.zero_add _]
    walk_at "rd_4"
    rw [if_neg Bool.false_ne_true, unit_in f ig]
    have succ := rruns_succ f i
    cases hf : f i with
    | false =>
      rw [hf, if_neg Bool.false_ne_true] at succ
      refine iteF ?_
      walk_at "rd_4"
      exact ⟨rs, _, _, _, rfl, hp, by rw [succ]; exact pr, kp, by omega⟩
    | true =>
      rw [hf, if_pos rfl] at succ
      refine iteT ?_
      walk_at "rd_4"
      rename_i p1 J1 n1 s1 e1
      have hp1 := s1 _ _ hp
      have pr1 := pr.mono fun c xs h => s1 _ _ h
      have kp1 : Kp p0 J0 J1 := kp.trans (Kp.of s1)
      have len := pr.len
      refine rd_neNil hp1 pr1.rev e1 ?_
      have app : ∀ (c : Addr) (J3 : Hp), Same J1 J3 → J3 c = some (.tup [.int (i : Int), .int ((i : Int) + 1)]) → (∀ lo hi t, rruns f i = (lo, hi) :: t → hi ≠ i) → ∀ J4, Pu p0 J3 J4 → J4 p0 = some (.lst (rs.reverse ++ [.ref c])) →
          ∃ (rs' : List V), J4 p0 = some (.lst rs'.reverse) ∧ PrsAt J4 rs' (rruns f (i + 1)) ∧ Kp p0 J0 J4 ∧ rs'.length ≤ i + 1 := fun c J3 s3 e3 no J4 p4 e4 => by
        refine ⟨.ref c :: rs, by rw [List.reverse_cons]; exact e4, ?_, fun a o ne e => p4.1 a o ne (s3 _ _ (kp1 a o ne e)), by simpa using le⟩
        have e : rruns f (i + 1) = (i, i + 1) :: rruns f i := by
          rw [succ]
          cases ez : rruns f i with
          | nil => rfl
          | cons r t =>
            obtain ⟨lo, hi⟩ := r
            exact if_neg (no lo hi t ez)
        rw [e]
        exact .cons (p4.tup (by rw [e3]; rfl)) (pr1.mono fun c xs h => p4.tup (s3 _ _ h))
      generalize rruns f i = R at pr pr1 succ app
      cases pr with
      | nil =>
        walk_at "rd_4"
        refine iteF ?_
        refine iteF ?_
        walk_at "rd_4"
        rename_i c J3 n3 s3 e3 J4 p4 e4
        obtain ⟨rs', a1, a2, a3, a4⟩ := app c J3 s3 e3 (fun lo hi t z => by cases z) J4 p4 e4
        exact ⟨rs', _, _, _, rfl, a1, a2, a3, a4⟩
      | @cons c0 t0 lo hi ps h t =>
        cases pr1 with
        | @cons _ _ _ _ _ h1 t1 =>
        have hp2 : J1 p0 = some (.lst (t0.reverse ++ [.ref c0])) := by rw [← List.reverse_cons]; exact hp1
        rw [decide_eq_false (show ¬ (V.ref c0 :: t0).reverse = [] by simp)]
        walk_at "rd_4"
        refine iteT ?_
        walk_at "rd_4"
        refine rd_last hp2 ?_
        walk_at "rd_4"
        refine rd_if (fun c => ?_) (fun c => ?_)
        · have hi' : hi = i := by omega
          walk_at "rd_4"
          refine rd_last hp2 ?_
          walk_at "rd_4"
          rename_i c2 J3 n3 s3 e3
          refine rd_setLast (s3 _ _ hp2) fun J4 p4 e4 => ?_
          refine ⟨.ref c2 :: t0, _, _, _, rfl, by rw [List.reverse_cons]; exact e4, ?_, fun a o ne e => p4.1 a o ne (s3 _ _ (kp1 a o ne e)), by simp at le ⊢; omega⟩
          rw [succ]
          show PrsAt J4 (.ref c2 :: t0) (if hi = i then (lo, i + 1) :: ps else (i, i + 1) :: (lo, hi) :: ps)
          rw [if_pos hi']
          exact .cons (p4.tup e3) (t1.mono fun c xs h => p4.tup (s3 _ _ h))
        · have hi' : hi ≠ i := fun z => c (by rw [z])
          walk_at "rd_4"
          rename_i c2 J3 n3 s3 e3
          refine rd_appK (s3 _ _ hp1) (by rw [List.length_reverse]; omega) fun J4 p4 e4 => ?_
          obtain ⟨rs', a1, a2, a3, a4⟩ := app c2 J3 s3 e3 (fun lo' hi'' t z => by cases z; exact hi') J4 p4 e4
          walk_at "rd_4"
          exact ⟨rs', _, _, _, rfl, a1, a2, a3, a4⟩
  · obtain ⟨rs, o3, o4, o5, rfl, hp, pr, kp, le⟩ := w
    rw [Int.toNat_natCast] at pr le
    have ok := rruns_ok f g
    walk_at "rd_4"
    intro D nD
    have prv := pr.rev
    have hs0 : ∀ J, Kp D M J → ∀ c xs, M c = some (.tup xs) → J c = some (.tup xs) := fun J k c xs h => k c _ (ne_of_none h nD) h
    refine lc_growL (fun ys J => ∃ ss, SnsAt K J ys ss ∧ SnsOf g ((rruns f g).reverse.take ys.length) ss) hp (by rw [List.length_reverse]; omega) nD (fun J k => ⟨[], .nil, by rw [List.length_nil, List.take_zero]; exact .nil⟩) (fun i x ys J hx i5 hy k hD p => ?_) fun ys J hy k hD p => ?_
    · obtain ⟨c, lo, hi, rfl, hpi, hc⟩ := prv.get hx
      obtain ⟨ss, sa, so⟩ := p
      have hcJ : J c = some (.tup [.int lo, .int hi]) := hs0 J k _ _ hc
      have hm : (lo, hi) ∈ rruns f g := List.mem_reverse.mp (List.mem_of_getElem? hpi)
      have h1 := ok.bnd _ hm
      have h2 := ok.pos _ hm
      have h1' : hi ≤ g := h1
      have h2' : lo < hi := h2
      have bg : Bd 8000 (g : Int) := Bd.mono (m := 10) (by unfold Bd; omega) (by decide)
      walk_at "rd_4"
      refine ⟨rfl, ?_⟩
      walk_at "rd_4"
      refine ⟨lo, g, rfl, by omega, bg, fun x1 y1 q1 M1 low1 nq1 t1 e1 => ?_⟩
      walk_at "rd_4"
      refine ⟨hi, g, rfl, by omega, bg, fun x2 y2 q2 M2 low2 nq2 t2 e2 => ?_⟩
      walk_at "rd_4"
      rename_i z M3 nz t3 e3
      have tt : Same J M3 := Same.trans t1 (Same.trans t2 t3)
      refine lcEnd_mk (tt _ _ hD) hy i5 (k.trans (Kp.of tt)) fun J4 p4 e4 => ?_
      have ra : Ra K J4 q1 x1 y1 := ⟨SqT.of (p4.tup (t3 _ _ (t2 _ _ e1))), low1.1, low1.2.1, Bd.mono (m := 10) (by have := low1.2.2.2.1; unfold Bd; omega) (by decide), Bd.mono (m := 10) (by have := low1.2.2.2.2; unfold Bd; omega) (by decide)⟩
      have rb : Ra K J4 q2 x2 y2 := ⟨SqT.of (p4.tup (t3 _ _ e2)), low2.1, low2.2.1, Bd.mono (m := 10) (by have := low2.2.2.2.1; unfold Bd; omega) (by decide), Bd.mono (m := 10) (by have := low2.2.2.2.2; unfold Bd; omega) (by decide)⟩
      refine ⟨ss ++ [⟨x1, y1, x2, y2⟩], (sa.mono fun p xs h => sqt_pu p4 (sqt_same tt h)).snoc ⟨z, q1, q2, rfl, SqT.of (p4.tup e3), ra, rb⟩, ?_⟩
      have et : (rruns f g).reverse.take (ys ++ [V.ref z]).length = (rruns f g).reverse.take ys.length ++ [(lo, hi)] := by
        rw [List.length_append, List.length_singleton, hy, List.take_add_one, hpi]
        rfl
      rw [et]
      exact so.snoc low1 low2
    · obtain ⟨ss, sa, so⟩ := p
      have back : ∀ a o, H a = some o → M a = some o ∧ a ≠ p0 := fun a o e => ⟨kp a o (ne_of_none e np0) (sJ0 _ _ e), ne_of_none e np0⟩
      have hDn : H D = none := by
        cases e : H D with
        | none => rfl
        | some o => cases nD.symm.trans (back D o e).1
      have lenR : rs.length = (rruns f g).length := pr.len
      rw [hy, List.length_reverse, lenR, ← List.length_reverse, List.take_length] at so
      exact q D J ys ss hDn (fun a o e => k a o (ne_of_none (back a o e).1 nD) (back a o e).1) hD sa so (by rw [hy, List.length_reverse]; omega)

theorem one_lit' : Bd 1000 1 := Bd.lit (by decide +kernel)
theorem zero_lit' : Bd 1000 0 := Bd.lit (by decide +kernel)
def sp_lowest (K : PySem.W.Frag) : Sp := fun vs H Q _ => ∃ t u : Int, vs = [.int t, .int u] ∧ u ≠ 0 ∧ Bd 8000 u ∧ ∀ x y p J, IsLow t u x y → H p = none → Same H J → J p = some (.tup [.int x, .int y]) → Q (.ref p) J
theorem ar_lowest (K : PySem.W.Frag) : ∀ vs H Q E, sp_lowest K vs H Q E → vs.length = 2 := by
  intro vs H Q E h
  obtain ⟨b, n, rfl, _⟩ := h
  rfl
abbrev S_lowest : Stmt := top 3
abbrev N_lowest : List Str := ["top", "under", "divisor"]
theorem sc_lowest : FnScope N_lowest ["top", "under"] (defScope S_lowest) := ⟨rfl, rfl, rfl, by decide +kernel, rfl, by decide +kernel, by decide +kernel⟩
theorem ok_lowest {P : Program} {w : World} {K : PySem.W.Frag} {mg : Str → Option Value} {base : Heap} {f : Addr} {fd : FuncData} (F : Fun K "lowest" "lowest" S_lowest f fd) (c_gcd : mg "gcd" = some (.builtin "math.gcd")) :
    FnG P w K mg base CX0 1 f fd ["top", "under"] (sp_lowest K) := by
  refine Fun_okG F sc_lowest (ar_lowest K) (fun cdv A outer s H vs Q E hg hr h => ?_)
  obtain ⟨t, u, rfl, u0, hu, q⟩ := h
  refine ⟨_, (pss_cons (ps_set (i := 2) sc_lowest.nd rfl (Or.inl rfl) (pe_ifExp (pt_cmpR op_gt (pv 1) pe_int (nomark _)) (pe_callBfun cr_gcd rfl c_gcd (pa_cons (pv 0) (pa_cons (pv 1) pa_nil))) (pe_un un_neg (pe_callBfun cr_gcd rfl c_gcd (pa_cons (pv 0) (pa_cons (pv 1) pa_nil))))))
    (pss_one (ps_ret (pe_tup (pa_cons (pe_op op_dv (pv 0) (pv 2)) (pa_cons (pe_op op_dv (pv 1) (pv 2)) pa_nil)))))), ?_⟩
  have eg : ((Nat.gcd t.natAbs u.natAbs : Nat) : Int) = ((Int.gcd t u : Nat) : Int) := rfl
  walk_at "rd_4"
  refine rd_if (fun c => ?_) (fun c => ?_)
  · walk_at "rd_4"
    rw [eg]
    obtain ⟨h1, h2, h3⟩ := low_at (t := t) u0 (s := ((Int.gcd t u : Nat) : Int)) (by rw [if_neg (by omega)])
    have hb := hu.le h3
    refine rd_I (rd_dvB _ h2 hb) ?_
    walk_at "rd_4"
    refine rd_I (rd_dvB _ h2 hb) ?_
    walk_at "rd_4"
    rename_i p J np sJ eJ
    exact q _ _ _ _ h1 np sJ eJ
  · walk_at "rd_4"
    rw [eg]
    obtain ⟨h1, h2, h3⟩ := low_at (t := t) u0 (s := -((Int.gcd t u : Nat) : Int)) (by rw [if_pos (by omega)])
    have hb := hu.le h3
    refine rd_I (rd_dvB _ h2 hb) ?_
    walk_at "rd_4"
    refine rd_I (rd_dvB _ h2 hb) ?_
    walk_at "rd_4"
    rename_i p J np sJ eJ
    exact q _ _ _ _ h1 np sJ eJ
def sp_plus (K : PySem.W.Frag) : Sp := fun vs H Q _ => ∃ (p q : Addr) (x y u v : Int), vs = [.ref p, .ref q] ∧ SqT K H p [.int x, .int y] ∧ SqT K H q [.int u, .int v] ∧ 0 < y ∧ 0 < v ∧ Bd 3000 x ∧ Bd 3000 y ∧ Bd 3000 u ∧ Bd 3000 v ∧
  ∀ m n z J, IsLow (x * v + u * y) (y * v) m n → H z = none → Same H J → J z = some (.tup [.int m, .int n]) → Q (.ref z) J
theorem ar_plus (K : PySem.W.Frag) : ∀ vs H Q E, sp_plus K vs H Q E → vs.length = 2 := by
  intro vs H Q E h
  obtain ⟨p, q, x, y, u, v, rfl, _⟩ := h
  rfl
abbrev S_plus : Stmt := top 4
abbrev N_plus : List Str := ["one", "other"]
theorem sc_plus : FnScope N_plus ["one", "other"] (defScope S_plus) := ⟨rfl, rfl, rfl, by decide +kernel, rfl, by decide +kernel, by decide +kernel⟩
theorem ok_plus {P : Program} {w : World} {K : PySem.W.Frag} {mg : Str → Option Value} {base : Heap} {f : Addr} {fd : FuncData} (F : Fun K "plus" "plus" S_plus f fd) {f_lowest : Addr} {fd_lowest : FuncData} (C_lowest : Cal P w K mg base "lowest" 1 f_lowest fd_lowest ["top", "under"] (sp_lowest K)) :
    FnG P w K mg base CX0 2 f fd ["one", "other"] (sp_plus K) := by
  refine Fun_okG F sc_plus (ar_plus K) (fun cdv A outer s H vs Q E hg hr h => ?_)
  obtain ⟨p, q, x, y, u, v, rfl, hp, hq, y0, v0, bx, by', bu, bv, k⟩ := h
  refine ⟨_, (pss_one (ps_ret (pe_c C_lowest hg (hr.mono (by decide)) rfl (pa_cons (pe_op op_add (pe_op op_ml (pe_ix (ixK (K := K) rfl) (pv 0) pe_int (fun _ _ => rfl)) (pe_ix (ixK (K := K) rfl) (pv 1) pe_int (fun _ _ => rfl))) (pe_op op_ml (pe_ix (ixK (K := K) rfl) (pv 1) pe_int (fun _ _ => rfl)) (pe_ix (ixK (K := K) rfl) (pv 0) pe_int (fun _ _ => rfl)))) (pa_cons (pe_op op_ml (pe_ix (ixK (K := K) rfl) (pv 0) pe_int (fun _ _ => rfl)) (pe_ix (ixK (K := K) rfl) (pv 1) pe_int (fun _ _ => rfl))) pa_nil))))), ?_⟩
  walk_at "rd_4"
  have h0 := Int.mul_pos y0 v0
  exact ⟨_, _, rfl, by omega, (by'.mul bv).mono (by decide), k⟩
def sp_minus (K : PySem.W.Frag) : Sp := fun vs H Q _ => ∃ (p q : Addr) (x y u v : Int), vs = [.ref p, .ref q] ∧ SqT K H p [.int x, .int y] ∧ SqT K H q [.int u, .int v] ∧ 0 < y ∧ 0 < v ∧ Bd 3000 x ∧ Bd 3000 y ∧ Bd 3000 u ∧ Bd 3000 v ∧
  ∀ m n z J, IsLow (x * v - u * y) (y * v) m n → H z = none → Same H J → J z = some (.tup [.int m, .int n]) → Q (.ref z) J
theorem ar_minus (K : PySem.W.Frag) : ∀ vs H Q E, sp_minus K vs H Q E → vs.length = 2 := by
  intro vs H Q E h
  obtain ⟨p, q, x, y, u, v, rfl, _⟩ := h
  rfl
abbrev S_minus : Stmt := top 5
abbrev N_minus : List Str := ["one", "other"]
theorem sc_minus : FnScope N_minus ["one", "other"] (defScope S_minus) := ⟨rfl, rfl, rfl, by decide +kernel, rfl, by decide +kernel, by decide +kernel⟩
theorem ok_minus {P : Program} {w : World} {K : PySem.W.Frag} {mg : Str → Option Value} {base : Heap} {f : Addr} {fd : FuncData} (F : Fun K "minus" "minus" S_minus f fd) {f_lowest : Addr} {fd_lowest : FuncData} (C_lowest : Cal P w K mg base "lowest" 1 f_lowest fd_lowest ["top", "under"] (sp_lowest K)) :
    FnG P w K mg base CX0 2 f fd ["one", "other"] (sp_minus K) := by
  refine Fun_okG F sc_minus (ar_minus K) (fun cdv A outer s H vs Q E hg hr h => ?_)
  obtain ⟨p, q, x, y, u, v, rfl, hp, hq, y0, v0, bx, by', bu, bv, k⟩ := h
  refine ⟨_, (pss_one (ps_ret (pe_c C_lowest hg (hr.mono (by decide)) rfl (pa_cons (pe_op op_sub (pe_op op_ml (pe_ix (ixK (K := K) rfl) (pv 0) pe_int (fun _ _ => rfl)) (pe_ix (ixK (K := K) rfl) (pv 1) pe_int (fun _ _ => rfl))) (pe_op op_ml (pe_ix (ixK (K := K) rfl) (pv 1) pe_int (fun _ _ => rfl)) (pe_ix (ixK (K := K) rfl) (pv 0) pe_int (fun _ _ => rfl)))) (pa_cons (pe_op op_ml (pe_ix (ixK (K := K) rfl) (pv 0) pe_int (fun _ _ => rfl)) (pe_ix (ixK (K := K) rfl) (pv 1) pe_int (fun _ _ => rfl))) pa_nil))))), ?_⟩
  walk_at "rd_4"
  have h0 := Int.mul_pos y0 v0
  exact ⟨_, _, rfl, by omega, (by'.mul bv).mono (by decide), k⟩
def sp_is_less (K : PySem.W.Frag) : Sp := fun vs H Q _ => ∃ (p q : Addr) (x y u v : Int), vs = [.ref p, .ref q] ∧ SqT K H p [.int x, .int y] ∧ SqT K H q [.int u, .int v] ∧ Bd 1000 x ∧ Bd 1000 y ∧ Bd 1000 u ∧ Bd 1000 v ∧ Q (.bl (decide (x * v < u * y))) H
theorem ar_is_less (K : PySem.W.Frag) : ∀ vs H Q E, sp_is_less K vs H Q E → vs.length = 2 := by
  intro vs H Q E h
  obtain ⟨p, q, x, y, u, v, rfl, _⟩ := h
  rfl
abbrev S_is_less : Stmt := top 6
abbrev N_is_less : List Str := ["one", "other"]
theorem sc_is_less : FnScope N_is_less ["one", "other"] (defScope S_is_less) := ⟨rfl, rfl, rfl, by decide +kernel, rfl, by decide +kernel, by decide +kernel⟩
theorem ok_is_less {P : Program} {w : World} {K : PySem.W.Frag} {mg : Str → Option Value} {base : Heap} {f : Addr} {fd : FuncData} (F : Fun K "is_less" "is_less" S_is_less f fd) :
    FnG P w K mg base CX0 1 f fd ["one", "other"] (sp_is_less K) := by
  refine Fun_okG F sc_is_less (ar_is_less K) (fun cdv A outer s H vs Q E hg hr h => ?_)
  obtain ⟨p, q, x, y, u, v, rfl, hp, hq, bx, by_, bu, bv, k⟩ := h
  refine ⟨_, (pss_one (ps_ret (pe_cmpR op_lt (pe_op op_ml (pe_ix (ixK (K := K) rfl) (pv 0) pe_int (fun _ _ => rfl)) (pe_ix (ixK (K := K) rfl) (pv 1) pe_int (fun _ _ => rfl))) (pe_op op_ml (pe_ix (ixK (K := K) rfl) (pv 1) pe_int (fun _ _ => rfl)) (pe_ix (ixK (K := K) rfl) (pv 0) pe_int (fun _ _ => rfl))) (nomark _)))), ?_⟩
  walk_at "rd_4"
  exact k
def sp_has (K : PySem.W.Frag) : Sp := fun vs H Q _ => ∃ (l p : Addr) (rs : List V) (ss : List Sn) (x y : Int), vs = [.ref l, .ref p] ∧ H l = some (.lst rs) ∧ SnsAt K H rs ss ∧ rs.length ≤ 500 ∧ Ra K H p x y ∧ ∀ J, Same H J → Q (.bl (ss.any (hasS x y))) J
theorem ar_has (K : PySem.W.Frag) : ∀ vs H Q E, sp_has K vs H Q E → vs.length = 2 := by
  intro vs H Q E h
  obtain ⟨l, p, rs, ss, x, y, rfl, _⟩ := h
  rfl
abbrev S_has : Stmt := top 9
abbrev N_has : List Str := ["one", "cut", "low", "high"]
theorem sc_has : FnScope N_has ["one", "cut"] (defScope S_has) := ⟨rfl, rfl, rfl, by decide +kernel, rfl, by decide +kernel, by decide +kernel⟩
theorem ok_has {P : Program} {w : World} {K : PySem.W.Frag} {mg : Str → Option Value} {base : Heap} {f : Addr} {fd : FuncData} (F : Fun K "has" "has" S_has f fd) {f_is_less : Addr} {fd_is_less : FuncData} (C_is_less : Cal P w K mg base "is_less" 1 f_is_less fd_is_less ["one", "other"] (sp_is_less K)) (m_any : mg "any" = none) :
    FnG P w K mg base CX0 2 f fd ["one", "cut"] (sp_has K) := by
  refine Fun_okG F sc_has (ar_has K) (fun cdv A outer s H vs Q E hg hr h => ?_)
  obtain ⟨l, p, rs, ss, x, y, rfl, hl, hs, hz, rp, q⟩ := h
  refine ⟨_, (pss_one (ps_ret (pe_callB (id := "any") (anyK (K := K) rfl rfl) (by rfl) m_any (by decide +kernel) (pa_cons (pe_lc (own := [("low", 2), ("high", 3)]) (g := gTup K 2 (gCons (gName 2) (gCons (gName 3) gNil))) rfl sc_has.nd (piL (K := K) rfl (pv 0)) (blkOk_by (own := [("low", 2), ("high", 3)]) (N := N_has) (sc := defScope S_has) (by decide +kernel)) (fun _ _ _ _ _ => (pgT rfl rfl (pgs_cons (pg_name (i := 2) sc_has.nd rfl (Or.inl rfl)) (pgs_cons (pg_name (i := 3) sc_has.nd rfl (Or.inl rfl)) pgs_nil)))) (fun _ _ _ _ _ => pts_nil) (fun _ _ _ _ _ => (pe_and (pe_not (pe_c C_is_less hg (hr.mono (by decide)) rfl (pa_cons (pv 1) (pa_cons (pv 2) pa_nil)))) (pe_one (pe_c C_is_less hg (hr.mono (by decide)) rfl (pa_cons (pv 1) (pa_cons (pv 3) pa_nil))))))) pa_nil)))), ?_⟩
  have ln := hs.len
  walk_at "rd_4"
  intro D nD
  refine lc_growL (fun ys _ => ys = ((ss.map (hasS x y)).take ys.length).map V.bl) hl hz nD (fun J k => by simp) (fun i r ys J hr i5 hy k hD e => ?_) fun ys J hy k hD e => ?_
  · obtain ⟨s, es, sa⟩ := hs.get hr
    obtain ⟨c, p1, p2, rfl, hc, h1, h2⟩ := sa.mono (J := J) fun p xs h => sqt_fresh k nD h
    have rpJ : Ra K J p x y := rp.mono fun xs h => sqt_fresh k nD h
    have s1 := h1.sq
    have s2 := h2.sq
    have s3 := rpJ.sq
    have fin : ∀ bb : Bool, bb = hasS x y s → LcEnd D H (fun ys _ => ys = ((ss.map (hasS x y)).take ys.length).map V.bl) (i + 1) (.bl bb) J := fun bb eb => by
      refine lcEnd_mk hD hy i5 k fun J4 p4 e4 => ?_
      rw [List.length_append, List.length_singleton, hy, List.take_add_one, List.getElem?_map, es, List.map_append, ← hy, ← e, eb]
      rfl
    walk_at "rd_4"
    refine ⟨rfl, ?_⟩
    walk_at "rd_4"
    refine ⟨p, p1, x, y, s.x, s.y, rfl, s3, s1, rpJ.bx, rpJ.bu, h1.bx, h1.bu, ?_⟩
    walk_at "rd_4"
    refine rd_ifn (fun c => ?_) (fun c => ?_)
    · walk_at "rd_4"
      refine ⟨p, p2, x, y, s.u, s.v, rfl, s3, s2, rpJ.bx, rpJ.bu, h2.bx, h2.bu, ?_⟩
      exact fin _ (by unfold hasS; rw [decide_eq_false c]; rfl)
    · exact fin _ (by unfold hasS; rw [decide_eq_true c]; rfl)
  · walk_at "rd_4"
    have e2 : ys = (ss.map (hasS x y)).map V.bl := by
      rw [e, List.take_of_length_le]
      rw [List.length_map]
      omega
    rw [e2] at hD
    refine rd_any (bs := ss.map (hasS x y)) (SqL.of hD) ?_
    rw [List.any_map]
    exact q J fun a o h => k a o (ne_of_none h nD) h
def sp_length (K : PySem.W.Frag) : Sp := fun vs H Q _ => ∃ (l : Addr) (rs : List V) (ss : List Sn) (ps : List (Nat × Nat)) (g : Nat), vs = [.ref l] ∧ H l = some (.lst rs) ∧ SnsAt K H rs ss ∧ SnsOf g ps ss ∧ (∀ r ∈ ps, r.1 < r.2 ∧ r.2 ≤ g) ∧ tot ps ≤ g ∧ 1 ≤ g ∧ g ≤ 30 ∧
  ∀ z m n J, IsLow (tot ps : Int) (g : Int) m n → Same H J → SqT K J z [.int m, .int n] → Q (.ref z) J
theorem ar_length (K : PySem.W.Frag) : ∀ vs H Q E, sp_length K vs H Q E → vs.length = 1 := by
  intro vs H Q E h
  obtain ⟨l, rs, ss, ps, g, rfl, _⟩ := h
  rfl
theorem SnsOf.get {g : Nat} : ∀ {ps : List (Nat × Nat)} {ss : List Sn} {i : Nat} {s : Sn}, SnsOf g ps ss → ss[i]? = some s → ∃ lo hi, ps[i]? = some (lo, hi) ∧ IsLow (lo : Int) (g : Int) s.x s.y ∧ IsLow (hi : Int) (g : Int) s.u s.v
  | _, _, _, _, .nil, e => by simp at e
  | _, _, 0, _, .cons h k t, e => by
    cases Option.some.inj (show some _ = some _ from e)
    exact ⟨_, _, rfl, h, k⟩
  | _, _, i + 1, _, .cons h k t, e => t.get (i := i) e
theorem SnsOf.len {g : Nat} : ∀ {ps : List (Nat × Nat)} {ss : List Sn}, SnsOf g ps ss → ps.length = ss.length
  | _, _, .nil => rfl
  | _, _, .cons _ _ t => congrArg (· + 1) t.len
theorem tot_take {ps : List (Nat × Nat)} {i lo hi : Nat} (h : ps[i]? = some (lo, hi)) : tot (ps.take (i + 1)) = tot (ps.take i) + (hi - lo) := by
  rw [List.take_add_one, h, tot_append]
  simp [tot]
theorem tot_take_le (ps : List (Nat × Nat)) (i : Nat) : tot (ps.take i) ≤ tot ps := by
  have h : tot ps = tot (ps.take i) + tot (ps.drop i) := by rw [← tot_append, List.take_append_drop]
  omega
abbrev S_length : Stmt := top 8
abbrev N_length : List Str := ["one", "total", "low", "high"]
theorem sc_length : FnScope N_length ["one"] (defScope S_length) := ⟨rfl, rfl, rfl, by decide +kernel, rfl, by decide +kernel, by decide +kernel⟩
theorem ok_length {P : Program} {w : World} {K : PySem.W.Frag} {mg : Str → Option Value} {base : Heap} {f : Addr} {fd : FuncData} (F : Fun K "length" "length" S_length f fd) {f_plus : Addr} {fd_plus : FuncData} (C_plus : Cal P w K mg base "plus" 2 f_plus fd_plus ["one", "other"] (sp_plus K)) {f_minus : Addr} {fd_minus : FuncData} (C_minus : Cal P w K mg base "minus" 2 f_minus fd_minus ["one", "other"] (sp_minus K)) {z_ZERO : Addr} (c_ZERO : TupC K mg "ZERO" z_ZERO [V.int 0, V.int 1]) :
    FnG P w K mg base CX0 3 f fd ["one"] (sp_length K) := by
  refine Fun_okG F sc_length (ar_length K) (fun cdv A outer s H vs Q E hg hr h => ?_)
  obtain ⟨l, rs, ss, ps, g, rfl, hl, hs, ho, hb, ht, g0, g1, q⟩ := h
  refine ⟨_, (pss_cons (ps_set (i := 1) sc_length.nd rfl (Or.inl rfl) (pe_glob (v := V.ref z_ZERO) (u := Value.ref z_ZERO) rfl c_ZERO.m rfl))
    (pss_cons (ps_for PassesOwn.never rfl (piL (K := K) rfl (pv 0)) (pgT (K := K) rfl rfl (pgs_cons (pg_name (i := 2) sc_length.nd rfl (Or.inl rfl)) (pgs_cons (pg_name (i := 3) sc_length.nd rfl (Or.inl rfl)) pgs_nil))) (pss_one (ps_set (i := 1) sc_length.nd rfl (Or.inl rfl) (pe_c C_plus hg (hr.mono (by decide)) rfl (pa_cons (pv 1) (pa_cons (pe_c C_minus hg (hr.mono (by decide)) rfl (pa_cons (pv 3) (pa_cons (pv 2) pa_nil))) pa_nil))))))
    (pss_one (ps_ret (pv 1))))), ?_⟩
  have ln := hs.len
  have ln2 := ho.len
  walk_at "rd_4"
  refine lp_lst (xs := rs) (fun i σ' M => ∃ (z : Addr) (m n : Int) (o2 o3 : Option V), σ' = [some (.ref l), some (.ref z), o2, o3] ∧ SqT K M z [.int m, .int n] ∧ IsLow (tot (ps.take i) : Int) (g : Int) m n ∧ Same H M)
    ⟨z_ZERO, 0, 1, none, none, rfl, c_ZERO.sq H, by rw [List.take_zero]; exact ⟨by decide, by decide, by show (0 : Int) * g = (0 : Nat) * 1; simp, by decide, by show (1 : Nat) ≤ (g : Int).natAbs; omega⟩, fun _ _ e => e⟩
    (fun i σ M _ w => ?_) (fun i r σ M hr w => ?_) (fun σ M w => ?_)
  · obtain ⟨z, m, n, o2, o3, rfl, hz, lz, sM⟩ := w
    exact SqL.of (sM _ _ hl)
  · obtain ⟨z, m, n, o2, o3, rfl, hz, lz, sM⟩ := w
    obtain ⟨s, es, sa⟩ := hs.get hr
    obtain ⟨lo, hi, ep, la, lb⟩ := ho.get es
    obtain ⟨c, p1, p2, rfl, hc, h1, h2⟩ := sa.mono (J := M) fun p xs h => sqt_same sM h
    have s1 := h1.sq
    have s2 := h2.sq
    obtain ⟨hm1, hm2⟩ := hb _ (List.mem_of_getElem? ep)
    have hm1' : lo < hi := hm1
    have hm2' : hi ≤ g := hm2
    walk_at "rd_4"
    refine ⟨p2, p1, s.u, s.v, s.x, s.y, rfl, s2, s1, h2.pos, h1.pos, h2.bx.mono (by decide), h2.bu.mono (by decide), h1.bx.mono (by decide), h1.bu.mono (by decide), fun m1 n1 z1 J1 low1 nz1 sJ1 ez1 => ?_⟩
    have d1 := dif_form la.2.2.1 lb.2.2.1 la.1 lb.1 low1.2.2.1
    have l1 : IsLow ((hi : Int) - lo) (g : Int) m1 n1 := low_of low1.1 low1.2.1 d1 (by omega)
    have tl := tot_take_le ps i
    have bm : ∀ {t a b : Int}, IsLow t (g : Int) a b → t.natAbs ≤ 60 → Bd 10 a ∧ Bd 10 b := fun h k => ⟨by have := h.2.2.2.1; unfold Bd; omega, by have := h.2.2.2.2; unfold Bd; omega⟩
    obtain ⟨c1, c2⟩ := bm lz (by omega)
    obtain ⟨c3, c4⟩ := bm l1 (by omega)
    walk_at "rd_4"
    refine ⟨z, z1, m, n, m1, n1, rfl, sqt_same sJ1 hz, SqT.of ez1, lz.1, l1.1, c1.mono (by decide), c2.mono (by decide), c3.mono (by decide), c4.mono (by decide), fun m2 n2 z2 J2 low2 nz2 sJ2 ez2 => ?_⟩
    have d2 := sum_form lz.2.2.1 d1 lz.1 l1.1 low2.2.2.1
    walk_at "rd_4"
    refine ⟨z2, m2, n2, _, _, rfl, SqT.of ez2, ?_, Same.trans sM (Same.trans sJ1 sJ2)⟩
    rw [tot_take ep]
    have ec : ((tot (ps.take i) + (hi - lo) : Nat) : Int) = (tot (ps.take i) : Int) + ((hi : Int) - lo) := by omega
    rw [ec]
    exact low_of low2.1 low2.2.1 d2 (by omega)
  · obtain ⟨z, m, n, o2, o3, rfl, hz, lz, sM⟩ := w
    rw [ln, ← ln2, List.take_length] at lz
    walk_at "rd_4"
    exact q z m n M lz sM hz

def sp__law_near (K : PySem.W.Frag) : Sp := fun vs H Q _ => ∃ (b : Addr) (u : Int) (g : Nat), vs = [.ref b, .int u, .int (g : Int)] ∧ Bag b H ∧ 0 ≤ u ∧ u < g ∧ g ≤ 30 ∧
  ∀ p x y fine off J, IsLow (u * fine + off) ((g : Int) * fine) x y → 0 < fine → 0 ≤ off → off < fine → Ra K J p x y → Kp b H J → Bag b J → Q (.ref p) J
theorem ar__law_near (K : PySem.W.Frag) : ∀ vs H Q E, sp__law_near K vs H Q E → vs.length = 3 := by
  intro vs H Q E h
  obtain ⟨b, u, g, rfl, _⟩ := h
  rfl
abbrev S__law_near : Stmt := top 18
abbrev N__law_near : List Str := ["_law_bag_here", "_law_unit", "_law_grain", "_law_fine", "_law_off"]
theorem sc__law_near : FnScope N__law_near ["_law_bag_here", "_law_unit", "_law_grain"] (defScope S__law_near) := ⟨rfl, rfl, rfl, by decide +kernel, rfl, by decide +kernel, by decide +kernel⟩
theorem ok__law_near {P : Program} {w : World} {K : PySem.W.Frag} {mg : Str → Option Value} {base : Heap} {f : Addr} {fd : FuncData} (F : Fun K "_law_near" "_law_near" S__law_near f fd) {f__law_lowest : Addr} {fd__law_lowest : FuncData} (C__law_lowest : Cal P w K mg base "_law_lowest" 2 f__law_lowest fd__law_lowest ["_law_top", "_law_under"] (sp__law_lowest K)) {f__law_take : Addr} {fd__law_take : FuncData} (C__law_take : Cal P w K mg base "_law_take" 1 f__law_take fd__law_take ["_law_bag_here", "_law_size"] (sp__law_take K)) :
    FnG P w K mg base CX0 3 f fd ["_law_bag_here", "_law_unit", "_law_grain"] (sp__law_near K) := by
  refine Fun_okG F sc__law_near (ar__law_near K) (fun cdv A outer s H vs Q E hg hr h => ?_)
  obtain ⟨b, u, g, rfl, hb, u0, u1, g1, q⟩ := h
  refine ⟨_, (pss_cons (ps_set (i := 3) sc__law_near.nd rfl (Or.inl rfl) (pe_ix (ixK (K := K) rfl) (pe_lst (pa_cons pe_int (pa_cons pe_int (pa_cons (pe_op op_pow pe_int pe_int) pa_nil)))) (pe_c C__law_take hg (hr.mono (by decide)) rfl (pa_cons (pv 0) (pa_cons pe_int pa_nil))) (fun _ _ => rfl)))
    (pss_cons (ps_set (i := 4) sc__law_near.nd rfl (Or.inl rfl) (pe_ix (ixK (K := K) rfl) (pe_lst (pa_cons pe_int (pa_cons pe_int (pa_cons (pe_op op_sub (pv 3) pe_int) pa_nil)))) (pe_c C__law_take hg (hr.mono (by decide)) rfl (pa_cons (pv 0) (pa_cons pe_int pa_nil))) (fun _ _ => rfl)))
    (pss_one (ps_ret (pe_c C__law_lowest hg (hr.mono (by decide)) rfl (pa_cons (pe_op op_add (pe_op op_ml (pv 1) (pv 3)) (pv 4)) (pa_cons (pe_op op_ml (pv 2) (pv 3)) pa_nil))))))), ?_⟩
  walk_at "rd_4"
  refine ⟨b, 3, rfl, by walk_at "hp_4", by decide, by decide, fun r1 J1 r1a r1b k1 gb1 => ?_⟩
  refine rd_pick (xs := ?xs) ?h r1a ?l fun v hv => ?_
  case h => walk_at "hp_4"
  case l => exact r1b
  simp only [List.mem_cons, List.not_mem_nil, or_false] at hv
  obtain ⟨fine, rfl, f0, f1⟩ : ∃ fine : Int, v = .int fine ∧ 2 ≤ fine ∧ fine ≤ 10 ^ 40 := by
    rcases hv with rfl | rfl | rfl
    · exact ⟨2, rfl, by decide, by decide⟩
    · exact ⟨3, rfl, by decide, by decide⟩
    · exact ⟨_, rfl, by decide, by decide⟩
  walk_at "rd_4"
  refine ⟨b, 3, rfl, by walk_at "hp_4", by decide, by decide, fun r2 J2 r2a r2b k2 gb2 => ?_⟩
  refine rd_pick (xs := ?ys) ?h2 r2a ?l2 fun v hv => ?_
  case h2 => walk_at "hp_4"
  case l2 => exact r2b
  simp only [List.mem_cons, List.not_mem_nil, or_false] at hv
  obtain ⟨off, rfl, o0, o1⟩ : ∃ off : Int, v = .int off ∧ 0 ≤ off ∧ off < fine := by
    rcases hv with rfl | rfl | rfl
    · exact ⟨0, rfl, by decide, by omega⟩
    · exact ⟨1, rfl, by decide, by omega⟩
    · exact ⟨_, rfl, by omega, by omega⟩
  have bf : Bd 140 fine := by unfold Bd; omega
  have bg : Bd 10 (g : Int) := by unfold Bd; omega
  have bu : Bd 10 u := by unfold Bd; omega
  have bo : Bd 150 off := by unfold Bd; omega
  have b1 := (bu.mul bf).add bo
  have b2 := bg.mul bf
  have gp : 0 < (g : Int) := by omega
  have nz : (g : Int) * fine ≠ 0 := Int.mul_ne_zero (by omega) (by omega)
  walk_at "rd_4"
  refine ⟨_, _, rfl, nz, b2.mono (by decide), fun x y p J3 low np s3 e3 => ?_⟩
  exact q p x y fine off J3 low (by omega) o0 o1 ⟨SqT.of e3, low.1, low.2.1, (b1.le low.2.2.2.1).mono (by decide), (b2.le low.2.2.2.2).mono (by decide)⟩ (by walk_at "kp_4") (gb2.same s3)
def sp_law (K : PySem.W.Frag) : Sp := fun vs H Q _ => ∃ (a : Addr) (ns : List Int), vs = [.ref a] ∧ Scr K H a (ns.map V.int) ∧ ns.length ≤ 63 ∧ ∀ H', Q (.bl true) H'
theorem ar_law (K : PySem.W.Frag) : ∀ vs H Q E, sp_law K vs H Q E → vs.length = 1 := by
  intro vs H Q E h
  obtain ⟨a, ns, rfl, _⟩ := h
  rfl
abbrev S_law : Stmt := top 19
abbrev N_law : List Str := ["_law_script", "_law_k", "_law_bag_here", "_law_turn", "_law_grain", "_law_units_here", "_law_some", "_law_again", "_law_unit", "_law_cut"]
theorem sc_law : FnScope N_law ["_law_script"] (defScope S_law) := ⟨rfl, rfl, rfl, by decide +kernel, rfl, by decide +kernel, by decide +kernel⟩
theorem ok_law {P : Program} {w : World} {K : PySem.W.Frag} {mg : Str → Option Value} {base : Heap} {f : Addr} {fd : FuncData} (F : Fun K "law" "law" S_law f fd) {f_has : Addr} {fd_has : FuncData} (C_has : Cal P w K mg base "has" 2 f_has fd_has ["one", "cut"] (sp_has K)) {f_length : Addr} {fd_length : FuncData} (C_length : Cal P w K mg base "length" 3 f_length fd_length ["one"] (sp_length K)) {f__law_near : Addr} {fd__law_near : FuncData} (C__law_near : Cal P w K mg base "_law_near" 3 f__law_near fd__law_near ["_law_bag_here", "_law_unit", "_law_grain"] (sp__law_near K)) {f__law_lowest : Addr} {fd__law_lowest : FuncData} (C__law_lowest : Cal P w K mg base "_law_lowest" 2 f__law_lowest fd__law_lowest ["_law_top", "_law_under"] (sp__law_lowest K)) {f__law_form : Addr} {fd__law_form : FuncData} (C__law_form : Cal P w K mg base "_law_form" 3 f__law_form fd__law_form ["_law_units_here", "_law_grain"] (sp__law_form K)) {f__law_units : Addr} {fd__law_units : FuncData} (C__law_units : Cal P w K mg base "_law_units" 2 f__law_units fd__law_units ["_law_bag_here", "_law_grain"] (sp__law_units K)) {f__law_drawn_grain : Addr} {fd__law_drawn_grain : FuncData} (C__law_drawn_grain : Cal P w K mg base "_law_drawn_grain" 2 f__law_drawn_grain fd__law_drawn_grain ["_law_bag_here"] (sp__law_drawn_grain K)) {f__law_bag : Addr} {fd__law_bag : FuncData} (C__law_bag : Cal P w K mg base "_law_bag" 1 f__law_bag fd__law_bag ["_law_script", "_law_at"] (sp__law_bag K)) (m_range : mg "range" = none) (m_max : mg "max" = none) (m_min : mg "min" = none) (m_len : mg "len" = none) (m_repr : mg "repr" = none) :
    FnG P w K mg base CX0 4 f fd ["_law_script"] (sp_law K) := by
  refine Fun_okG F sc_law (ar_law K) (fun cdv A outer s H vs Q E hg hr h => ?_)
  obtain ⟨a, ns, rfl, hS, hl, q⟩ := h
  refine ⟨_, (pss_cons (ps_for PassesOwn.never rfl (pi_range1 rfl m_range (pa_cons (pe_callB (id := "max") (call_max2 rfl) (by rfl) m_max (by decide +kernel) (pa_cons pe_int (pa_cons (pe_callB (id := "min") (call_min2 rfl) (by rfl) m_min (by decide +kernel) (pa_cons pe_int (pa_cons (pe_callB (id := "len") (lenK (K := K) rfl) (by rfl) m_len (by decide +kernel) (pa_cons (pv 0) pa_nil)) pa_nil))) pa_nil))) pa_nil)) (pg_name (i := 1) sc_law.nd rfl (Or.inl rfl)) (pss_cons (ps_set (i := 2) sc_law.nd rfl (Or.inl rfl) (pe_c C__law_bag hg (hr.mono (by decide)) rfl (pa_cons (pv 0) (pa_cons (pv 1) pa_nil))))
    (pss_one (ps_for PassesOwn.never rfl (pi_range1 rfl m_range (pa_cons pe_int pa_nil)) (pg_name (i := 3) sc_law.nd rfl (Or.inl rfl)) (pss_cons (ps_set (i := 4) sc_law.nd rfl (Or.inl rfl) (pe_c C__law_drawn_grain hg (hr.mono (by decide)) rfl (pa_cons (pv 2) pa_nil)))
    (pss_cons (ps_set (i := 5) sc_law.nd rfl (Or.inl rfl) (pe_c C__law_units hg (hr.mono (by decide)) rfl (pa_cons (pv 2) (pa_cons (pv 4) pa_nil))))
    (pss_cons (ps_set (i := 6) sc_law.nd rfl (Or.inr rfl) (pe_c C__law_form hg (hr.mono (by decide)) rfl (pa_cons (pv 5) (pa_cons (pv 4) pa_nil))))
    (pss_cons (ps_if (pt_cmpR op_ne (pe_callB (id := "repr") (reprK (K := K) rfl hg (room_u hr)) (by rfl) m_repr (by decide +kernel) (pa_cons (pe_lc (own := [("_law_again", 7)]) rfl sc_law.nd (pi_range1 rfl m_range (pa_cons pe_int pa_nil)) (blkOk_by (own := [("_law_again", 7)]) (N := N_law) (sc := defScope S_law) (by decide +kernel)) (fun _ _ _ _ _ => (pg_name (i := 7) sc_law.nd rfl (Or.inl rfl))) (fun _ _ _ _ _ => pts_nil) (fun _ _ _ _ _ => (pe_c C_length hg (hr.mono (by decide)) rfl (pa_cons (pv 6) pa_nil)))) pa_nil)) (pe_callB (id := "repr") (reprK (K := K) rfl hg (room_u hr)) (by rfl) m_repr (by decide +kernel) (pa_cons (pe_op op_rep (pe_lst (pa_cons (pe_c C__law_lowest hg (hr.mono (by decide)) rfl (pa_cons (pe_callB (id := "len") (lenK (K := K) rfl) (by rfl) m_len (by decide +kernel) (pa_cons (pv 5) pa_nil)) (pa_cons (pv 4) pa_nil))) pa_nil)) pe_int) pa_nil)) (nomark _)) (pss_one (ps_ret pe_bl)) pss_nil)
    (pss_one (ps_for PassesOwn.never rfl (pi_range1 rfl m_range (pa_cons (pv 4) pa_nil)) (pg_name (i := 8) sc_law.nd rfl (Or.inl rfl)) (pss_cons (ps_set (i := 9) sc_law.nd rfl (Or.inr rfl) (pe_c C__law_near hg (hr.mono (by decide)) rfl (pa_cons (pv 2) (pa_cons (pv 8) (pa_cons (pv 4) pa_nil)))))
    (pss_one (ps_if (pt_cmpR op_ne (pe_callB (id := "repr") (reprK (K := K) rfl hg (room_u hr)) (by rfl) m_repr (by decide +kernel) (pa_cons (pe_lc (own := [("_law_again", 7)]) rfl sc_law.nd (pi_range1 rfl m_range (pa_cons pe_int pa_nil)) (blkOk_by (own := [("_law_again", 7)]) (N := N_law) (sc := defScope S_law) (by decide +kernel)) (fun _ _ _ _ _ => (pg_name (i := 7) sc_law.nd rfl (Or.inl rfl))) (fun _ _ _ _ _ => pts_nil) (fun _ _ _ _ _ => (pe_c C_has hg (hr.mono (by decide)) rfl (pa_cons (pv 6) (pa_cons (pv 9) pa_nil))))) pa_nil)) (pe_callB (id := "repr") (reprK (K := K) rfl hg (room_u hr)) (by rfl) m_repr (by decide +kernel) (pa_cons (pe_op op_rep (pe_lst (pa_cons (pe_cmpR (inK (K := K) rfl) (pv 8) (pv 5) rfl) pa_nil)) pe_int) pa_nil)) (nomark _)) (pss_one (ps_ret pe_bl)) pss_nil)))))))))))))
    (pss_one (ps_ret (pe_and (pe_cmpR (eqK (K := K) rfl (room_u hr)) (pe_c C_length hg (hr.mono (by decide)) rfl (pa_cons (pe_lst pa_nil) pa_nil)) (pe_tup (pa_cons pe_int (pa_cons pe_int pa_nil))) (nomark _)) (pe_and (pe_not (pe_c C_has hg (hr.mono (by decide)) rfl (pa_cons (pe_lst pa_nil) (pa_cons (pe_tup (pa_cons pe_int (pa_cons pe_int pa_nil))) pa_nil)))) (pe_one (pe_c C_has hg (hr.mono (by decide)) rfl (pa_cons (pe_lst (pa_cons (pe_tup (pa_cons (pe_tup (pa_cons pe_int (pa_cons pe_int pa_nil))) (pa_cons (pe_tup (pa_cons pe_int (pa_cons pe_int pa_nil))) pa_nil))) pa_nil)) (pa_cons (pe_tup (pa_cons pe_int (pa_cons pe_int pa_nil))) pa_nil))))))))), ?_⟩
  walk_at "rd_4"
  refine lp_rng (fun _ σ' H' => Scr K H' a (ns.map V.int) ∧ ∃ o1 o2 o3 o4 o5 o6 o7 o8 o9, σ' = [some (.ref a), o1, o2, o3, o4, o5, o6, o7, o8, o9]) ⟨hS, none, none, none, none, none, none, none, none, none, rfl⟩ (fun i σ1 H1 hi w => ?_) (fun σ1 H1 w => ?_)
  · obtain ⟨hS1, o1, o2, o3, o4, o5, o6, o7, o8, o9, rfl⟩ := w
    have hi2 : i < 8 ∨ i < 2 := by
      rw [List.length_map] at hi
      split at hi <;> split at hi <;> omega
    walk_at "rd_4"
    refine ⟨a, ns, _, rfl, hS1, hl, by omega, by omega, fun b J0 nb s0 g0 => ?_⟩
    have hS0 : Scr K J0 a (ns.map V.int) := hS1.same s0
    walk_at "rd_4"
    refine lp_rng (fun _ σ' H' => Scr K H' a (ns.map V.int) ∧ Bag b H' ∧ ∃ o3 o4 o5 o6 o7 o8 o9, σ' = [some (.ref a), some (.int (0 + (i : Int))), some (.ref b), o3, o4, o5, o6, o7, o8, o9]) ⟨hS0, g0, o3, o4, o5, o6, o7, o8, o9, rfl⟩ (fun j σ2 H2 hj w => ?_) (fun σ2 H2 w => ?_)
    · obtain ⟨hS2, g2, o3, o4, o5, o6, o7, o8, o9, rfl⟩ := w
      clear hi hi2 hS1 hS0 hj hl s0 g0 hS
      walk_at "rd_4"
      refine ⟨b, rfl, g2, fun g J1 gA gB k1 g1 => ?_⟩
      have hS3 := hS2.kp k1 g2
      walk_at "rd_4"
      refine ⟨b, g, rfl, g1, gB, fun l J2 f nl el k2 gb2 => ?_⟩
      have hS4 := hS3.kp k2 g1
      walk_at "rd_4"
      refine ⟨l, g, f, rfl, el, gA, gB, fun m J3 rs ss nm s3 em sa so le => ?_⟩
      have el3 := s3 _ _ el
      have gb3 := gb2.same s3
      have hS5 := hS4.same s3
      have nmb : m ≠ b := gb2.ne nm
      clear k1 k2 g1 g2 gb2 hS2 hS3 hS4 s3 nm el
      have ok := rruns_ok f g
      have hps : ∀ r ∈ (rruns f g).reverse, r.1 < r.2 ∧ r.2 ≤ g := fun r hr => ⟨ok.pos r (List.mem_reverse.mp hr), ok.bnd r (List.mem_reverse.mp hr)⟩
      have hT : tot (rruns f g).reverse = ((List.range g).filter f).length := by rw [tot_rev, rruns_tot]
      have hTg : ((List.range g).filter f).length ≤ g := by
        have := List.length_filter_le f (List.range g)
        rwa [List.length_range] at this
      obtain ⟨m0, n0, low0⟩ : ∃ m0 n0 : Int, IsLow (((List.range g).filter f).length : Int) (g : Int) m0 n0 := ⟨_, _, (low_at (t := (((List.range g).filter f).length : Int)) (u := (g : Int)) (by omega) rfl).1⟩
      have gz : (g : Int) ≠ 0 := by omega
      have bm0 : Bd 10 m0 := by have := low0.2.2.2.1; unfold Bd; omega
      have bn0 : Bd 10 n0 := by have := low0.2.2.2.2; unfold Bd; omega
      have lm0 := bm0.log
      have ln0 := bn0.log
      walk_at "rd_4"
      intro D nD
      refine lc_growR (fun ys J => ∀ y ∈ ys, ∃ z, y = .ref z ∧ SqT K J z [.int m0, .int n0]) (by decide) nD (fun J k y hy => by cases hy) (fun i ys J hi hy k hD p => ?_) fun ys J hy k hD p => ?_
      · walk_at "rd_4"
        refine ⟨rfl, ?_⟩
        walk_at "rd_4"
        refine ⟨m, rs, ss, _, g, rfl, k _ _ (ne_of_none em nD) em, sa.mono fun p xs h => sqt_fresh k nD h, so, hps, by rw [hT]; exact hTg, gA, gB, fun z x y J4 low4 s4 e4 => ?_⟩
        rw [hT] at low4
        obtain ⟨rfl, rfl⟩ := low_uniq low4 low0 gz gz rfl
        refine lcEnd_mk (s4 _ _ hD) hy (by omega) (k.trans (Kp.of s4)) fun J5 p5 e5 => ?_
        intro y hy'
        rcases List.mem_append.mp hy' with hy' | hy'
        · obtain ⟨z', e, h⟩ := p y hy'
          exact ⟨z', e, sqt_pu p5 (sqt_same s4 h)⟩
        · obtain rfl := List.mem_singleton.mp hy'
          exact ⟨z, rfl, sqt_pu p5 e4⟩
      have hy : ys.length = 2 := hy
      obtain ⟨y1, y2, rfl⟩ : ∃ y1 y2, ys = [y1, y2] := match ys, hy with | [y1, y2], _ => ⟨y1, y2, rfl⟩
      obtain ⟨z1, rfl, q1⟩ := p y1 (by simp)
      obtain ⟨z2, rfl, q2⟩ := p y2 (by simp)
      have el4 : J l = some (.lst (((List.range g).filter f).map nV)) := k _ _ (ne_of_none el3 nD) el3
      have em4 : J m = some (.lst rs) := k _ _ (ne_of_none em nD) em
      have sa4 : SnsAt K J rs ss := sa.mono fun p xs h => sqt_fresh k nD h
      have hS6 : Scr K J a (ns.map V.int) := by
        rcases hS5 with ⟨o, e⟩ | e
        · exact .inl ⟨o, k _ _ (ne_of_none e nD) e⟩
        · exact .inr e
      have gb4 : Bag b J := by
        obtain ⟨x, y, e⟩ := gb3
        exact ⟨x, y, k _ _ (ne_of_none e nD) e⟩
      clear k nD el3 em sa hS5 gb3 p
      walk_at "rd_4"
      have lz : ((((List.range g).filter f).map nV).length : Int) = (((List.range g).filter f).length : Int) := by rw [List.length_map]
      have bg : Bd 8000 (g : Int) := Bd.mono (m := 10) (by unfold Bd; omega) (by decide)
      refine ⟨_, (g : Int), rfl, gz, bg, fun x y z3 J5 low5 nz5 s5 e5 => ?_⟩
      rw [lz] at low5
      obtain ⟨rfl, rfl⟩ := low_uniq low5 low0 gz gz rfl
      have el5 := s5 _ _ el4
      have em5 := s5 _ _ em4
      have sa5 : SnsAt K J5 rs ss := sa4.mono fun p xs h => sqt_same s5 h
      have hS7 := hS6.same s5
      have gb5 := gb4.same s5
      clear s5 nz5 hD q1 q2 el4 em4 sa4 hS6 gb4
      walk_at "rd_4"
      refine iteF ?_
      walk_at "rd_4"
      rename_i p6 J6 n6 s6 e6 p7 J7 n7 s7 e7
      have s67 := Same.trans s6 s7
      have el7 := s67 _ _ el5
      have em7 := s67 _ _ em5
      have sa7 : SnsAt K J7 rs ss := sa5.mono fun p xs h => sqt_same s67 h
      have hS8 := hS7.same s67
      have gb7 := gb5.same s67
      clear s67 s6 s7 n6 n7 e6 e7 el5 em5 sa5 hS7 gb5 e5
      refine lp_rng (fun _ σ' M => Scr K M a (ns.map V.int) ∧ Bag b M ∧ M l = some (.lst (((List.range g).filter f).map nV)) ∧ M m = some (.lst rs) ∧ SnsAt K M rs ss ∧ ∃ o7 o8 o9, σ' = [some (.ref a), some (.int (0 + (i : Int))), some (.ref b), some (.int (0 + (j : Int))), some (.int (g : Int)), some (.ref l), some (.ref m), o7, o8, o9])
        ⟨hS8, gb7, el7, em7, sa7, _, _, _, rfl⟩ (fun u σ3 M hu w => ?_) (fun σ3 M w => ?_)
      · obtain ⟨hS9, gb9, el9, em9, sa9, o7, o8, o9, rfl⟩ := w
        have ug : u < g := by
          rw [Int.toNat_natCast] at hu
          exact hu
        clear hS8 gb7 el7 em7 sa7
        walk_at "rd_4"
        rw [show (0 : Int) + (u : Int) = (u : Int) from Int.zero_add _]
        refine ⟨b, (u : Int), g, rfl, gb9, by omega, by omega, gB, fun p x y fine off M1 low f0 oa ob rp k1 gb10 => ?_⟩
        have el10 := k1 _ _ nl el9
        have em10 := k1 _ _ nmb em9
        have sa10 : SnsAt K M1 rs ss := sa9.mono fun p xs h => sqt_bag k1 gb9 h
        have hS10 := hS9.kp k1 gb9
        clear k1 el9 em9 sa9 hS9 gb9
        have hf : ss.any (hasS x y) = f u := by
          rw [Bool.eq_iff_iff, has_form low (by omega) f0 oa ob so, rruns_mem f g u ug]
          constructor
          · rintro ⟨r, hr, h1, h2⟩
            exact ⟨r, List.mem_reverse.mp hr, by omega, by omega⟩
          · rintro ⟨r, hr, h1, h2⟩
            exact ⟨r, List.mem_reverse.mpr hr, by omega, by omega⟩
        walk_at "rd_4"
        intro D2 nD2
        refine lc_growR (fun ys _ => ∀ y ∈ ys, y = .bl (f u)) (by decide) nD2 (fun J k y hy => by cases hy) (fun i ys J hi hy k hD p' => ?_) fun ys J hy k hD p' => ?_
        · walk_at "rd_4"
          refine ⟨rfl, ?_⟩
          walk_at "rd_4"
          refine ⟨m, p, rs, ss, x, y, rfl, k _ _ (ne_of_none em10 nD2) em10, sa10.mono fun p xs h => sqt_fresh k nD2 h, by omega, rp.mono fun xs h => sqt_fresh k nD2 h, fun J4 s4 => ?_⟩
          rw [hf]
          refine lcEnd_mk (s4 _ _ hD) hy (by omega) (k.trans (Kp.of s4)) fun J5 p5 e5 => ?_
          intro y hy'
          rcases List.mem_append.mp hy' with hy' | hy'
          · exact p' y hy'
          · exact List.mem_singleton.mp hy'
        have hy : ys.length = 2 := hy
        obtain ⟨y1, y2, rfl⟩ : ∃ y1 y2, ys = [y1, y2] := match ys, hy with | [y1, y2], _ => ⟨y1, y2, rfl⟩
        obtain rfl := p' y1 (by simp)
        obtain rfl := p' y2 (by simp)
        have el11 := k _ _ (ne_of_none el10 nD2) el10
        have em11 := k _ _ (ne_of_none em10 nD2) em10
        have sa11 : SnsAt K J rs ss := sa10.mono fun p xs h => sqt_fresh k nD2 h
        have hS11 : Scr K J a (ns.map V.int) := by
          rcases hS10 with ⟨o, e⟩ | e
          · exact .inl ⟨o, k _ _ (ne_of_none e nD2) e⟩
          · exact .inr e
        have gb11 : Bag b J := by
          obtain ⟨x, y, e⟩ := gb10
          exact ⟨x, y, k _ _ (ne_of_none e nD2) e⟩
        clear k nD2 el10 em10 sa10 hS10 gb10 p'
        walk_at "rd_4"
        refine ⟨l, _, rfl, .inl (SqL.of el11), rfl, unit_flat _, ?_⟩
        rw [if_neg Bool.false_ne_true, unit_in f ug]
        walk_at "rd_4"
        refine iteF ?_
        walk_at "rd_4"
        rename_i p12 J12 n12 s12 e12 p13 J13 n13 s13 e13
        have s67 := Same.trans s12 s13
        exact ⟨hS11.same s67, gb11.same s67, s67 _ _ el11, s67 _ _ em11, sa11.mono fun p xs h => sqt_same s67 h, _, _, _, rfl⟩
      · obtain ⟨hS9, gb9, el9, em9, sa9, o7, o8, o9, rfl⟩ := w
        exact ⟨hS9, gb9, _, _, _, _, _, _, _, rfl⟩
    · obtain ⟨hS2, g2, o3, o4, o5, o6, o7, o8, o9, rfl⟩ := w
      exact ⟨hS2, _, _, _, _, _, _, _, _, _, rfl⟩
  · obtain ⟨hS1, o1, o2, o3, o4, o5, o6, o7, o8, o9, rfl⟩ := w
    walk_at "rd_4"
    rename_i pa Ja na sa ea
    refine ⟨pa, [], [], [], 1, rfl, ea, .nil, .nil, fun r hr => (by cases hr), by decide, by decide, by decide, fun z m n J2 low s2 hz => ?_⟩
    obtain ⟨rfl, rfl⟩ := low_uniq low (low_self (x := 0) (y := 1) (by decide) (by decide)) (by decide) (by decide) (by decide)
    walk_at "rd_4"
    refine iteT ?_
    walk_at "rd_4"
    rename_i pb Jb nb sb eb pc Jc nc sc ec pd Jd nd sd ed
    refine ⟨pc, pd, [], [], 0, 1, rfl, sd _ _ ec, .nil, by decide, ⟨SqT.of ed, by decide, by decide, Bd.lit (by decide +kernel), Bd.lit (by decide +kernel)⟩, fun J3 s3 => ?_⟩
    walk_at "rd_4"
    refine iteT ?_
    walk_at "rd_4"
    rename_i pe Je ne se ee pf Jf nf sf ef pg Jg ng sg eg ph Jh nh sh eh pi Ji ni si ei
    have r1 : Ra K Ji pe 0 1 := ⟨SqT.of (si _ _ (sh _ _ (sg _ _ (sf _ _ ee)))), by decide, by decide, Bd.lit (by decide +kernel), Bd.lit (by decide +kernel)⟩
    have r2 : Ra K Ji pf 1 1 := ⟨SqT.of (si _ _ (sh _ _ (sg _ _ ef))), by decide, by decide, Bd.lit (by decide +kernel), Bd.lit (by decide +kernel)⟩
    have st : SnsAt K Ji [.ref pg] [⟨0, 1, 1, 1⟩] := .cons ⟨pg, pe, pf, rfl, SqT.of (si _ _ (sh _ _ eg)), r1, r2⟩ .nil
    refine ⟨ph, pi, _, _, 1, 2, rfl, si _ _ eh, st, Nat.le_of_ble_eq_true rfl, ⟨SqT.of ei, by decide, by decide, Bd.lit (by decide +kernel), Bd.lit (by decide +kernel)⟩, fun J4 s4 => ?_⟩
    exact q _

theorem all_mk {l : PySem.W.OpenLaw} {w : World} {K : PySem.W.Frag} {h : Heap} {mg : Str → Option Value} {fa : Addr} (X : K.In h) (G : h.Ns mainGlobals mg) (hfa : mg "law" = some (.ref fa))
    {f0 : Addr} {od0 an0 : Option Addr} {sl0 : Array (Option Value)} {oc0 kV0 dc0 pm0 cd0 ct0 : Value}
    (a0 : PySem.W.nsIn K mainGlobals "_law_bag" = some (some (.ref f0))) (l0 : K.lookup f0 = some ⟨oc0, od0, .func (PySem.W.fnOf "_law_bag" "_law_bag" (defArgs S__law_bag) (defBody S__law_bag) (defScope S__law_bag) .none kV0 dc0 pm0 an0 cd0 ct0), sl0⟩) (c0 : PySem.W.codeIn K cd0 "_law_bag" = true) (k0 : PySem.W.keepIn K (.ref f0) = true)
    {f1 : Addr} {od1 an1 : Option Addr} {sl1 : Array (Option Value)} {oc1 kV1 dc1 pm1 cd1 ct1 : Value}
    (a1 : PySem.W.nsIn K mainGlobals "_law_take" = some (some (.ref f1))) (l1 : K.lookup f1 = some ⟨oc1, od1, .func (PySem.W.fnOf "_law_take" "_law_take" (defArgs S__law_take) (defBody S__law_take) (defScope S__law_take) .none kV1 dc1 pm1 an1 cd1 ct1), sl1⟩) (c1 : PySem.W.codeIn K cd1 "_law_take" = true) (k1 : PySem.W.keepIn K (.ref f1) = true)
    {f2 : Addr} {od2 an2 : Option Addr} {sl2 : Array (Option Value)} {oc2 kV2 dc2 pm2 cd2 ct2 : Value}
    (a2 : PySem.W.nsIn K mainGlobals "_law_part" = some (some (.ref f2))) (l2 : K.lookup f2 = some ⟨oc2, od2, .func (PySem.W.fnOf "_law_part" "_law_part" (defArgs S__law_part) (defBody S__law_part) (defScope S__law_part) .none kV2 dc2 pm2 an2 cd2 ct2), sl2⟩) (c2 : PySem.W.codeIn K cd2 "_law_part" = true) (k2 : PySem.W.keepIn K (.ref f2) = true)
    {f3 : Addr} {od3 an3 : Option Addr} {sl3 : Array (Option Value)} {oc3 kV3 dc3 pm3 cd3 ct3 : Value}
    (a3 : PySem.W.nsIn K mainGlobals "_law_lowest" = some (some (.ref f3))) (l3 : K.lookup f3 = some ⟨oc3, od3, .func (PySem.W.fnOf "_law_lowest" "_law_lowest" (defArgs S__law_lowest) (defBody S__law_lowest) (defScope S__law_lowest) .none kV3 dc3 pm3 an3 cd3 ct3), sl3⟩) (c3 : PySem.W.codeIn K cd3 "_law_lowest" = true) (k3 : PySem.W.keepIn K (.ref f3) = true)
    {f4 : Addr} {od4 an4 : Option Addr} {sl4 : Array (Option Value)} {oc4 kV4 dc4 pm4 cd4 ct4 : Value}
    (a4 : PySem.W.nsIn K mainGlobals "_law_units" = some (some (.ref f4))) (l4 : K.lookup f4 = some ⟨oc4, od4, .func (PySem.W.fnOf "_law_units" "_law_units" (defArgs S__law_units) (defBody S__law_units) (defScope S__law_units) .none kV4 dc4 pm4 an4 cd4 ct4), sl4⟩) (c4 : PySem.W.codeIn K cd4 "_law_units" = true) (k4 : PySem.W.keepIn K (.ref f4) = true)
    {f5 : Addr} {od5 an5 : Option Addr} {sl5 : Array (Option Value)} {oc5 kV5 dc5 pm5 cd5 ct5 : Value}
    (a5 : PySem.W.nsIn K mainGlobals "_law_drawn_grain" = some (some (.ref f5))) (l5 : K.lookup f5 = some ⟨oc5, od5, .func (PySem.W.fnOf "_law_drawn_grain" "_law_drawn_grain" (defArgs S__law_drawn_grain) (defBody S__law_drawn_grain) (defScope S__law_drawn_grain) .none kV5 dc5 pm5 an5 cd5 ct5), sl5⟩) (c5 : PySem.W.codeIn K cd5 "_law_drawn_grain" = true) (k5 : PySem.W.keepIn K (.ref f5) = true)
    {f6 : Addr} {od6 an6 : Option Addr} {sl6 : Array (Option Value)} {oc6 kV6 dc6 pm6 cd6 ct6 : Value}
    (a6 : PySem.W.nsIn K mainGlobals "_law_form" = some (some (.ref f6))) (l6 : K.lookup f6 = some ⟨oc6, od6, .func (PySem.W.fnOf "_law_form" "_law_form" (defArgs S__law_form) (defBody S__law_form) (defScope S__law_form) .none kV6 dc6 pm6 an6 cd6 ct6), sl6⟩) (c6 : PySem.W.codeIn K cd6 "_law_form" = true) (k6 : PySem.W.keepIn K (.ref f6) = true)
    {f7 : Addr} {od7 an7 : Option Addr} {sl7 : Array (Option Value)} {oc7 kV7 dc7 pm7 cd7 ct7 : Value}
    (a7 : PySem.W.nsIn K mainGlobals "lowest" = some (some (.ref f7))) (l7 : K.lookup f7 = some ⟨oc7, od7, .func (PySem.W.fnOf "lowest" "lowest" (defArgs S_lowest) (defBody S_lowest) (defScope S_lowest) .none kV7 dc7 pm7 an7 cd7 ct7), sl7⟩) (c7 : PySem.W.codeIn K cd7 "lowest" = true) (k7 : PySem.W.keepIn K (.ref f7) = true)
    {f8 : Addr} {od8 an8 : Option Addr} {sl8 : Array (Option Value)} {oc8 kV8 dc8 pm8 cd8 ct8 : Value}
    (a8 : PySem.W.nsIn K mainGlobals "plus" = some (some (.ref f8))) (l8 : K.lookup f8 = some ⟨oc8, od8, .func (PySem.W.fnOf "plus" "plus" (defArgs S_plus) (defBody S_plus) (defScope S_plus) .none kV8 dc8 pm8 an8 cd8 ct8), sl8⟩) (c8 : PySem.W.codeIn K cd8 "plus" = true) (k8 : PySem.W.keepIn K (.ref f8) = true)
    {f9 : Addr} {od9 an9 : Option Addr} {sl9 : Array (Option Value)} {oc9 kV9 dc9 pm9 cd9 ct9 : Value}
    (a9 : PySem.W.nsIn K mainGlobals "minus" = some (some (.ref f9))) (l9 : K.lookup f9 = some ⟨oc9, od9, .func (PySem.W.fnOf "minus" "minus" (defArgs S_minus) (defBody S_minus) (defScope S_minus) .none kV9 dc9 pm9 an9 cd9 ct9), sl9⟩) (c9 : PySem.W.codeIn K cd9 "minus" = true) (k9 : PySem.W.keepIn K (.ref f9) = true)
    {f10 : Addr} {od10 an10 : Option Addr} {sl10 : Array (Option Value)} {oc10 kV10 dc10 pm10 cd10 ct10 : Value}
    (a10 : PySem.W.nsIn K mainGlobals "is_less" = some (some (.ref f10))) (l10 : K.lookup f10 = some ⟨oc10, od10, .func (PySem.W.fnOf "is_less" "is_less" (defArgs S_is_less) (defBody S_is_less) (defScope S_is_less) .none kV10 dc10 pm10 an10 cd10 ct10), sl10⟩) (c10 : PySem.W.codeIn K cd10 "is_less" = true) (k10 : PySem.W.keepIn K (.ref f10) = true)
    {f11 : Addr} {od11 an11 : Option Addr} {sl11 : Array (Option Value)} {oc11 kV11 dc11 pm11 cd11 ct11 : Value}
    (a11 : PySem.W.nsIn K mainGlobals "has" = some (some (.ref f11))) (l11 : K.lookup f11 = some ⟨oc11, od11, .func (PySem.W.fnOf "has" "has" (defArgs S_has) (defBody S_has) (defScope S_has) .none kV11 dc11 pm11 an11 cd11 ct11), sl11⟩) (c11 : PySem.W.codeIn K cd11 "has" = true) (k11 : PySem.W.keepIn K (.ref f11) = true)
    {f12 : Addr} {od12 an12 : Option Addr} {sl12 : Array (Option Value)} {oc12 kV12 dc12 pm12 cd12 ct12 : Value}
    (a12 : PySem.W.nsIn K mainGlobals "length" = some (some (.ref f12))) (l12 : K.lookup f12 = some ⟨oc12, od12, .func (PySem.W.fnOf "length" "length" (defArgs S_length) (defBody S_length) (defScope S_length) .none kV12 dc12 pm12 an12 cd12 ct12), sl12⟩) (c12 : PySem.W.codeIn K cd12 "length" = true) (k12 : PySem.W.keepIn K (.ref f12) = true)
    {f13 : Addr} {od13 an13 : Option Addr} {sl13 : Array (Option Value)} {oc13 kV13 dc13 pm13 cd13 ct13 : Value}
    (a13 : PySem.W.nsIn K mainGlobals "_law_near" = some (some (.ref f13))) (l13 : K.lookup f13 = some ⟨oc13, od13, .func (PySem.W.fnOf "_law_near" "_law_near" (defArgs S__law_near) (defBody S__law_near) (defScope S__law_near) .none kV13 dc13 pm13 an13 cd13 ct13), sl13⟩) (c13 : PySem.W.codeIn K cd13 "_law_near" = true) (k13 : PySem.W.keepIn K (.ref f13) = true)
    {f14 : Addr} {od14 an14 : Option Addr} {sl14 : Array (Option Value)} {oc14 kV14 dc14 pm14 cd14 ct14 : Value}
    (a14 : PySem.W.nsIn K mainGlobals "law" = some (some (.ref f14))) (l14 : K.lookup f14 = some ⟨oc14, od14, .func (PySem.W.fnOf "law" "law" (defArgs S_law) (defBody S_law) (defScope S_law) .none kV14 dc14 pm14 an14 cd14 ct14), sl14⟩) (c14 : PySem.W.codeIn K cd14 "law" = true) (k14 : PySem.W.keepIn K (.ref f14) = true)
    (g0 : PySem.W.nsIn K mainGlobals "gcd" = some (some (.builtin "math.gcd")))
    {gz1 : Addr} {go1 : Obj} (g1 : PySem.W.nsIn K mainGlobals "ZERO" = some (some (.ref gz1))) (gl1 : K.lookup gz1 = some go1) (gd1 : TupObj go1 [V.int 0, V.int 1])
    (z0 : PySem.W.nsIn K mainGlobals "abs" = some none)
    (z1 : PySem.W.nsIn K mainGlobals "len" = some none)
    (z2 : PySem.W.nsIn K mainGlobals "range" = some none)
    (z3 : PySem.W.nsIn K mainGlobals "any" = some none)
    (z4 : PySem.W.nsIn K mainGlobals "max" = some none)
    (z5 : PySem.W.nsIn K mainGlobals "min" = some none)
    (z6 : PySem.W.nsIn K mainGlobals "repr" = some none)
    : ∃ fd : FuncData, (∀ (s : Shared) (v : Value), BindsTo s fd ⟨[v], []⟩ [("_law_script", v)]) ∧ ∀ base : Heap, K.In base → base.Ns mainGlobals mg → FnG l.prog w K mg base CX0 4 fa fd ["_law_script"] (sp_law K) := by
  have e := hfa.symm.trans (PySem.W.mg_of X G a14)
  cases e
  have F0 := fun_mk (st := S__law_bag) l0 c0 k0
  have b0 := F0.binds (ps := ["_law_script", "_law_at"]) fun _ _ _ _ _ _ us hl => match us, hl with | [_, _], _ => rfl
  have F1 := fun_mk (st := S__law_take) l1 c1 k1
  have b1 := F1.binds (ps := ["_law_bag_here", "_law_size"]) fun _ _ _ _ _ _ us hl => match us, hl with | [_, _], _ => rfl
  have F2 := fun_mk (st := S__law_part) l2 c2 k2
  have b2 := F2.binds (ps := ["_law_one", "_law_other"]) fun _ _ _ _ _ _ us hl => match us, hl with | [_, _], _ => rfl
  have F3 := fun_mk (st := S__law_lowest) l3 c3 k3
  have b3 := F3.binds (ps := ["_law_top", "_law_under"]) fun _ _ _ _ _ _ us hl => match us, hl with | [_, _], _ => rfl
  have F4 := fun_mk (st := S__law_units) l4 c4 k4
  have b4 := F4.binds (ps := ["_law_bag_here", "_law_grain"]) fun _ _ _ _ _ _ us hl => match us, hl with | [_, _], _ => rfl
  have F5 := fun_mk (st := S__law_drawn_grain) l5 c5 k5
  have b5 := F5.binds (ps := ["_law_bag_here"]) fun _ _ _ _ _ _ us hl => match us, hl with | [_], _ => rfl
  have F6 := fun_mk (st := S__law_form) l6 c6 k6
  have b6 := F6.binds (ps := ["_law_units_here", "_law_grain"]) fun _ _ _ _ _ _ us hl => match us, hl with | [_, _], _ => rfl
  have F7 := fun_mk (st := S_lowest) l7 c7 k7
  have b7 := F7.binds (ps := ["top", "under"]) fun _ _ _ _ _ _ us hl => match us, hl with | [_, _], _ => rfl
  have F8 := fun_mk (st := S_plus) l8 c8 k8
  have b8 := F8.binds (ps := ["one", "other"]) fun _ _ _ _ _ _ us hl => match us, hl with | [_, _], _ => rfl
  have F9 := fun_mk (st := S_minus) l9 c9 k9
  have b9 := F9.binds (ps := ["one", "other"]) fun _ _ _ _ _ _ us hl => match us, hl with | [_, _], _ => rfl
  have F10 := fun_mk (st := S_is_less) l10 c10 k10
  have b10 := F10.binds (ps := ["one", "other"]) fun _ _ _ _ _ _ us hl => match us, hl with | [_, _], _ => rfl
  have F11 := fun_mk (st := S_has) l11 c11 k11
  have b11 := F11.binds (ps := ["one", "cut"]) fun _ _ _ _ _ _ us hl => match us, hl with | [_, _], _ => rfl
  have F12 := fun_mk (st := S_length) l12 c12 k12
  have b12 := F12.binds (ps := ["one"]) fun _ _ _ _ _ _ us hl => match us, hl with | [_], _ => rfl
  have F13 := fun_mk (st := S__law_near) l13 c13 k13
  have b13 := F13.binds (ps := ["_law_bag_here", "_law_unit", "_law_grain"]) fun _ _ _ _ _ _ us hl => match us, hl with | [_, _, _], _ => rfl
  have F14 := fun_mk (st := S_law) l14 c14 k14
  have c_gcd := PySem.W.mg_of X G g0
  have c_ZERO := TupC.of (PySem.W.mg_of X G g1) gl1 gd1
  have m_abs := PySem.W.mg_none_of X G z0
  have m_len := PySem.W.mg_none_of X G z1
  have m_range := PySem.W.mg_none_of X G z2
  have m_any := PySem.W.mg_none_of X G z3
  have m_max := PySem.W.mg_none_of X G z4
  have m_min := PySem.W.mg_none_of X G z5
  have m_repr := PySem.W.mg_none_of X G z6
  refine ⟨PySem.W.fnOf "law" "law" (defArgs S_law) (defBody S_law) (defScope S_law) .none kV14 dc14 pm14 an14 cd14 ct14, fun s v => .of_eq rfl, fun base _ _ => ?_⟩
  have C__law_bag : Cal l.prog w K mg base "_law_bag" 1 f0 _ ["_law_script", "_law_at"] (sp__law_bag K) := ⟨ok__law_bag F0 m_abs m_len, b0, k0, PySem.W.mg_of X G a0⟩
  have C__law_take : Cal l.prog w K mg base "_law_take" 1 f1 _ ["_law_bag_here", "_law_size"] (sp__law_take K) := ⟨ok__law_take F1, b1, k1, PySem.W.mg_of X G a1⟩
  have C__law_part : Cal l.prog w K mg base "_law_part" 1 f2 _ ["_law_one", "_law_other"] (sp__law_part K) := ⟨ok__law_part F2 m_abs, b2, k2, PySem.W.mg_of X G a2⟩
  have C__law_lowest : Cal l.prog w K mg base "_law_lowest" 2 f3 _ ["_law_top", "_law_under"] (sp__law_lowest K) := ⟨ok__law_lowest F3 C__law_part, b3, k3, PySem.W.mg_of X G a3⟩
  have C__law_units : Cal l.prog w K mg base "_law_units" 2 f4 _ ["_law_bag_here", "_law_grain"] (sp__law_units K) := ⟨ok__law_units F4 C__law_take m_range, b4, k4, PySem.W.mg_of X G a4⟩
  have C__law_drawn_grain : Cal l.prog w K mg base "_law_drawn_grain" 2 f5 _ ["_law_bag_here"] (sp__law_drawn_grain K) := ⟨ok__law_drawn_grain F5 C__law_take, b5, k5, PySem.W.mg_of X G a5⟩
  have C__law_form : Cal l.prog w K mg base "_law_form" 3 f6 _ ["_law_units_here", "_law_grain"] (sp__law_form K) := ⟨ok__law_form F6 C__law_lowest m_range, b6, k6, PySem.W.mg_of X G a6⟩
  have C_lowest : Cal l.prog w K mg base "lowest" 1 f7 _ ["top", "under"] (sp_lowest K) := ⟨ok_lowest F7 c_gcd, b7, k7, PySem.W.mg_of X G a7⟩
  have C_plus : Cal l.prog w K mg base "plus" 2 f8 _ ["one", "other"] (sp_plus K) := ⟨ok_plus F8 C_lowest, b8, k8, PySem.W.mg_of X G a8⟩
  have C_minus : Cal l.prog w K mg base "minus" 2 f9 _ ["one", "other"] (sp_minus K) := ⟨ok_minus F9 C_lowest, b9, k9, PySem.W.mg_of X G a9⟩
  have C_is_less : Cal l.prog w K mg base "is_less" 1 f10 _ ["one", "other"] (sp_is_less K) := ⟨ok_is_less F10, b10, k10, PySem.W.mg_of X G a10⟩
  have C_has : Cal l.prog w K mg base "has" 2 f11 _ ["one", "cut"] (sp_has K) := ⟨ok_has F11 C_is_less m_any, b11, k11, PySem.W.mg_of X G a11⟩
  have C_length : Cal l.prog w K mg base "length" 3 f12 _ ["one"] (sp_length K) := ⟨ok_length F12 C_plus C_minus c_ZERO, b12, k12, PySem.W.mg_of X G a12⟩
  have C__law_near : Cal l.prog w K mg base "_law_near" 3 f13 _ ["_law_bag_here", "_law_unit", "_law_grain"] (sp__law_near K) := ⟨ok__law_near F13 C__law_lowest C__law_take, b13, k13, PySem.W.mg_of X G a13⟩
  exact ok_law F14 C_has C_length C__law_near C__law_lowest C__law_form C__law_units C__law_drawn_grain C__law_bag m_range m_max m_min m_len m_repr
theorem walk {l : PySem.W.OpenLaw} {q : Program} {loose : List Str} {XP : (Str → Option Value) → Heap → Prop} {YP : World → Heap → Prop} {d : DefRec} {K : Params → PySem.W.Frag} (hn : l.most = some 63) (hdf : d.params.defaults = [])
    (hY : ∀ (w : World) (h : Heap), YP w h → (K w.params).In h)
    (F : ∀ (w : World) (mg : Str → Option Value) (fa : Addr) (h : Heap), (K w.params).In h → h.Ns mainGlobals mg → mg d.name = some (.ref fa) →
      ∃ fd : FuncData, (∀ (s : Shared) (u : Value), BindsTo s fd ⟨[u], []⟩ [("_law_script", u)]) ∧ ∀ base : Heap, (K w.params).In base → base.Ns mainGlobals mg → FnG l.prog w (K w.params) mg base CX0 4 fa fd ["_law_script"] (sp_law (K w.params))) :
    PySem.W.WalkO q loose XP YP l.row.toRowW d [] (fun f vs => PySem.call f vs) :=
  walk_g (n := 63) (k := 4) (x := "_law_script") (CX := fun _ => CX0) (sp := fun w => sp_law (K w.params)) hn (by decide) hdf ⟨rfl, by decide, by decide⟩ hY F (fun _ _ a ns hl _ o hS => ⟨a, ns, rfl, Scr.of o hS, hl, fun _ => rfl⟩) fun _ _ _ _ _ z => z
end Ob
open PySem PySem.W PyProof.Rows
set_option maxRecDepth 100000 in
set_option maxHeartbeats 0 in
theorem PySem.Challenge.cw_onecut_k10_lengths_and_members_holds : PySem.Challenge.rw_onecut_k10_lengths_and_members.Holds := by
  w_on; o_law; k_head; (case hw => w_witness2)
  k_fill
  refine Ob.walk (l := PySem.Challenge.rw_onecut_k10_lengths_and_members) rfl rfl (fun w h Y => PySem.W.kIn_of Y) ?F
  case F =>
    intro w mg fa h KX G hmg
    refine' Ob.all_mk KX G hmg ?a0 ?l0 ?c0 ?k0 ?a1 ?l1 ?c1 ?k1 ?a2 ?l2 ?c2 ?k2 ?a3 ?l3 ?c3 ?k3 ?a4 ?l4 ?c4 ?k4 ?a5 ?l5 ?c5 ?k5 ?a6 ?l6 ?c6 ?k6 ?a7 ?l7 ?c7 ?k7 ?a8 ?l8 ?c8 ?k8 ?a9 ?l9 ?c9 ?k9 ?a10 ?l10 ?c10 ?k10 ?a11 ?l11 ?c11 ?k11 ?a12 ?l12 ?c12 ?k12 ?a13 ?l13 ?c13 ?k13 ?a14 ?l14 ?c14 ?k14 ?g0 ?g1 ?gl1 ?gd1 ?z0 ?z1 ?z2 ?z3 ?z4 ?z5 ?z6
    (case a0 => k_is)
    (case l0 => k_is)
    (case c0 => k_is)
    (case k0 => k_is)
    (case a1 => k_is)
    (case l1 => k_is)
    (case c1 => k_is)
    (case k1 => k_is)
    (case a2 => k_is)
    (case l2 => k_is)
    (case c2 => k_is)
    (case k2 => k_is)
    (case a3 => k_is)
    (case l3 => k_is)
    (case c3 => k_is)
    (case k3 => k_is)
    (case a4 => k_is)
    (case l4 => k_is)
    (case c4 => k_is)
    (case k4 => k_is)
    (case a5 => k_is)
    (case l5 => k_is)
    (case c5 => k_is)
    (case k5 => k_is)
    (case a6 => k_is)
    (case l6 => k_is)
    (case c6 => k_is)
    (case k6 => k_is)
    (case a7 => k_is)
    (case l7 => k_is)
    (case c7 => k_is)
    (case k7 => k_is)
    (case a8 => k_is)
    (case l8 => k_is)
    (case c8 => k_is)
    (case k8 => k_is)
    (case a9 => k_is)
    (case l9 => k_is)
    (case c9 => k_is)
    (case k9 => k_is)
    (case a10 => k_is)
    (case l10 => k_is)
    (case c10 => k_is)
    (case k10 => k_is)
    (case a11 => k_is)
    (case l11 => k_is)
    (case c11 => k_is)
    (case k11 => k_is)
    (case a12 => k_is)
    (case l12 => k_is)
    (case c12 => k_is)
    (case k12 => k_is)
    (case a13 => k_is)
    (case l13 => k_is)
    (case c13 => k_is)
    (case k13 => k_is)
    (case a14 => k_is)
    (case l14 => k_is)
    (case c14 => k_is)
    (case k14 => k_is)
    (case g0 => k_is)
    (case g1 => k_is)
    (case gl1 => k_is)
    (case gd1 => exact ⟨rfl, _, _, rfl, by decide, .cons ⟨_, rfl⟩ (.cons ⟨_, rfl⟩ .nil)⟩)
    (case z0 => k_is)
    (case z1 => k_is)
    (case z2 => k_is)
    (case z3 => k_is)
    (case z4 => k_is)
    (case z5 => k_is)
    (case z6 => k_is)

