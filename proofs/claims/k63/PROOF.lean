import PyProof.Rows.All
import Wide.All
import OpenK.AllK
import Wide.FinOn
import HandS.ForMost
import HandS.Wide
import HandS.Gcd
import HandS.EndBits
import HandS.IsInst
import HandS.Flow
import HandS.Flt
import HandS.FStrTup
import HandS.Style
import HandS.ExcInit
import HandS.HeadHook1
import HandS.HeadHook2
import HandS.Head0
import HandS.Head1
import HandS.Head2
import HandS.Head3
import HandS.HeadEnd
import HandS.HeadNt
import HandS.EndTab
import HandS.Words
import HandS.Defaults
import HandS.RaiseMore
import HandS.Rev
import HandS.NoneIn
import KE.DatumOrd
import HandS.SortKw
import HandS.Steps
import HandS.Conv
import KE.GoesMore
import HandS.WideBits
import HandS.Strs
import PyProof.Rows.SetFrom
import HandS.ForDict
import HandS.ListItems
import HandS.TupAny
import HandS.Deep
import HandS.ExcOwn
import HandS.CallSlots
import HandS.TryOnly
import HandS.WordsExc
import HandS.FStr
import HandS.TryMany
import HandS.ExcField
import HandS.ClsMeth
import KE.KExcIs
import KE.KExcInit
import PyProof.ExcBaseAll.RuntimeError
import PyProof.ExcBaseAll.OverflowError
import HandS.ExcBuiltin
import KE.KMathG
import HandS.SortInts
import HandS.Iter
import HandS.Nested
import HandS.ExcCtx
import HandS.HotCalls
import HandS.Text
import KE.KUnpackStar
import KE.IntTextLaws
import HandS.Replace
import PySem.Challenge.RW_onecut_k63_texts_refused
set_option Elab.async false
set_option linter.all false
set_option maxRecDepth 100000
set_option exponentiation.threshold 10000
set_option maxHeartbeats 4000000
/-! Defs that may show data by repr: a promise that is asked only where nothing is being shown. -/
namespace Ob
open PySem PySem.Spec PyProof.Rows L2
structure FnG (P : Program) (w : World) (K : PySem.W.Frag) (mg : Str → Option Value) (base : Heap) (CX : CXT) (k : Nat) (f : Addr) (fd : FuncData) (ps : List Str) (sp : Sp) : Prop where
  ar : ∀ vs H Q E, sp vs H Q E → vs.length = ps.length
  go : ∀ (A : Around) (outer : List Env) (s : Shared) (H : Hp) (args : Args) (us : List Value) (vs : List V) (Q : VK) (E : XK), A.guards = some [] → Room k A → Env0 P w K mg base A outer s H →
    BindsTo s fd args (ps.zip us) → Vals vs us → sp vs H Q E → codeAny (model P w) A (.call (.ref f) args) (CR CX outer P w H s Q E) s
section
variable {P : Program} {w : World} {K : PySem.W.Frag} {mg : Str → Option Value} {base : Heap} {CX : CXT}
theorem FnG.up {j k : Nat} {f : Addr} {fd : FuncData} {ps : List Str} {sp : Sp} (F : FnG P w K mg base CX j f fd ps sp) (h : j ≤ k) : FnG P w K mg base CX k f fd ps sp :=
  ⟨F.ar, fun A o s H args us vs Q E hg hr => F.go A o s H args us vs Q E hg (hr.mono h)⟩
/-- a def of the text by its body -/
theorem Fun_okG {x qual : Str} {st : Stmt} {f : Addr} {fd : FuncData} {N ps : List Str} {k : Nat} {sp : Sp} (F : Fun K x qual st f fd) (S : FnScope N ps (defScope st)) (ar : ∀ vs H Q E, sp vs H Q E → vs.length = ps.length)
    (body : ∀ (c : Value) (A : Around) (outer : List Env) (s : Shared) (H : Hp) (vs : List V) (Q : VK) (E : XK), A.guards = some [] → Room k (A.deeper (envOfC qual (defScope st) s.heap.objs.size f c)) → sp vs H Q E →
      ∃ t, PSs (cxOf CX P w K mg base N qual (defScope st) f c A outer s H E).nox (defBody st) t ∧ t { nx := fun _ J => Q .non J, rt := Q } (start N vs) H) : FnG P w K mg base CX (k + 1) f fd ps sp := by
  obtain ⟨oc, od, kV, doc, pm, an, c, ct, osl, rfl, look, code⟩ := F.ex
  refine ⟨ar, fun A outer s H args us vs Q E hg hr e0 bnd rv hs => ?_⟩
  have count := ar _ _ _ _ hs
  have kept : ∀ b o, base.get? b = some o → s.heap.get? b = some o := fun b o e => (e0.bs b o e).1
  have inK : K.In s.heap := e0.mod.kin.keeps kept
  refine codeAny_call_function hr.depth (inK _ _ look) rfl S.co S.gen rfl (PySem.W.codeRec_of inK code) (bnd _ _ _ _ ?_)
  refine wpAny_newFunctionEnv_cells S.kind (fun y hy => (S.par y.1 (List.of_mem_zip (show (y.1, y.2) ∈ ps.zip us from hy)).1).imp id fun q => ⟨q, PySem.W.cellsFrom_some _ _ _ (.inl q)⟩) fun env he s1 x => ?_
  subst he
  obtain ⟨t, ht, hq⟩ := body c A outer s H vs Q E hg (hr.deeper _) hs
  have I : Inv (cxOf CX P w K mg base N qual (defScope st) f c A outer s H E) [] (start N vs) H s1 := inv_start S hr.hd e0 count rv x
  refine ⟨(e0.mod.nolimit.keeps kept).keeps x.toInCall.keep, codeAny_func (wpAny_mono (ht.nox.run [] s1 (start N vs) H _ I hq) (fun fl s' z => ?_) fun e s' z => z)⟩
  cases fl with
  | next => exact (let ⟨σ', J, I', q⟩ := z; ⟨V.non, J, I'.os, I'.bare, I'.base, I'.hok, rfl, q⟩)
  | ret u => exact (let ⟨v, σ', J, I', r', q⟩ := z; ⟨v, J, I'.os, I'.bare, I'.base, I'.hok, r', q⟩)
  | brk => exact (let ⟨_, _, _, q⟩ := z; False.elim q)
  | cont => exact (let ⟨_, _, _, q⟩ := z; False.elim q)
end
section
variable {X : Cx} {CX : CXT} {k : Nat} {f : Addr} {fd : FuncData} {ps : List Str} {sp : Sp} {ds : List Value} {dvs : List V} {E : XK}
theorem run_g {pins : List (Addr × Obj)} {σ : L2.St} {H : Hp} {s : Shared} {Q : VK} {us : List Value} {vs : List V} (F : FnG X.prog X.w X.K X.mg X.base CX k f fd ps sp) (hg : X.A.guards = some []) (hr : Room k X.A) (hb : Binds X.K fd ps ds) (hd : Vals dvs ds) (hx : Passes CX X E)
    (I : Inv X pins σ H s) (rv : Vals vs us) (hs : sp (vs ++ dvs) H Q E) : wpAny (model X.prog X.w) X.A (call (.ref f) us) (EP X pins σ Q) X.xe s := by
  have all := rv.append hd
  refine wpAny_call (codeAny_mono (F.go X.A X.stack s H ⟨us, []⟩ (us ++ ds) (vs ++ dvs) Q E hg hr I.env0 (hb s us I.kIn (all.length ▸ F.ar _ _ _ _ hs)) all hs) fun r s' z => ?_)
  match r, z with
  | .error e, z => exact hx pins σ H s e s' I z
  | .ok (.ret u), z => exact I.after z
variable {x : Str} {e : Expr} {es : List Expr} {t : TA} {p pos : Pos}
/-- f(e, ..) -/
theorem pe_g (F : FnG X.prog X.w X.K X.mg X.base CX k f fd ps sp) (hg : X.A.guards = some []) (hr : Room k X.A) (gl : Gl X x) (hm : X.mg x = some (.ref f)) (hk : PySem.W.keepIn X.K (.ref f) = true) (hb : Binds X.K fd ps ds) (hd : Vals dvs ds) (hx : Passes CX X E)
    (ha : PA X (e :: es) t) (hdb : (x == ("__debug__" : Str)) = false := by decide) (he : starEach (e :: es) X.env = (false, eval e X.env) :: starEach es X.env := by rfl) (hpl : (backTo pos (starEach es X.env)).any (·.1) = false := by rfl) :
    PE X (.Call (.Name x p) (e :: es) [] pos) (tCall sp dvs E t) :=
  ⟨fun pins s σ H Q I h => wpAny_Call_Name_kw (ld_glob I gl hm (PySem.W.callWith_K (h₀ := X.base) I.ok.mod.kin hk (thn (ha.run pos pins s σ H _ I h) fun us s1 z => let ⟨vs, J, I1, rv, q⟩ := z; ⟨I1.kIn, run_g F hg hr hb hd hx I1 rv q⟩) he hpl) hdb)⟩
end
/-! ### the law's call -/
section
variable {P : Program} {w : World} {K : PySem.W.Frag} {mg mb : Str → Option Value} {CX : CXT} {k : Nat} {fa a : Addr} {fd : FuncData} {x : Str} {sp : Sp} {s₁ : Shared} {vs : List Value} {ns : List Int}
def LawEnd (s₁ : Shared) : Result → Shared → Prop := fun r s' => r = .ok (.ret (.bool true)) ∧ OldK s₁.heap s'.heap ∧ s'.os = s₁.os ∧ AllBare s'.gens
/-- H tracks at most the script, locked -/
theorem law_at (H : Hp) (inK : K.In s₁.heap) (hns : s₁.heap.Ns mainGlobals mg) (hb : s₁.heap.Ns builtinsNs mb) (hbb : ∀ x : Str, x ≠ "__name__" → mb x = bootBuiltins x) (hlim : s₁.heap.NoLimit) (hg : s₁.gens = #[])
    (ha : s₁.heap.get? a = some { cls := .type "list", data := .seq vs.toArray }) (hr : Room k callerA)
    (F : ∀ base : Heap, K.In base → base.Ns mainGlobals mg → FnG P w K mg base CX k fa fd [x] sp) (hbind : ∀ (s : Shared) (u : Value), BindsTo s fd ⟨[u], []⟩ [(x, u)])
    (hs : sp [.ref a] H (fun v _ => v = .bl true) fun _ _ _ => False) (hCX : ∀ e s', CX [] H s₁ (fun _ _ _ => False) e s' → False)
    (hO : Only H) (ok : HOk P w H s₁.heap) (only : ∀ b, H b ≠ none → b = a) (free : H a ≠ none → K.lookup a = none) : codeAny (model P w) callerA (.call (.ref fa) ⟨[.ref a], []⟩) (LawEnd s₁) s₁ := by
  have out : ∀ {b o}, s₁.heap.get? b = some o → ((H b ≠ none → b = a) → H b ≠ none → False) → (hidT s₁.heap H).get? b = some o := fun {b o} e no => hidT_get e (Classical.byContradiction fun n => no (only b) n)
  have names : ∀ {b m}, s₁.heap.Ns b m → (hidT s₁.heap H).Ns b m := fun {b m} z => let ⟨o, es, ep, e, d, r⟩ := z; ⟨o, es, ep, out e (fun g n => by
    obtain rfl := g n
    cases ha.symm.trans e
    cases d), d, r⟩
  have written : K.In (hidT s₁.heap H) := fun b o e => out (inK b o e) fun g n => by
    obtain rfl := g n
    cases (free n).symm.trans e
  have env : Env0 P w K mg (hidT s₁.heap H) callerA [] s₁ H :=
    ⟨rfl, ⟨written, names hns, ⟨mb, names hb, hbb⟩, let ⟨m, p, q⟩ := hlim; ⟨m, names p, q⟩⟩, fun _ _ e => of_hidT e, Nat.le_of_eq (hidT_size _ _), trivial, (fun _ z => absurd z (by simp [frs])), ok, AllBare.of_eq hg⟩
  refine codeAny_mono ((F _ written (names hns)).go callerA [] s₁ H ⟨[.ref a], []⟩ [.ref a] [.ref a] _ _ rfl hr env (hbind s₁ (.ref a)) (.cons rfl .nil) hs) fun r s' z => ?_
  match r, z with
  | .error e, z => exact (hCX e s' z).elim
  | .ok (.ret u), z =>
    obtain ⟨v, J, os, bare, un, ok', rel, rfl⟩ := z
    obtain rfl : u = Value.bool true := rel
    refine ⟨rfl, OldK.of_keep fun b o e => ?_, os, bare⟩
    rcases hO b with n | ⟨ob, xs, n⟩
    · exact un.keep b o e n (fun z => absurd z (by simp [frs])) (by simp)
    · have h1 := (ok b _ n).1
      cases e.symm.trans h1
      exact (ok' b _ (un.frzs b _ _ n)).1
theorem law_g (inK : K.In s₁.heap) (hns : s₁.heap.Ns mainGlobals mg) (hb : s₁.heap.Ns builtinsNs mb) (hbb : ∀ x : Str, x ≠ "__name__" → mb x = bootBuiltins x) (hlim : s₁.heap.NoLimit) (hg : s₁.gens = #[])
    (ha : s₁.heap.get? a = some { cls := .type "list", data := .seq vs.toArray }) (hi : IntsAre vs ns) (hl : ns.length ≤ sizeLine) (hr : Room k callerA)
    (F : ∀ base : Heap, K.In base → base.Ns mainGlobals mg → FnG P w K mg base CX k fa fd [x] sp) (hbind : ∀ (s : Shared) (u : Value), BindsTo s fd ⟨[u], []⟩ [(x, u)])
    (hs : ∀ H : Hp, Only H → SqL K H a (ns.map V.int) → sp [.ref a] H (fun v _ => v = .bl true) fun _ _ _ => False)
    (hCX : ∀ H e s', CX [] H s₁ (fun _ _ _ => False) e s' → False) : codeAny (model P w) callerA (.call (.ref fa) ⟨[.ref a], []⟩) (LawEnd s₁) s₁ := by
  have rv := vals_ints hi
  have many : vs.length = ns.length := by have := hi.length; omega
  have put : ∀ H : Hp, Only H → SqL K H a (ns.map V.int) → HOk P w H s₁.heap → (∀ b, H b ≠ none → b = a) → (H a ≠ none → K.lookup a = none) → codeAny (model P w) callerA (.call (.ref fa) ⟨[.ref a], []⟩) (LawEnd s₁) s₁ :=
    fun H o q ok g f => law_at H inK hns hb hbb hlim hg ha hr F hbind (hs H o q) (hCX H) o ok g f
  cases kl : K.lookup a with
  | some o =>
    cases ha.symm.trans (inK a o kl)
    exact put (fun _ => none) (fun _ => .inl rfl) (.inr ⟨_, vs.toArray, _, kl, rfl, rfl, rfl, by rw [List.size_toArray, many]; exact hl, by simpa using rv⟩) (fun _ _ z => by cases z) (fun _ z => absurd rfl z) fun z => absurd rfl z
  | none =>
    have at_a : ∀ {b : Addr}, b = a → (fun b => if b = a then some (HO.frz { cls := .type "list", data := .seq vs.toArray } (.lst (ns.map V.int))) else none) b = some (HO.frz { cls := .type "list", data := .seq vs.toArray } (.lst (ns.map V.int))) := fun e => if_pos e
    have off_a : ∀ {b : Addr}, b ≠ a → (fun b => if b = a then some (HO.frz { cls := .type "list", data := .seq vs.toArray } (.lst (ns.map V.int))) else none) b = none := fun e => if_neg e
    refine put _ (fun b => ?_) (.inl (.inr ⟨_, at_a rfl⟩)) (fun b u z => ?_) (fun b z => Classical.byContradiction fun n => z (off_a n)) fun _ => kl
    · by_cases e : b = a
      · exact .inr ⟨_, _, at_a e⟩
      · exact .inl (off_a e)
    · by_cases e : b = a
      · cases (at_a e).symm.trans z
        subst e
        exact ⟨ha, by rw [List.length_map]; exact hl, vs, _, rv, ha⟩
      · cases (off_a e).symm.trans z
end
end Ob
namespace Ob
open PySem PySem.Spec PyProof.Rows L2
/-! ### repr of data -/
mutual
def sz : PyData → Nat
  | .none => 4
  | .bool _ => 5
  | .int i => i.natAbs.log2 + 2
  | .str _ => 0
  | .list xs => szs xs + 2
  | .tuple xs => szs xs + 2
  | .dict _ => 0
def szs : List PyData → Nat
  | [] => 0
  | x :: xs => sz x + 2 + szs xs
end
mutual
/-- no texts, no dicts; ints below 1,900 bits -/
def sm : PyData → Bool
  | .none => true
  | .bool _ => true
  | .int i => decide (i.natAbs.log2 < 1900)
  | .str _ => false
  | .list xs => sms xs
  | .tuple xs => sms xs
  | .dict _ => false
def sms : List PyData → Bool
  | [] => true
  | x :: xs => sm x && sms xs
end
theorem list_le (ts : List Str) : (listText ts).length ≤ piled ts + 2 := by
  cases ts with
  | nil => decide +kernel
  | cons t r =>
    have h := textFrom_length_pos r 1 (("[" : Str) ++ (if (0 : Nat) > 0 then ", " else "" : String) ++ t) (Nat.succ_pos 0)
    have e : ((("[" : Str) ++ (if (0 : Nat) > 0 then ", " else "" : String) ++ t)).length = 1 + t.length := by rw [strLen_append, strLen_append] <;> rfl
    have e2 : (listText (t :: r)).length = (textFrom 1 (("[" : Str) ++ (if (0 : Nat) > 0 then ", " else "" : String) ++ t) r).length + 1 := strLen_append _ _
    rw [e2, h, e, piled_cons]
    omega
mutual
theorem shown_le : ∀ d : PyData, sm d = true → d.shown.length ≤ sz d ∧ d.showable = true ∧ d.hasDict = false
  | .none, _ => ⟨by decide +kernel, by simp [PyData.showable], by simp [PyData.hasDict]⟩
  | .bool b, _ => ⟨by cases b <;> decide +kernel, by simp [PyData.showable], by simp [PyData.hasDict]⟩
  | .int i, h => by
    have h1 : i.natAbs.log2 < 1900 := by simpa [sm] using h
    refine ⟨?_, by simp [PyData.showable]; omega, by simp [PyData.hasDict]⟩
    have e := int_text_length_le (a := i) (k := i.natAbs.log2 + 1) (by omega) (by omega)
    have e3 : (PyData.int i).shown = Str.ofString (toString i) := by simp only [PyData.shown]
    rw [e3, PySem.ofString_length, sz]
    omega
  | .str _, h => by simp [sm] at h
  | .dict _, h => by simp [sm] at h
  | .list xs, h => by
    have q := showns_le xs (by simpa [sm] using h)
    refine ⟨?_, by simp [PyData.showable, q.2.1], by simp [PyData.hasDict, q.2.2]⟩
    have e := list_le (PyData.shownAll xs)
    simp only [PyData.shown, sz]
    omega
  | .tuple xs, h => by
    have q := showns_le xs (by simpa [sm] using h)
    refine ⟨?_, by simp [PyData.showable, q.2.1], by simp [PyData.hasDict, q.2.2]⟩
    have e := fmt_text (PyData.shownAll xs)
    simp only [PyData.shown, sz]
    omega
theorem showns_le : ∀ xs : List PyData, sms xs = true → piled (PyData.shownAll xs) ≤ szs xs ∧ PyData.showableAll xs = true ∧ PyData.hasDictAll xs = false
  | [], _ => ⟨Nat.zero_le _, by simp [PyData.showableAll], by simp [PyData.hasDictAll]⟩
  | x :: xs, h => by
    have h2 : sm x = true ∧ sms xs = true := by simpa [sms] using h
    have p := shown_le x h2.1
    have q := showns_le xs h2.2
    refine ⟨?_, by simp [PyData.showableAll, p.2.1, q.2.1], by simp [PyData.hasDictAll, p.2.2, q.2.2]⟩
    have e : PyData.shownAll (x :: xs) = x.shown :: PyData.shownAll xs := by simp only [PyData.shownAll]
    rw [e, piled_cons, szs]
    omega
end
def rRepr (K : PySem.W.Frag) : List V → Hp → VK → Prop := fun xs H Q => ∃ (a : Addr) (d : PyData), xs = [.ref a] ∧ Dp K H (.ref a) d ∧ sm d = true ∧ sz d ≤ 1000000 ∧ d.depth ≤ 50 ∧ Q (.str d.shown) H
section
variable {X : Cx}
/-- // by any number but 0 below 2 ^ 9000 -/
def CDv (_ j : Int) : Prop := j ≠ 0 ∧ j.natAbs < 2 ^ 9000
theorem op_dv : OpR X (binaryOp .FloorDiv) (rI CDv fun i j => .int (i.fdiv j)) := opI fun _ _ _ _ _ _ _ hc q => floordiv_int hc.1 q (.inl (PyProof.noPylong_of_log2 (PySem.Flt.log2_lt_of (by decide) hc.2)))
end
/-! ### bounds by powers of two -/
def Bd (n : Nat) (x : Int) : Prop := x.natAbs < 2 ^ n
theorem Bd.mono {m n : Nat} {x : Int} (h : Bd m x) (k : m ≤ n) : Bd n x := Nat.lt_of_lt_of_le h (Nat.pow_le_pow_right (by decide) k)
theorem Bd.mul {m n : Nat} {x y : Int} (h : Bd m x) (k : Bd n y) : Bd (m + n) (x * y) := wide_lt h k
theorem Bd.neg {n : Nat} {x : Int} (h : Bd n x) : Bd n (-x) := by unfold Bd; rw [Int.natAbs_neg]; exact h
theorem Bd.add {n : Nat} {x y : Int} (h : Bd n x) (k : Bd n y) : Bd (n + 1) (x + y) := by
  unfold Bd at *
  have e : 2 ^ (n + 1) = 2 ^ n + 2 ^ n := by rw [Nat.pow_succ]; omega
  have := Int.natAbs_add_le x y
  omega
theorem Bd.sub {n : Nat} {x y : Int} (h : Bd n x) (k : Bd n y) : Bd (n + 1) (x - y) := by
  have q := h.add k.neg
  rwa [← Int.sub_eq_add_neg] at q
theorem Bd.log {n : Nat} {x : Int} (h : Bd n x) (h0 : 0 < n := by decide) : x.natAbs.log2 < n := PySem.Flt.log2_lt_of h0 h
theorem Bd.le {n : Nat} {x y : Int} (h : Bd n y) (k : x.natAbs ≤ y.natAbs) : Bd n x := Nat.lt_of_le_of_lt k h
theorem Bd.lit {n : Nat} {x : Int} (h : decide (x.natAbs < 2 ^ n) = true) : Bd n x := by unfold Bd; exact of_decide_eq_true h
theorem Bd.cmul {m n : Nat} {x y : Int} (h : Bd m x) (k : Bd n y) (h0 : 0 < m := by decide) (h1 : 0 < n := by decide) (hs : m + n ≤ 1000000 := by decide) : CMulW x y := wide_mul h k h0 h1 hs
end Ob
namespace Ob
open PySem PySem.Spec PyProof.Rows L2
/-! ### readings, one step each -/
def rLen (K : PySem.W.Frag) : List V → Hp → VK → Prop := fun xs H Q => ∃ p ys, xs = [.ref p] ∧ (SqL K H p ys ∨ SqT K H p ys) ∧ Q (.int ys.length) H
section
variable {K : PySem.W.Frag} {σ : L2.St} {H : Hp} {D : Ends} {te ta tb : TE} {tt uu : TT} {tr : TA} {tl : TA} {Q : VK} {R : Bool → Hp → Prop} {T : List V → Hp → Prop} {v : V} {s1 s2 : TS}
theorem rd_var {i : Nat} (h : σ[i]? = some (some v)) (q : Q v H) : tVar i σ H Q := ⟨v, h, q⟩
theorem rd_c (q : Q v H) : tC v σ H Q := q
theorem rd_nil (q : T [] H) : tNil σ H T := q
theorem rd_cons (q : ta σ H fun x H1 => tl σ H1 fun xs H2 => T (x :: xs) H2) : tCons ta tl σ H T := q
theorem rd_op {r : R2} (q : ta σ H fun x H1 => tb σ H1 fun y H2 => r x y H2 Q) : tOp r ta tb σ H Q := q
theorem rd_un {r : V → Hp → VK → Prop} (q : ta σ H fun x H1 => r x H1 Q) : tUn r ta σ H Q := q
theorem rd_I0 {g : Int → Int → V} {i j : Int} (q : Q (g i j) H) : rI0 g (.int i) (.int j) H Q := ⟨i, j, rfl, rfl, q⟩
theorem rd_I {C : Int → Int → Prop} {g : Int → Int → V} {i j : Int} (c : C i j) (q : Q (g i j) H) : rI C g (.int i) (.int j) H Q := ⟨i, j, rfl, rfl, c, q⟩
theorem rd_U {g : Int → V} {i : Int} (q : Q (g i) H) : rU g (.int i) H Q := ⟨i, rfl, q⟩
theorem rd_eqI {i j : Int} (q : Q (.bl (decide (i = j))) H) : rEq (.int i) (.int j) H Q := ⟨rfl, by
  have e : decide (V.int i = V.int j) = decide (i = j) := by
    by_cases h : i = j
    · rw [decide_eq_true h, decide_eq_true (by rw [h])]
    · rw [decide_eq_false h, decide_eq_false fun z => h (V.int.inj z)]
  rw [e]
  exact q⟩
theorem rd_neI {i j : Int} (q : Q (.bl (!decide (i = j))) H) : rNe (.int i) (.int j) H Q := ⟨rfl, by
  have e : decide (V.int i = V.int j) = decide (i = j) := by
    by_cases h : i = j
    · rw [decide_eq_true h, decide_eq_true (by rw [h])]
    · rw [decide_eq_false h, decide_eq_false fun z => h (V.int.inj z)]
  rw [e]
  exact q⟩
theorem rd_same {x : V} (h : scal x x = true) (q : Q (.bl true) H) : rEq x x H Q := ⟨h, by rw [decide_eq_true rfl]; exact q⟩
theorem rd_nsame {x : V} (h : scal x x = true) (q : Q (.bl false) H) : rNe x x H Q := ⟨h, by rw [decide_eq_true rfl]; exact q⟩
theorem rd_test (q : te σ H fun x H' => ∃ k, x = .bl k ∧ R k H') : tTest te σ H R := q
theorem rd_B (q : te σ H fun x H' => ∃ k, x = .bl k ∧ R k H') : tB te σ H R := q
theorem rd_bl {c : Bool} {R : Bool → Prop} (q : R c) : ∃ k, V.bl c = V.bl k ∧ R k := ⟨c, rfl, q⟩
theorem rd_not (q : tt σ H fun c H1 => R (!c) H1) : tNot tt σ H R := q
theorem rd_and (q : tt σ H fun c H1 => if c = true then uu σ H1 R else R false H1) : tAnd tt uu σ H R := q
theorem rd_or (q : tt σ H fun c H1 => if c = true then R true H1 else uu σ H1 R) : tOr tt uu σ H R := q
theorem rd_andV (q : ta σ H fun x H1 => ∃ c, x = .bl c ∧ if c = true then tb σ H1 Q else Q (.bl false) H1) : tAndV ta tb σ H Q := q
theorem rd_orV (q : ta σ H fun x H1 => ∃ c, x = .bl c ∧ if c = true then Q (.bl true) H1 else tb σ H1 Q) : tOrV ta tb σ H Q := q
theorem rd_notV (q : ta σ H fun x H1 => ∃ c, x = .bl c ∧ Q (.bl (!c)) H1) : tNotV ta σ H Q := q
theorem rd_ifE (q : tt σ H fun c H1 => if c = true then ta σ H1 Q else tb σ H1 Q) : tIf tt ta tb σ H Q := q
theorem rd_tup (q : tl σ H fun xs H1 => xs.length ≤ sizeLine ∧ ∀ p, H1 p = none → Q (.ref p) (upd H1 p (.tup xs))) : tTup tl σ H Q := q
theorem rd_lst (q : tl σ H fun xs H1 => xs.length ≤ sizeLine ∧ ∀ p, H1 p = none → Q (.ref p) (upd H1 p (.lst xs))) : tLst tl σ H Q := q
theorem rd_new {xs : List V} {A : Prop} (h : Nat.ble xs.length 1000 = true) (q : A) : xs.length ≤ sizeLine ∧ A := ⟨Nat.le_of_lt (small1000 (Nat.le_of_ble_eq_true h)), q⟩
def kT (Q : VK) (xs : List V) (H : Hp) : Prop := xs.length ≤ sizeLine ∧ ∀ p, H p = none → Q (.ref p) (upd H p (.tup xs))
def kL (Q : VK) (xs : List V) (H : Hp) : Prop := xs.length ≤ sizeLine ∧ ∀ p, H p = none → Q (.ref p) (upd H p (.lst xs))
theorem rd_tupK (q : tl σ H fun xs H1 => kT Q xs H1) : tTup tl σ H Q := q
theorem rd_lstK (q : tl σ H fun xs H1 => kL Q xs H1) : tLst tl σ H Q := q
theorem rd_kT {xs : List V} (h : Nat.ble xs.length 1000 = true) (q : ∀ p J, H p = none → Same H J → J p = some (.tup xs) → Q (.ref p) J) : kT Q xs H :=
  ⟨Nat.le_of_lt (small1000 (Nat.le_of_ble_eq_true h)), fun p np => q p _ np (fun a u e => by rw [upd_ne (ne_of_none e np)]; exact e) upd_same⟩
theorem rd_kL {xs : List V} (h : Nat.ble xs.length 1000 = true) (q : ∀ p J, H p = none → Same H J → J p = some (.lst xs) → Q (.ref p) J) : kL Q xs H :=
  ⟨Nat.le_of_lt (small1000 (Nat.le_of_ble_eq_true h)), fun p np => q p _ np (fun a u e => by rw [upd_ne (ne_of_none e np)]; exact e) upd_same⟩
theorem rd_call {sp : Sp} {dvs : List V} {E : XK} (q : tl σ H fun vs H1 => sp (vs ++ dvs) H1 Q E) : tCall sp dvs E tl σ H Q := q
theorem rd_CB {r : List V → Hp → VK → Prop} (q : tl σ H fun vs H1 => r vs H1 Q) : tCB r tl σ H Q := q
theorem rd_one {i : Int} {R : Int → Prop} (q : R i) : ∃ j, [V.int i] = [V.int j] ∧ R j := ⟨i, rfl, q⟩
theorem rd_two {i j : Int} {R : Int → Int → Prop} (q : R i j) : ∃ k l, [V.int i, V.int j] = [V.int k, V.int l] ∧ R k l := ⟨i, j, rfl, q⟩
theorem rd_int {i : Int} {R : Int → Prop} {S : Bool → Prop} (q : R i) : (∃ j, [V.int i] = [V.int j] ∧ R j) ∨ ∃ k, [V.int i] = [V.bl k] ∧ S k := .inl ⟨i, rfl, q⟩
theorem rd_intB {b : Bool} {R : Int → Prop} {S : Bool → Prop} (q : S b) : (∃ j, [V.bl b] = [V.int j] ∧ R j) ∨ ∃ k, [V.bl b] = [V.bl k] ∧ S k := .inr ⟨b, rfl, q⟩
theorem rd_sxL {p : Addr} {xs : List V} {i : Int} (h : SqL K H p xs) (ha : atI xs i = some v) (q : Q v H) : rIx K (.ref p) (.int i) H Q := .inl ⟨p, xs, i, v, rfl, rfl, h, ha, q⟩
theorem rd_sxT {p : Addr} {xs : List V} {i : Int} (h : SqT K H p xs) (ha : atI xs i = some v) (q : Q v H) : rIx K (.ref p) (.int i) H Q := .inr (.inl ⟨p, xs, i, v, rfl, rfl, h, ha, q⟩)
theorem fmod_rng {x n : Int} (h : 0 < n) : 0 ≤ x.fmod n ∧ x.fmod n < n := by
  rw [Int.fmod_eq_emod_of_nonneg x (by omega)]
  exact ⟨Int.emod_nonneg x (by omega), Int.emod_lt_of_pos x h⟩
/-- a rest of which only the bounds matter -/
theorem rd_md {i j : Int} (c : 0 < j) (q : ∀ r, 0 ≤ r → r < j → Q (.int r) H) : rI (fun _ j => j ≠ 0) (fun i j => V.int (i.fmod j)) (.int i) (.int j) H Q :=
  ⟨i, j, rfl, rfl, by omega, q _ (fmod_rng c).1 (fmod_rng c).2⟩
def Lp (J : It) (g : TG) (tb : TS) (D : Ends) (σ : L2.St) (H : Hp) : Prop := ∃ W : Nat → Nat → L2.St → Hp → Prop, (∃ m, W 0 m σ H) ∧ ∀ i m σ H, W i m σ H →
  (J.stop i H ∧ D.nx σ H) ∨ (J.go i H ∧ ∃ N : L2.St → Hp → Prop, (∀ σ' H', N σ' H' → ∃ m', m' < m ∧ W (i + 1) m' σ' H') ∧ ∀ x H', J.yld i H x H' → g x σ H' fun σ2 H2 => tb { D with nx := N, ct := N, bk := D.nx } σ2 H2)
theorem rd_for1 {ta : TA} {g : TG} {tb : TS} (q : ta σ H fun vs H1 => ∃ j : Int, vs = [.int j] ∧ -(2 ^ 62) ≤ j ∧ j < 2 ^ 62 ∧ Lp (Itr 0 j.toNat) g tb D σ H1) : tFor (iRng1 ta) g tb D σ H := q
theorem rd_for1b {j : Int} {R : Int → Prop} (h : -(2 ^ 62) ≤ j ∧ j < 2 ^ 62) (q : R j) : ∃ k : Int, [V.int j] = [V.int k] ∧ -(2 ^ 62) ≤ k ∧ k < 2 ^ 62 ∧ R k := ⟨j, rfl, h.1, h.2, q⟩
theorem lp_rng {lo : Int} {n : Nat} {g : TG} {tb : TS} (Pv : Nat → L2.St → Hp → Prop) (h0 : Pv 0 σ H) (hs : ∀ i σ H, i < n → Pv i σ H → g (.int (lo + i)) σ H fun σ2 H2 => tb { D with nx := Pv (i + 1), ct := Pv (i + 1), bk := D.nx } σ2 H2)
    (hd : ∀ σ H, Pv n σ H → D.nx σ H) : Lp (Itr lo n) g tb D σ H := for_range Pv h0 hs hd
theorem rd_len {a : Addr} {ys : List V} (h : SqL K H a ys) (q : Q (.int ys.length) H) : rLen K [.ref a] H Q := ⟨a, ys, rfl, .inl h, q⟩
theorem rd_lenTu {a : Addr} {ys : List V} (h : SqT K H a ys) (q : Q (.int ys.length) H) : rLen K [.ref a] H Q := ⟨a, ys, rfl, .inr h, q⟩
theorem rd_repr {a : Addr} {d : PyData} (h : Dp K H (.ref a) d) (h1 : sm d = true) (h2 : sz d ≤ 1000000) (h3 : d.depth ≤ 50) (q : Q (.str d.shown) H) : rRepr K [.ref a] H Q := ⟨a, d, rfl, h, h1, h2, h3, q⟩
theorem rd_gtup {a : Addr} {xs : List V} {n : Nat} {t : TGs} {F : L2.St → Hp → Prop} (h : SqT K H a xs) (hn : xs.length = n) (q : t xs σ H F) : gTup K n t (.ref a) σ H F := ⟨a, xs, rfl, h, hn, q⟩
theorem rd_gcons {t : TG} {u : TGs} {w : V} {r : List V} {F : L2.St → Hp → Prop} (q : t w σ H fun σ' H' => u r σ' H' F) : gCons t u (w :: r) σ H F := ⟨w, r, rfl, q⟩
theorem rd_gnil {F : L2.St → Hp → Prop} (q : F σ H) : gNil [] σ H F := ⟨rfl, q⟩
theorem rd_isi {x : V} {n t : String} {b : Bool} (ty : TyX K H x (.type t)) (h : kitB t n = some b) (q : Q (.bl b) H) : rIsi K [x, .ty n] H Q := ⟨x, .ty n, _, _, b, rfl, .ty n, ty, kit_ty h, q⟩
theorem rd_isiI {i : Int} {n : String} {b : Bool} (h : kitB "int" n = some b) (q : Q (.bl b) H) : rIsi K [.int i, .ty n] H Q := rd_isi (.base (.int i)) h q
theorem rd_isiB {i : Bool} {n : String} {b : Bool} (h : kitB "bool" n = some b) (q : Q (.bl b) H) : rIsi K [.bl i, .ty n] H Q := rd_isi (.base (.bl i)) h q
theorem rd_isiN {n : String} {b : Bool} (h : kitB "NoneType" n = some b) (q : Q (.bl b) H) : rIsi K [.non, .ty n] H Q := rd_isi (.base .non) h q
theorem rd_isiS {i : Str} {n : String} {b : Bool} (h : kitB "str" n = some b) (q : Q (.bl b) H) : rIsi K [.str i, .ty n] H Q := rd_isi (.base (.str i)) h q
theorem rd_isiT {a : Addr} {xs : List V} {n : String} {b : Bool} (e : H a = some (.tup xs)) (h : kitB "tuple" n = some b) (q : Q (.bl b) H) : rIsi K [.ref a, .ty n] H Q := rd_isi (.base (.tup e)) h q
theorem rd_isiL {a : Addr} {xs : List V} {n : String} {b : Bool} (e : H a = some (.lst xs)) (h : kitB "list" n = some b) (q : Q (.bl b) H) : rIsi K [.ref a, .ty n] H Q := rd_isi (.base (.lst e)) h q
theorem rd_chain {r r' : R2} {tc : TE} (q : ta σ H fun x H1 => tb σ H1 fun y H2 => r x y H2 fun z H3 => ∃ k, z = .bl k ∧ if k = true then tc σ H3 fun w H4 => r' y w H4 Q else Q (.bl false) H3) : tChain r r' ta tb tc σ H Q := q
theorem rd_eqDs {x y : V} {d : PyData} (h : Dp K H x d) (k : Dp K H y d) (s : SeqAt.shaped d = true) (q : Q (.bl true) H) : rEqD K x y H Q := ⟨d, d, h, k, s, s, by rw [SeqAt.eqv_refl d (SeqAt.canLay_of_shaped s)]; exact q⟩
theorem rd_neDs {x y : V} {d : PyData} (h : Dp K H x d) (k : Dp K H y d) (s : SeqAt.shaped d = true) (q : Q (.bl false) H) : rNeD K x y H Q := ⟨d, d, h, k, s, s, by rw [SeqAt.eqv_refl d (SeqAt.canLay_of_shaped s)]; exact q⟩
theorem rd_cat {l b : Addr} {xs zs : List V} (h : H l = some (.lst xs)) (k : H b = some (.lst zs)) (hz : xs.length + zs.length ≤ 1000) (q : ∀ p, H p = none → Q (.ref p) (upd H p (.lst (xs ++ zs)))) : rCat (.ref l) (.ref b) H Q :=
  ⟨l, b, xs, zs, rfl, rfl, h, k, Nat.le_of_lt (small1000 hz), q⟩
theorem rd_rep {l : Addr} {k : Int} {xs ys : List V} (h : H l = some (.lst xs)) (h0 : 0 ≤ k ∧ k ≤ 1000) (hz : xs.length * k.toNat ≤ 1000) (e : (List.replicate k.toNat xs).flatten = ys) (q : ∀ p, H p = none → Q (.ref p) (upd H p (.lst ys))) : rRep (.ref l) (.int k) H Q := by
  subst e
  exact ⟨l, k, xs, rfl, rfl, h, by omega, by omega, Nat.le_of_lt (small1000 hz), q⟩
theorem rd_BM {T : String} {r : V → List V → Hp → VK → Prop} (q : te σ H fun x H1 => tyV K T x H1 ∧ tl σ H1 fun vs H2 => r x vs H2 Q) : tBM K T r te tl σ H Q := q
theorem rd_tyl {l : Addr} {xs : List V} {A : Prop} (h : H l = some (.lst xs)) (q : A) : tyV K "list" (.ref l) H ∧ A := ⟨.inl ⟨rfl, _, SqL.of h⟩, q⟩
theorem rd_app {l : Addr} {y : V} {xs : List V} (h : H l = some (.lst xs)) (hz : xs.length ≤ 1000) (q : Q .non (upd H l (.lst (xs ++ [y])))) : rAppend (.ref l) [y] H Q := ⟨l, xs, y, rfl, rfl, h, small1000 hz, q⟩
/-- what a comprehension's loop is to reach -/
def Lc (J : It) (g : TG) (tt : TT) (te : TE) (vs : List Nat) (σ : L2.St) (Qd : Hp → Prop) (H1 : Hp) (D : Addr) : Prop := ∃ W : Nat → Nat → Hp → Prop, (∃ m, W 0 m (upd H1 D (.lst []))) ∧ ∀ i m H, W i m H →
  (J.stop i H ∧ Qd H) ∨ (J.go i H ∧ ∃ Nx : Hp → Prop, (∀ H', Nx H' → ∃ m', m' < m ∧ W (i + 1) m' H') ∧ ∀ x H', J.yld i H x H' → g x (wipe σ vs) H' fun σ2 H2 => wipe σ2 vs = wipe σ vs ∧ tt σ2 H2 fun b H3 =>
    if b = true then te σ2 H3 fun y H4 => ∃ acc, H4 D = some (.lst acc) ∧ acc.length < sizeLine ∧ Nx (upd H4 D (.lst (acc ++ [y]))) else Nx H3)
theorem rd_lc {wi : TI} {g : TG} {vs : List Nat} (q : wi σ H fun J H1 => ∀ D, H1 D = none → Lc J g tt te vs σ (fun H' => Q (.ref D) H') H1 D) : tLc wi g tt te vs σ H Q := q
theorem rd_iTup {R : It → Hp → Prop} (q : te σ H fun x H1 => ∃ a, x = .ref a ∧ (∃ xs, SqT K H1 a xs) ∧ R (Itt K a) H1) : iTup K te σ H R := q
theorem rd_iTupA {a : Addr} {xs : List V} {R : Addr → Prop} (h : SqT K H a xs) (q : R a) : ∃ p, V.ref a = .ref p ∧ (∃ xs, SqT K H p xs) ∧ R p := ⟨a, rfl, ⟨xs, h⟩, q⟩
theorem rd_iLst {R : It → Hp → Prop} (q : te σ H fun x H1 => ∃ a, x = .ref a ∧ (∃ xs, SqL K H1 a xs) ∧ R (Itl K a) H1) : iList K te σ H R := q
theorem rd_iLstA {a : Addr} {xs : List V} {R : Addr → Prop} (h : SqL K H a xs) (q : R a) : ∃ p, V.ref a = .ref p ∧ (∃ xs, SqL K H p xs) ∧ R p := ⟨a, rfl, ⟨xs, h⟩, q⟩
theorem rd_iR1 {ta : TA} {R : It → Hp → Prop} (q : ta σ H fun vs H1 => ∃ j : Int, vs = [.int j] ∧ -(2 ^ 62) ≤ j ∧ j < 2 ^ 62 ∧ R (Itr 0 j.toNat) H1) : iRng1 ta σ H R := q
theorem upd_upd {D : Addr} {x y : HO} : upd (upd H D x) D y = upd H D y := by
  funext b
  unfold upd
  split <;> rfl
theorem rd_all {a : Addr} {bs : List Bool} (h : SqL K H a (bs.map V.bl)) (q : Q (.bl (bs.all id)) H) : rAll K [.ref a] H Q := ⟨a, bs, rfl, h, q⟩
theorem rd_gcd {i j : Int} (q : Q (.int ((Nat.gcd i.natAbs j.natAbs : Nat) : Int)) H) : rGcd [.int i, .int j] H Q := ⟨i, j, rfl, q⟩
theorem rd_seq (q : s1 { D with nx := s2 D } σ H) : tSeq s1 s2 D σ H := q
theorem rd_next (q : D.nx σ H) : tNext D σ H := q
theorem rd_ret (q : te σ H D.rt) : tRet te D σ H := q
theorem rd_drop (q : te σ H fun _ H1 => D.nx σ H1) : tDrop te D σ H := q
theorem rd_asg {g : TG} (q : te σ H fun x H1 => g x σ H1 D.nx) : tAsg te g D σ H := q
theorem rd_name {i : Nat} {F : L2.St → Hp → Prop} {τ : L2.St} (e : σ.set i (some v) = τ) (q : F τ H) : gName i v σ H F := by subst e; exact q
theorem rd_sub {to ti : TE} {t : TSet} {F : L2.St → Hp → Prop} (q : to σ H fun o H1 => ti σ H1 fun i H2 => t o i v H2 fun H3 => F σ H3) : gSub to ti t v σ H F := q
theorem rd_setL {p : Addr} {xs ys : List V} {k : Int} {j : Nat} {F : Hp → Prop} (h : H p = some (.lst xs)) (hj : ixN xs.length k = some j) (e : xs.set j v = ys) (q : F (upd H p (.lst ys))) : rSetL (.ref p) (.int k) v H F := by
  subst e
  exact ⟨p, xs, k, j, rfl, rfl, h, hj, q⟩
theorem rd_ifS (q : tt σ H fun b H1 => if b = true then s1 D σ H1 else s2 D σ H1) : tIfS tt s1 s2 D σ H := q
theorem rd_par {i j : Nat} {x y : V} {τ : L2.St} (e : (σ.set i (some x)).set j (some y) = τ) (q : D.nx τ H) : ∃ v w, [x, y] = [v, w] ∧ D.nx ((σ.set i (some v)).set j (some w)) H := by
  subst e
  exact ⟨x, y, rfl, q⟩
theorem rd_tpar {i j : Nat} (q : tl σ H fun vs H1 => ∃ v w, vs = [v, w] ∧ D.nx ((σ.set i (some v)).set j (some w)) H1) : tPar i j tl D σ H := q
theorem rd_if {P : Prop} [Decidable P] {A B : Prop} (h1 : P → A) (h2 : ¬ P → B) : if decide P = true then A else B := ite2 (fun c => h1 (of_decide_eq_true c)) fun c => h2 fun z => c (decide_eq_true z)
theorem rd_ifn {P : Prop} [Decidable P] {A B : Prop} (h1 : ¬ P → A) (h2 : P → B) : if (!decide P) = true then A else B :=
  ite2 (fun c => h1 (by simpa using c)) fun c => h2 (by simpa using c)
theorem rd_mulok {i j : Int} (h : (-(2 ^ 64) < i ∧ i < 2 ^ 64) ∨ (-(2 ^ 64) < j ∧ j < 2 ^ 64)) : IntMulOk i j := CMul.ok h
theorem rd_mulB {m n : Nat} {i j : Int} (h : Bd m i) (k : Bd n j) (h0 : 0 < m := by decide) (h1 : 0 < n := by decide) (hs : m + n ≤ 1000000 := by decide) : IntMulOk i j := (h.cmul k h0 h1 hs).ok
theorem rd_dvI {j : Int} (i : Int) (h : j ≠ 0) (k : j.natAbs < 2 ^ 400) : CDv i j := ⟨h, Nat.lt_of_lt_of_le k (Nat.pow_le_pow_right (by decide) (by decide))⟩
theorem rd_dvB {n : Nat} {j : Int} (i : Int) (h : j ≠ 0) (k : Bd n j) (hn : n ≤ 9000 := by decide) : CDv i j := ⟨h, k.mono hn⟩
end
section
variable {X : Cx}
theorem op_ml : OpR X (binaryOp .Mult) (rI IntMulOk fun i j => .int (i * j)) := opI fun _ _ _ _ _ _ _ hc q => mul_int q hc
end
structure Cal (P : Program) (w : World) (K : PySem.W.Frag) (mg : Str → Option Value) (base : Heap) (x : Str) (k : Nat) (f : Addr) (fd : FuncData) (ps : List Str) (sp : Sp) : Prop where
  g : FnG P w K mg base CX0 k f fd ps sp
  b : Binds K fd ps []
  kp : PySem.W.keepIn K (.ref f) = true
  m : mg x = some (.ref f)
theorem pe_c {X : Cx} {k : Nat} {f : Addr} {fd : FuncData} {ps : List Str} {sp : Sp} {x : Str} {e : Expr} {es : List Expr} {t : TA} {p pos : Pos} (C : Cal X.prog X.w X.K X.mg X.base x k f fd ps sp) (hg : X.A.guards = some []) (hr : Room k X.A) (gl : Gl X x)
    (ha : PA X (e :: es) t) (hdb : (x == ("__debug__" : Str)) = false := by decide) (he : starEach (e :: es) X.env = (false, eval e X.env) :: starEach es X.env := by rfl) (hpl : (backTo pos (starEach es X.env)).any (·.1) = false := by rfl) :
    PE X (.Call (.Name x p) (e :: es) [] pos) (tCall sp [] E0 t) := pe_g C.g hg hr gl C.m C.kp C.b .nil pass0 ha hdb he hpl
theorem room_u {k : Nat} {A : Around} (h : Room k A) : A.units + 64 < cLine := h.units
section
variable {X : Cx} {K : PySem.W.Frag}
theorem ixK (h : X.K = K) : IxR X (rIx K) := h ▸ ix_seq
theorem lenK (h : X.K = K) : CallR X (.builtin "len") (rLen K) := h ▸ call_len_seq
theorem isiK (h : X.K = K) : CallR X (.builtin "isinstance") (rIsi K) := h ▸ call_isi
theorem allK (h : X.K = K) (hc : X.calm = true) : CallR X (.builtin "all") (rAll K) := h ▸ cr_all hc
theorem eqK (h : X.K = K) (hu : X.A.units + 64 < cLine) : OpR X (compareOp .Eq) (rEqD K) := h ▸ op_eqD hu
theorem neK (h : X.K = K) (hu : X.A.units + 64 < cLine) : OpR X (compareOp .NotEq) (rNeD K) := h ▸ op_neD hu
theorem inK (h : X.K = K) : OpR X (compareOp .In) (rIn K false) := h ▸ op_in_seq
theorem slK (h : X.K = K) : SlR X (rSlL K) := h ▸ sl_list
theorem piL (h : X.K = K) {tg l : Expr} {tl : TE} (hl : PE X l tl) : PI X tg l (iList K tl) := h ▸ pi_list hl
theorem piT (h : X.K = K) {tg l : Expr} {tl : TE} (hl : PE X l tl) : PI X tg l (iTup K tl) := h ▸ pi_tup hl
end
/-! ### what stays -/
/-- all but what stands at b stays as it is -/
def Kp (b : Addr) (H J : Hp) : Prop := ∀ a o, a ≠ b → H a = some o → J a = some o
def Bag (b : Addr) (H : Hp) : Prop := ∃ x y : Int, H b = some (.lst [.int x, .int y])
def Scr (K : PySem.W.Frag) (H : Hp) (a : Addr) (xs : List V) : Prop := (∃ o, H a = some (.frz o (.lst xs))) ∨ SqL K (fun _ => none) a xs
section
variable {K : PySem.W.Frag} {H J M : Hp} {a b p : Addr} {xs ys : List V} {o : HO}
theorem Kp.refl : Kp b H H := fun _ _ _ e => e
theorem Kp.trans (h : Kp b H J) (k : Kp b J M) : Kp b H M := fun a o n e => k a o n (h a o n e)
theorem Kp.new (h : H p = none) : Kp b H (upd H p o) := fun a u _ e => by rw [upd_ne (ne_of_none e h)]; exact e
theorem Kp.at : Kp b H (upd H b o) := fun a u n e => by rw [upd_ne n]; exact e
theorem Kp.tup (h : Kp b H J) (g : Bag b H) (e : H a = some (.tup xs)) : J a = some (.tup xs) := h a _ (fun z => by
  obtain ⟨x, y, q⟩ := g
  subst z
  cases e.symm.trans q) e
theorem Kp.lst (h : Kp b H J) (n : a ≠ b) (e : H a = some (.lst xs)) : J a = some (.lst xs) := h a _ n e
theorem Bag.new (g : Bag b H) (h : H p = none) : Bag b (upd H p o) := by
  obtain ⟨x, y, q⟩ := g
  exact ⟨x, y, by rw [upd_ne (ne_of_none q h)]; exact q⟩
theorem Bag.ne (g : Bag b H) (h : H p = none) : p ≠ b := fun z => by
  obtain ⟨x, y, q⟩ := g
  subst z
  cases h.symm.trans q
theorem Bag.off (h : H p = none) (g : Bag b H) : p ≠ b := g.ne h
theorem Kp.free (k : Kp b H J) (g : Bag b J) (h : J p = none) : H p = none := by
  cases e : H p with
  | none => rfl
  | some o => cases h.symm.trans (k p o (g.ne h) e)
theorem set_tup (h : H p = some (.lst ys)) (e : H a = some (.tup xs)) : upd H p o a = some (.tup xs) := by
  rw [upd_ne (fun z => by subst z; cases h.symm.trans e)]
  exact e
theorem Bag.put (n : p ≠ b) (g : Bag b H) : Bag b (upd H p o) := by
  obtain ⟨x, y, q⟩ := g
  exact ⟨x, y, by rw [upd_ne (fun z => n z.symm)]; exact q⟩
theorem new_any {u : HO} (h : H p = none) (e : H a = some u) : upd H p o a = some u := by rw [upd_ne (ne_of_none e h)]; exact e
theorem Scr.sq (h : Scr K H a xs) : SqL K H a xs := by
  rcases h with ⟨o, e⟩ | (e | e)
  · exact .inl (.inr ⟨o, e⟩)
  · rcases e with e | ⟨_, e⟩ <;> cases e
  · exact .inr e
theorem Scr.kp (h : Kp b H J) (g : Bag b H) (e : Scr K H a xs) : Scr K J a xs := by
  rcases e with ⟨o, e⟩ | e
  · refine .inl ⟨o, h a _ (fun z => ?_) e⟩
    obtain ⟨x, y, q⟩ := g
    subst z
    cases e.symm.trans q
  · exact .inr e
theorem Scr.new (h : H p = none) (e : Scr K H a xs) : Scr K (upd H p o) a xs := by
  rcases e with ⟨u, e⟩ | e
  · exact .inl ⟨u, new_any h e⟩
  · exact .inr e
theorem Scr.of (o : Only H) (h : SqL K H a xs) : Scr K H a xs := by
  rcases h with (e | e) | e
  · rcases o a with z | ⟨_, _, z⟩
    · cases e.symm.trans z
    · cases e.symm.trans z
  · exact .inl e
  · exact .inr (.inr e)
theorem same_any {u : HO} (h : Same H J) (e : H a = some u) : J a = some u := h a u e
theorem Bag.same (h : Same H J) (g : Bag b H) : Bag b J := by
  obtain ⟨x, y, q⟩ := g
  exact ⟨x, y, h _ _ q⟩
theorem Scr.same (h : Same H J) (e : Scr K H a xs) : Scr K J a xs := by
  rcases e with ⟨o, e⟩ | e
  · exact .inl ⟨o, h _ _ e⟩
  · exact .inr e
theorem rd_pick {K : PySem.W.Frag} {Q : VK} {r : Int} (h : H p = some (.lst xs)) (h0 : 0 ≤ r) (h1 : r < xs.length) (q : ∀ v, v ∈ xs → Q v H) : rIx K (.ref p) (.int r) H Q := by
  have l1 : r.toNat < xs.length := by omega
  have e : r = ((r.toNat : Nat) : Int) := by omega
  have z := atI_nat (xs := xs) (List.getElem?_eq_getElem l1)
  rw [← e] at z
  exact rd_sxL (SqL.of h) z (q _ (List.getElem_mem l1))
theorem same_new (h : H p = none) : Same H (upd H p o) := fun a u e => by rw [upd_ne (ne_of_none e h)]; exact e
/-- the list at l has been changed, all else is as it was -/
def Pu (l : Addr) (H J : Hp) : Prop := Kp l H J ∧ (∃ ys, H l = some (.lst ys)) ∧ ∃ zs, J l = some (.lst zs)
theorem Pu.tup {l : Addr} (k : Pu l H J) (e : H a = some (.tup xs)) : J a = some (.tup xs) := k.1 a _ (fun z => by
  obtain ⟨ys, q⟩ := k.2.1
  subst z
  cases e.symm.trans q) e
theorem Pu.lst {l : Addr} (k : Pu l H J) (n : a ≠ l) (e : H a = some (.lst xs)) : J a = some (.lst xs) := k.1 a _ n e
theorem Pu.bag {l : Addr} (k : Pu l H J) (n : l ≠ b) (g : Bag b H) : Bag b J := by
  obtain ⟨x, y, q⟩ := g
  exact ⟨x, y, k.1 b _ (fun z => n z.symm) q⟩
theorem Pu.scr {K : PySem.W.Frag} {l : Addr} (k : Pu l H J) (e : Scr K H a xs) : Scr K J a xs := by
  rcases e with ⟨o, e⟩ | e
  · refine .inl ⟨o, k.1 a _ (fun z => ?_) e⟩
    obtain ⟨ys, q⟩ := k.2.1
    subst z
    cases e.symm.trans q
  · exact .inr e
theorem rd_appK {Q : VK} {l : Addr} {y : V} (h : H l = some (.lst xs)) (hz : xs.length ≤ 1000) (q : ∀ J, Pu l H J → J l = some (.lst (xs ++ [y])) → Q .non J) : rAppend (.ref l) [y] H Q :=
  ⟨l, xs, y, rfl, rfl, h, small1000 hz, q _ ⟨Kp.at, ⟨_, h⟩, ⟨_, upd_same⟩⟩ upd_same⟩
theorem rd_catK {Q : VK} {l m : Addr} {zs : List V} (h : H l = some (.lst xs)) (k : H m = some (.lst zs)) (hz : xs.length + zs.length ≤ 1000) (q : ∀ p J, H p = none → Same H J → J p = some (.lst (xs ++ zs)) → Q (.ref p) J) : rCat (.ref l) (.ref m) H Q :=
  ⟨l, m, xs, zs, rfl, rfl, h, k, Nat.le_of_lt (small1000 hz), fun p np => q p _ np (same_new np) upd_same⟩
theorem rd_repK {Q : VK} {l : Addr} {k : Int} (h : H l = some (.lst xs)) (h0 : 0 ≤ k ∧ k ≤ 1000) (hz : xs.length * k.toNat ≤ 1000) (e : (List.replicate k.toNat xs).flatten = ys) (q : ∀ p J, H p = none → Same H J → J p = some (.lst ys) → Q (.ref p) J) : rRep (.ref l) (.int k) H Q := by
  subst e
  exact ⟨l, k, xs, rfl, rfl, h, by omega, by omega, Nat.le_of_lt (small1000 hz), fun p np => q p _ np (same_new np) upd_same⟩
theorem Kp.of (h : Same H J) : Kp b H J := fun a o _ e => h a o e
theorem pick_int {ns : List Int} {r : Int} (h0 : 0 ≤ r) (h : r < ns.length) : ∃ n, atI (ns.map V.int) r = some (.int n) ∧ n ∈ ns := by
  have h1 : r.toNat < ns.length := by omega
  have e : r = ((r.toNat : Nat) : Int) := by omega
  have q : atI (ns.map V.int) ((r.toNat : Nat) : Int) = some (.int ns[r.toNat]) := atI_nat (by rw [List.getElem?_map, List.getElem?_eq_getElem h1]; rfl)
  rw [← e] at q
  exact ⟨ns[r.toNat], q, List.getElem_mem h1⟩
def msr : L2.St → Nat
  | [_, some (.int y)] => y.natAbs
  | _ => 0
end
/-! ### greatest common divisors, lowest terms -/
theorem gcd_turn {x y : Int} : Int.gcd y (x.fmod y) = Int.gcd x y := by
  rw [Int.fmod_def, Int.gcd_sub_mul_left_right, Int.gcd_comm]
theorem fmod_abs {x y : Int} (h : y ≠ 0) : (x.fmod y).natAbs < y.natAbs := by
  rcases Int.lt_or_gt_of_ne h with h1 | h1
  · have := fmod_rng (x := -x) (n := -y) (by omega)
    rw [Int.neg_fmod_neg] at this
    omega
  · have := fmod_rng (x := x) h1
    omega
theorem natAbs_fdiv_le (u : Int) {v : Int} (h : 0 < v) : (u.fdiv v).natAbs ≤ u.natAbs := by
  rw [Int.fdiv_eq_ediv_of_nonneg u (by omega)]
  exact Int.natAbs_ediv_le_natAbs u v
theorem dvd_gcd1 {x y v : Int} (g : Int.gcd x y = 1) (h : y ∣ x * v) : y ∣ v := by
  have h1 : y.natAbs ∣ x.natAbs * v.natAbs := by rw [← Int.natAbs_mul]; exact Int.natAbs_dvd_natAbs.mpr h
  have g1 : Nat.Coprime y.natAbs x.natAbs := by rw [Nat.coprime_comm]; exact g
  exact Int.natAbs_dvd_natAbs.mp (g1.dvd_of_dvd_mul_left h1)
/-- a ratio in lowest terms is one alone -/
theorem low_one {x y u v : Int} (hy : 0 < y) (hv : 0 < v) (g : Int.gcd x y = 1) (k : Int.gcd u v = 1) (e : x * v = u * y) : x = u ∧ y = v := by
  have d1 : y ∣ v := dvd_gcd1 g ⟨u, by rw [e, Int.mul_comm]⟩
  have d2 : v ∣ y := dvd_gcd1 k ⟨x, by rw [← e, Int.mul_comm]⟩
  have e2 : y = v := Int.dvd_antisymm (by omega) (by omega) d1 d2
  subst e2
  exact ⟨Int.eq_of_mul_eq_mul_right (by omega) e, rfl⟩
def IsLow (t u x y : Int) : Prop := 0 < y ∧ Int.gcd x y = 1 ∧ x * u = t * y ∧ x.natAbs ≤ t.natAbs ∧ y.natAbs ≤ u.natAbs
theorem low_uniq {t u x y t' u' x' y' : Int} (h : IsLow t u x y) (k : IsLow t' u' x' y') (hu : u ≠ 0) (hv : u' ≠ 0) (e : t * u' = t' * u) : x = x' ∧ y = y' := by
  obtain ⟨y0, g, e1, _, _⟩ := h
  obtain ⟨v0, g', e2, _, _⟩ := k
  refine low_one y0 v0 g g' (Int.eq_of_mul_eq_mul_right (Int.mul_ne_zero hu hv) ?_)
  grind
theorem low_at {t u s : Int} (h : u ≠ 0) (es : s = if u < 0 then -((Int.gcd t u : Nat) : Int) else ((Int.gcd t u : Nat) : Int)) : IsLow t u (t.fdiv s) (u.fdiv s) ∧ s ≠ 0 ∧ s.natAbs ≤ u.natAbs := by
  have g0 : 0 < Int.gcd t u := Int.gcd_pos_of_ne_zero_right t h
  have gu : (Int.gcd t u) ≤ u.natAbs := Int.gcd_le_natAbs_right t (by omega)
  have ns : s.natAbs = Int.gcd t u := by rw [es]; split <;> omega
  have s0 : s ≠ 0 := by omega
  have du : s ∣ u := by rw [← Int.natAbs_dvd, ns]; exact Int.gcd_dvd_right t u
  have dt : s ∣ t := by rw [← Int.natAbs_dvd, ns]; exact Int.gcd_dvd_left t u
  have eu := Int.fdiv_mul_cancel du
  have et := Int.fdiv_mul_cancel dt
  generalize u.fdiv s = y at *
  generalize t.fdiv s = x at *
  refine ⟨⟨?_, ?_, ?_, ?_, ?_⟩, s0, by omega⟩
  · rcases Int.lt_or_gt_of_ne h with n | n
    · have sn : s < 0 := by rw [es, if_pos n]; omega
      by_cases z : 0 < y
      · exact z
      · have z : y ≤ 0 := by omega
        have := Int.mul_nonneg_of_nonpos_of_nonpos z (show s ≤ 0 by omega)
        omega
    · have sp : 0 < s := by rw [es, if_neg (by omega)]; omega
      by_cases z : 0 < y
      · exact z
      · have z : y ≤ 0 := by omega
        have := Int.mul_nonpos_of_nonpos_of_nonneg z (show 0 ≤ s by omega)
        omega
  · have q : Int.gcd t u = s.natAbs * Int.gcd x y := by rw [← et, ← eu, Int.mul_comm x s, Int.mul_comm y s, Int.gcd_mul_left]
    rw [ns] at q
    exact Nat.eq_of_mul_eq_mul_left g0 (by omega)
  · rw [← eu, ← et, Int.mul_assoc, Int.mul_comm s y]
  · rw [← et, Int.natAbs_mul]
    exact Nat.le_mul_of_pos_right _ (by omega)
  · rw [← eu, Int.natAbs_mul]
    exact Nat.le_mul_of_pos_right _ (by omega)
end Ob
namespace Ob
open PySem PySem.Spec PyProof.Rows L2
/-! ### a tuple of the module's own top -/
structure TupC (K : PySem.W.Frag) (mg : Str → Option Value) (x : Str) (z : Addr) (xs : List V) : Prop where
  m : mg x = some (.ref z)
  sq : ∀ H, SqT K H z xs
def TupObj (o : Obj) (xs : List V) : Prop := o.cls = .type "tuple" ∧ ∃ its n, o.data = .seq its n ∧ its.size ≤ sizeLine ∧ Vals xs its.toList
theorem TupC.of {K : PySem.W.Frag} {mg : Str → Option Value} {x : Str} {z : Addr} {xs : List V} {o : Obj} (h : mg x = some (.ref z)) (l : K.lookup z = some o) (t : TupObj o xs) : TupC K mg x z xs :=
  ⟨h, fun _ => let ⟨c, its, n, d, s, v⟩ := t; .inr ⟨o, its, n, l, c, d, s, v⟩⟩
section
variable {K : PySem.W.Frag} {H J : Hp} {a b p l : Addr} {xs ys zs : List V} {o : HO}
theorem sqt_same (s : Same H J) (h : SqT K H a xs) : SqT K J a xs := by
  rcases h with (e | ⟨u, e⟩) | e
  · exact .inl (.inl (s _ _ e))
  · exact .inl (.inr ⟨u, s _ _ e⟩)
  · exact .inr e
theorem sqt_new (n : H p = none) (h : SqT K H a xs) : SqT K (upd H p o) a xs := sqt_same (same_new n) h
theorem sqt_kp (k : Kp b H J) (hb : ∀ e : H b = some (.tup xs), False) (hf : ∀ u, H b = some (.frz u (.tup xs)) → False) (h : SqT K H a xs) : SqT K J a xs := by
  rcases h with (e | ⟨u, e⟩) | e
  · exact .inl (.inl (k _ _ (fun z => by subst z; exact hb e) e))
  · exact .inl (.inr ⟨u, k _ _ (fun z => by subst z; exact hf u e) e⟩)
  · exact .inr e
theorem sqt_lst (k : Kp l H J) (e : H l = some (.lst ys)) (h : SqT K H a xs) : SqT K J a xs := sqt_kp k (fun z => by cases e.symm.trans z) (fun u z => by cases e.symm.trans z) h
theorem sqt_bag (k : Kp b H J) (g : Bag b H) (h : SqT K H a xs) : SqT K J a xs := by
  obtain ⟨x, y, e⟩ := g
  exact sqt_lst k e h
theorem sqt_pu (k : Pu l H J) (h : SqT K H a xs) : SqT K J a xs := by
  obtain ⟨ys, e⟩ := k.2.1
  exact sqt_lst k.1 e h
theorem sqt_fresh (k : Kp l H J) (e : H l = none) (h : SqT K H a xs) : SqT K J a xs := sqt_kp k (fun z => by cases e.symm.trans z) (fun u z => by cases e.symm.trans z) h
theorem tyT (h : SqT K H a xs) : TyX K H (.ref a) (.type "tuple") := by
  rcases h with (e | ⟨u, e⟩) | ⟨o, its, n, l, c, _⟩
  · exact .base (.tup e)
  · exact .fTuple e
  · exact .kTuple l c
theorem rd_isiQ {Q : VK} {n : String} {b : Bool} (e : SqT K H a xs) (h : kitB "tuple" n = some b) (q : Q (.bl b) H) : rIsi K [.ref a, .ty n] H Q := rd_isi (tyT e) h q
variable {σ : L2.St} {te : TE} {D : Addr}
theorem rd_sl {Q : VK} {r : V → Option Int → Option Int → Hp → VK → Prop} {tl th : TO} (q : te σ H fun x H1 => tl σ H1 fun l H2 => th σ H2 fun u H3 => r x l u H3 Q) : tSl r te tl th σ H Q := q
theorem rd_part {R : Option Int → Hp → Prop} (q : te σ H fun x H1 => ∃ i, x = .int i ∧ R (some i) H1) : tPart te σ H R := q
theorem rd_partI {i : Int} {R : Int → Prop} (q : R i) : ∃ j, V.int i = .int j ∧ R j := ⟨i, rfl, q⟩
theorem rd_nopart {R : Option Int → Hp → Prop} (q : R none H) : tNoPart σ H R := q
theorem rd_slL {Q : VK} {lo hi : Option Int} (h : SqL K H a xs) (e : cutV xs lo hi = ys) (q : ∀ p J, H p = none → Same H J → J p = some (.lst ys) → Q (.ref p) J) : rSlL K (.ref a) lo hi H Q := by
  subst e
  exact ⟨a, xs, rfl, h, fun p np => q p _ np (same_new np) upd_same⟩
theorem rd_zip {ta : TA} {R : It → Hp → Prop} (q : ta σ H fun vs H1 => ∃ a b xs ys, vs = [.ref a, .ref b] ∧ SqL K H1 a xs ∧ SqL K H1 b ys ∧ R (Itz K a b) H1) : iZip K ta σ H R := q
theorem rd_zipA {R : Addr → Addr → Prop} (h : SqL K H a xs) (k : SqL K H b ys) (q : R a b) : ∃ a' b' xs ys, [V.ref a, V.ref b] = [.ref a', .ref b'] ∧ SqL K H a' xs ∧ SqL K H b' ys ∧ R a' b' := ⟨a, b, xs, ys, rfl, h, k, q⟩
theorem pgT {X : Cx} (h : X.K = K) {es : List Expr} {k n : Nat} {t : TGs} {pos : Pos} (hc : X.calm = true) (hs : PGs X es t) (hn : (assignEach es X.env).length = n := by rfl) (hst : (assignEach es X.env).findIdx? (·.1) = none := by rfl) : PG X (.Tuple es k pos) (gTup K n t) := h ▸ pg_tup hc hs hn hst
/-! ### a ratio at an address, spans, a list of spans -/
structure Ra (K : PySem.W.Frag) (H : Hp) (p : Addr) (x y : Int) : Prop where
  sq : SqT K H p [.int x, .int y]
  pos : 0 < y
  gcd : Int.gcd x y = 1
  bx : Bd 1000 x
  bu : Bd 1000 y
theorem Ra.mono {x y : Int} (h : Ra K H p x y) (m : ∀ xs, SqT K H p xs → SqT K J p xs) : Ra K J p x y := ⟨m _ h.sq, h.pos, h.gcd, h.bx, h.bu⟩
structure Sn where
  x : Int
  y : Int
  u : Int
  v : Int
def SnAt (K : PySem.W.Frag) (H : Hp) (r : V) (s : Sn) : Prop := ∃ c p q, r = .ref c ∧ SqT K H c [.ref p, .ref q] ∧ Ra K H p s.x s.y ∧ Ra K H q s.u s.v
theorem SnAt.mono {r : V} {s : Sn} (h : SnAt K H r s) (m : ∀ p xs, SqT K H p xs → SqT K J p xs) : SnAt K J r s :=
  let ⟨c, p, q, e, h1, h2, h3⟩ := h; ⟨c, p, q, e, m _ _ h1, h2.mono (m _), h3.mono (m _)⟩
inductive SnsAt (K : PySem.W.Frag) (H : Hp) : List V → List Sn → Prop
  | nil : SnsAt K H [] []
  | cons {r : V} {rs : List V} {s : Sn} {ss : List Sn} (h : SnAt K H r s) (t : SnsAt K H rs ss) : SnsAt K H (r :: rs) (s :: ss)
theorem SnsAt.mono (m : ∀ p xs, SqT K H p xs → SqT K J p xs) : ∀ {rs : List V} {ss : List Sn}, SnsAt K H rs ss → SnsAt K J rs ss
  | _, _, .nil => .nil
  | _, _, .cons h t => .cons (h.mono m) (t.mono m)
theorem SnsAt.len : ∀ {rs : List V} {ss : List Sn}, SnsAt K H rs ss → rs.length = ss.length
  | _, _, .nil => rfl
  | _, _, .cons _ t => congrArg (· + 1) t.len
theorem SnsAt.get : ∀ {rs : List V} {ss : List Sn} {i : Nat} {r : V}, SnsAt K H rs ss → rs[i]? = some r → ∃ s, ss[i]? = some s ∧ SnAt K H r s
  | _, _, _, _, .nil, e => by simp at e
  | _, _, 0, _, .cons h t, e => by
    cases Option.some.inj (show some _ = some _ from e)
    exact ⟨_, rfl, h⟩
  | _, _, i + 1, _, .cons h t, e => t.get (i := i) e
theorem SnsAt.tail : ∀ {rs : List V} {ss : List Sn}, SnsAt K H rs ss → SnsAt K H rs.tail ss.tail
  | _, _, .nil => .nil
  | _, _, .cons _ t => t
/-! the same as data -/
def snD (s : Sn) : PyData := .tuple [.tuple [.int s.x, .int s.y], .tuple [.int s.u, .int s.v]]
theorem Ra.dp {x y : Int} (h : Ra K H p x y) : Dp K H (.ref p) (.tuple [.int x, .int y]) := .tup h.sq (.cons (.int _) (.cons (.int _) .nil))
theorem SnsAt.dp : ∀ {rs : List V} {ss : List Sn}, SnsAt K H rs ss → DpAll K H rs (ss.map snD)
  | _, _, .nil => .nil
  | _, _, .cons h t => by
    obtain ⟨c, p, q, rfl, hc, h1, h2⟩ := h
    exact .cons (.tup hc (.cons h1.dp (.cons h2.dp .nil))) t.dp
theorem SnsAt.small : ∀ {rs : List V} {ss : List Sn}, SnsAt K H rs ss → sms (ss.map snD) = true ∧ szs (ss.map snD) ≤ 5000 * rs.length ∧ PyData.depthAll (ss.map snD) ≤ 2 ∧ PyData.canLayAll0 (ss.map snD) = true
  | _, _, .nil => ⟨by simp [sms], by simp [szs], by simp [PyData.depthAll], by simp [PyData.canLayAll0]⟩
  | _, _, .cons h t => by
    obtain ⟨c, p, q, rfl, hc, h1, h2⟩ := h
    obtain ⟨a1, a2, a3, a4⟩ := t.small
    have b1 := h1.bx.log
    have b2 := h1.bu.log
    have b3 := h2.bx.log
    have b4 := h2.bu.log
    refine ⟨?_, ?_, ?_, ?_⟩
    · simp only [List.map_cons, snD, sms, sm, a1, Bool.and_true, Bool.and_eq_true, decide_eq_true_eq]
      omega
    · simp only [List.map_cons, snD, szs, sz, List.length_cons]
      omega
    · simp only [List.map_cons, snD, PyData.depthAll, PyData.depth]
      omega
    · simp [List.map_cons, snD, PyData.canLayAll0, PyData.canLay0, a4]
theorem eqv_two {x y u v : Int} : PyData.eqv (.tuple [.int x, .int y]) (.tuple [.int u, .int v]) = decide (x = u ∧ y = v) := by
  by_cases h : x = u <;> by_cases k : y = v <;> simp [PyData.eqv, PyData.eqvAll, h, k]
theorem rd_eqR {Q : VK} {x y u v : Int} (h : SqT K H a [.int x, .int y]) (k : SqT K H b [.int u, .int v]) (q : Q (.bl (decide (x = u ∧ y = v))) H) : rEqD K (.ref a) (.ref b) H Q :=
  ⟨_, _, Dp.tup h (.cons (.int _) (.cons (.int _) .nil)), Dp.tup k (.cons (.int _) (.cons (.int _) .nil)), by simp [SeqAt.shaped, PyData.canLay0, PyData.canLayAll0, PyData.depth, PyData.depthAll], by simp [SeqAt.shaped, PyData.canLay0, PyData.canLayAll0, PyData.depth, PyData.depthAll], by rw [eqv_two]; exact q⟩
def okS (s : Sn) : Bool := decide (¬ s.x * 1 < 0 * s.y) && (decide (s.x * s.v < s.u * s.y) && decide (¬ 1 * s.v < s.u * 1))
def okN (s t : Sn) : Bool := decide (s.u * t.y < t.x * s.v)
def cutsB (ss : List Sn) : Bool := (ss.map okS).all id && (List.zipWith okN ss ss.tail).all id
end
end Ob
/-! What the head's run asks of own classes of errors over built-in ones. -/
namespace Ob
open PySem PySem.Spec PyProof.Rows L2
end Ob
/-! What the head's run asks of a text at the module's top, and of own classes of errors over ValueError. -/
namespace Ob
open PySem PySem.Spec PyProof.Rows L2
def strC (o : Option (Option Value)) (x : Str) : Bool := match o with
  | some (some (.str j _)) => decide (j = x)
  | _ => false
theorem strC_ok {o : Option (Option Value)} {x : Str} (h : strC o x = true) : ∃ t, o = some (some (.str x t)) := by
  unfold strC at h
  split at h
  · rename_i j t
    have e : j = x := of_decide_eq_true h
    subst e
    exact ⟨_, rfl⟩
  · cases h
def excF (K : PySem.W.Frag) (C : Addr) : Bool := match K.lookup C with
  | some ⟨.type "type", _, .cls ⟨_, _, .ref C' :: bm, _, _, hd, _, _, _, _, del⟩, sl⟩ => match sl.toList with
    | [_, _, _, _, some (.builtin n), _] => decide (C' = C) && (n == "ValueError.__new__") && !del && hd && PySem.HandSPX.refsVE bm
    | _ => false
  | _ => false
theorem excO_ok {K : PySem.W.Frag} {C : Addr} (h : excF K C = true) : ∃ nm qn N bs bm sn su ab co dd k0 k1 k2 k3 k5, K.lookup C = some (excClassObj nm qn C N bs bm true sn su ab co dd k0 k1 k2 k3 k5 "ValueError.__new__") ∧ PySem.HandSPX.refsVE bm = true := by
  unfold excF at h
  split at h
  · rename_i dd nm bs C' bm N qn hd sn su ab co del sl e
    split at h
    · rename_i k0 k1 k2 k3 n k5 es
      simp only [Bool.and_eq_true, decide_eq_true_eq, Bool.not_eq_true', beq_iff_eq] at h
      obtain ⟨⟨⟨⟨rfl, rfl⟩, rfl⟩, rfl⟩, hr⟩ := h
      refine ⟨nm, qn, N, bs, bm, sn, su, ab, co, dd, k0, k1, k2, k3, k5, ?_, hr⟩
      rw [e]
      have : sl = #[k0, k1, k2, k3, some (.builtin "ValueError.__new__"), k5] := by
        rw [← Array.toList_inj]
        exact es
      rw [this]
    · cases h
  · cases h
def iniB (K : PySem.W.Frag) (X : Addr) : Bool := match PySem.W.findCls K (.ref X) (.type "type") "__init__" with
  | some (.val (.builtin x)) => x == "ValueError.__init__"
  | _ => false
theorem iniB_ok {K : PySem.W.Frag} {X : Addr} (h : iniB K X = true) : PySem.W.findCls K (.ref X) (.type "type") "__init__" = some (.val (.builtin "ValueError.__init__")) := by
  unfold iniB at h
  split at h
  · rename_i x e
    rw [e, beq_iff_eq.mp h]
  · cases h
end Ob
set_option maxHeartbeats 2000000
namespace Ob
open PySem PySem.Spec PyProof.Rows L2
/-! ### the head by one run: facts looked up in what the top has left -/
abbrev AlO : Type := Bool × List He.FnV
/-- a def: where it stands, its name, qualified name, parameters, body, scope -/
structure FnO where
  ad : PySem.W.Frag → Addr
  name : Str
  qual : Str
  params : Arguments
  body : List Stmt
  scope : Scope
def FnO.val (d : FnO) : He.FnV := some (d.name, d.qual, d.params, .stmts d.body, d.scope, mainGlobals, [], .none, builtinsNs)
def fnLook (K : PySem.W.Frag) (a : Addr) : He.FnV := match K.lookup a with
  | some ⟨_, _, .func fd, _⟩ => some (fd.name, fd.qualname, fd.params, fd.body, fd.scope, fd.globals, fd.closure, fd.defaults, fd.builtins)
  | _ => none
def fnCode (K : PySem.W.Frag) (a : Addr) (q : Str) : Bool := match K.lookup a with
  | some ⟨_, _, .func fd, _⟩ => PySem.W.codeIn K fd.code q
  | _ => false
theorem fnO_ok {K : PySem.W.Frag} {d : FnO} {a : Addr} (e : fnLook K a = d.val) (c : fnCode K a d.qual = true) :
    ∃ oc od osl kV doc pm an cdv ct, K.lookup a = some ⟨oc, od, .func (PySem.W.fnOf d.name d.qual d.params d.body d.scope .none kV doc pm an cdv ct), osl⟩ ∧ PySem.W.codeIn K cdv d.qual = true := by
  unfold fnLook at e
  unfold fnCode at c
  cases q : K.lookup a with
  | none =>
    rw [q] at c
    cases c
  | some o =>
    obtain ⟨oc, od, dt, osl⟩ := o
    rw [q] at c e
    cases dt with
    | func fd =>
      obtain ⟨n1, n2, n3, n4, n5, n6, n7, n8, n9, n10, n11, n12, n13, n14, n15⟩ := fd
      have e2 : (some (n1, n2, n3, n4, n5, n6, n7, n8, n15) : He.FnV) = some (d.name, d.qual, d.params, .stmts d.body, d.scope, mainGlobals, [], .none, builtinsNs) := e
      simp only [Option.some.injEq, Prod.mk.injEq] at e2
      obtain ⟨h1, h2, h3, h4, h5, h6, h7, h8, h9⟩ := e2
      subst h1 h2 h3 h4 h5 h6 h7 h8 h9
      exact ⟨oc, od, osl, n9, n10, n11, n12, n13, n14, rfl, c⟩
    | _ => cases c
def obsO (fa : List (PySem.W.Frag → Bool)) (fn : List FnO) (K : PySem.W.Frag) : AlO :=
  ((fa.all fun f => f K) && fn.all fun d => fnCode K (d.ad K) d.qual && PySem.W.keepIn K (.ref (d.ad K)), fn.map fun d => fnLook K (d.ad K))
def valO (fn : List FnO) : AlO := (true, fn.map FnO.val)
def SaysO (fa : List (PySem.W.Frag → Bool)) (fn : List FnO) (K : PySem.W.Frag) : Prop := obsO fa fn K = valO fn
def obsOG (as : List Addr) (fa : List (PySem.W.Frag → Bool)) (fn : List FnO) (g : Addr → Option Obj) : AlO := obsO fa fn (He.frG g as)
def hookO (as : List Addr) (fa : List (PySem.W.Frag → Bool)) (fn : List FnO) : PySem.W.Hook where
  α := AlO
  obs := fun s => obsOG as fa fn s.heap.get?
  val := fun _ => valO fn
  says := fun _ h => ∃ K : PySem.W.Frag, K.In h ∧ SaysO fa fn K
  of := fun _ _ e => ⟨_, He.frG_in, e⟩
  keeps := fun _ _ _ ⟨K, hK, c⟩ k => ⟨K, PySem.W.Frag.In.keeps hK k, c⟩
theorem obsOG_eq {as : List Addr} {fa : List (PySem.W.Frag → Bool)} {fn : List FnO} {g : Addr → Option Obj} {s : Shared} (h : ∀ a, g a = s.heap.get? a) : obsOG as fa fn g = (hookO as fa fn).obs s := by
  have e : g = s.heap.get? := funext h
  rw [e]
  rfl
section
variable {fa : List (PySem.W.Frag → Bool)} {fn : List FnO} {K : PySem.W.Frag}
theorem SaysO.fact (c : SaysO fa fn K) (i : Nat) {f : PySem.W.Frag → Bool} (h : fa[i]? = some f := by rfl) : f K = true := by
  have c1 := (He.ba (show ((fa.all fun f => f K) && fn.all fun d => fnCode K (d.ad K) d.qual && PySem.W.keepIn K (.ref (d.ad K))) = true from congrArg (fun z : AlO => z.1) c)).1
  exact List.all_eq_true.mp c1 f (List.mem_of_getElem? h)
theorem SaysO.def_ (c : SaysO fa fn K) (i : Nat) {d : FnO} (h : fn[i]? = some d := by rfl) :
    ∃ oc od osl kV doc pm an cdv ct, K.lookup (d.ad K) = some ⟨oc, od, .func (PySem.W.fnOf d.name d.qual d.params d.body d.scope .none kV doc pm an cdv ct), osl⟩ ∧ PySem.W.codeIn K cdv d.qual = true ∧ PySem.W.keepIn K (.ref (d.ad K)) = true := by
  have c2 := (He.ba (show ((fa.all fun f => f K) && fn.all fun d => fnCode K (d.ad K) d.qual && PySem.W.keepIn K (.ref (d.ad K))) = true from congrArg (fun z : AlO => z.1) c)).2
  have e : fn.map (fun d => fnLook K (d.ad K)) = fn.map FnO.val := congrArg (fun z : AlO => z.2) c
  have e2 : (fn.map fun d => fnLook K (d.ad K))[i]? = (fn.map FnO.val)[i]? := by rw [e]
  rw [List.getElem?_map, List.getElem?_map, h] at e2
  obtain ⟨c3, c4⟩ := He.ba (List.all_eq_true.mp c2 d (List.mem_of_getElem? h))
  obtain ⟨oc, od, osl, kV, doc, pm, an, cdv, ct, h1, h2⟩ := fnO_ok (Option.some.inj e2) c3
  exact ⟨oc, od, osl, kV, doc, pm, an, cdv, ct, h1, h2, c4⟩
def intC (o : Option (Option Value)) (i : Int) : Bool := match o with
  | some (some (.int j _)) => decide (j = i)
  | _ => false
theorem intC_ok {o : Option (Option Value)} {i : Int} (h : intC o i = true) : ∃ t, o = some (some (.int i t)) := by
  unfold intC at h
  split at h
  · rename_i j t
    have e : j = i := of_decide_eq_true h
    subst e
    exact ⟨t, rfl⟩
  · cases h
end
/-- three looks at one run, made one -/
theorem opt3 {τ α β γ δ : Type} {x : Option τ} {f : τ → α} {g : τ → β} {k : τ → γ} {k2 : τ → δ} {a : α} {b : β} {c : γ} {d : δ} (h1 : x.map (fun z => (f z, g z)) = some (a, b)) (h2 : x.map k = some c) (h3 : x.map k2 = some d) : x.map (fun z => (f z, g z, (k z, k2 z))) = some (a, b, (c, d)) := by
  cases x with
  | none => cases h1
  | some t =>
    obtain ⟨e1, e2⟩ := Prod.mk.inj (Option.some.inj h1)
    exact congrArg some (Prod.ext e1 (Prod.ext e2 (Prod.ext (Option.some.inj h2) (Option.some.inj h3))))
theorem walk_gE {l : PySem.W.OpenLaw} {n k : Nat} {q : Program} {loose : List Str} {XP : (Str → Option Value) → Heap → Prop} {YP : World → Heap → Prop} {d : DefRec} {CX : CXT} {x : Str}
    (hn : l.most = some n) (hn2 : n ≤ sizeLine) (hdf : d.params.defaults = []) (hr : Room k callerA)
    (F : ∀ (w : World) (mg : Str → Option Value) (fa : Addr) (h : Heap), YP w h → h.Ns mainGlobals mg → mg d.name = some (.ref fa) → ∃ (K : PySem.W.Frag) (fd : FuncData) (sp : Sp), K.In h ∧ (∀ (s : Shared) (u : Value), BindsTo s fd ⟨[u], []⟩ [(x, u)]) ∧
      (∀ (H : Hp) (a : Addr) (ns : List Int), ns.length ≤ n → (∀ z ∈ ns, Builtin.Int.intBits z ≤ 1048576) → Only H → SqL K H a (ns.map V.int) → sp [.ref a] H (fun v _ => v = .bl true) fun _ _ _ => False) ∧
      ∀ base : Heap, K.In base → base.Ns mainGlobals mg → FnG l.prog w K mg base CX k fa fd [x] sp)
    (hCX : ∀ (H : Hp) (s : Shared) (e : Value) (s' : Shared), CX [] H s (fun _ _ _ => False) e s' → False) : PySem.W.WalkO q loose XP YP l.row.toRowW d [] (fun f vs => PySem.call f vs) :=
  Att.attach_callB hn hdf fun w s₀ s₁ mg mb fa o pm cd doc a vs ns G Y ho hd hcd hmg hobj hints hlen hbits hg =>
    let ⟨_, _, _, KX, hb, hsp, hF⟩ := F w mg fa _ Y G.T.g hmg
    law_g KX G.T.g G.T.b G.T.builtins G.T.nolimit hg hobj hints (Nat.le_trans hlen hn2) hr hF hb (fun H o z => hsp H a ns hlen hbits o z) fun H e s' => hCX H s₁ e s'
end Ob
namespace Ob
open PySem PySem.Spec PyProof.Rows L2
def top (i : Nat) : Stmt := PySem.Challenge.pw_onecut_k63_texts_refused.main.body.getD i (.Pass ⟨0, 0, 0, 0⟩)
abbrev S__law_bag : Stmt := top 37
abbrev S__law_take : Stmt := top 38
abbrev S__law_part : Stmt := top 39
abbrev S__law_lowest : Stmt := top 40
abbrev S_BadText___init__ : Stmt := inClass (top 8) 0
abbrev S_is_int : Stmt := top 11
abbrev S_is_ratio : Stmt := top 12
abbrev S_is_day : Stmt := top 17
abbrev S__is_many : Stmt := top 18
abbrev S_is_amount : Stmt := top 19
abbrev S__is_amounts : Stmt := top 20
abbrev S_wrong_part : Stmt := top 21
abbrev S_check_item : Stmt := top 22
abbrev S_ratio_text : Stmt := top 26
abbrev S_word_at : Stmt := top 28
abbrev S_read_natural : Stmt := top 29
abbrev S__read_integer : Stmt := top 30
abbrev S__read_amount : Stmt := top 31
abbrev S_wrong_in_stretch : Stmt := top 32
abbrev S_wrong_in_item : Stmt := top 33
abbrev S_item_text : Stmt := top 27
abbrev S_item_from : Stmt := top 34
abbrev S_read_item : Stmt := top 35
abbrev S__law_amount : Stmt := top 41
abbrev S__law_any_item : Stmt := top 42
abbrev S__law_number_in : Stmt := top 43
abbrev S__law_is_amount : Stmt := top 44
abbrev S__law_stretch_place : Stmt := top 45
abbrev S__law_item_place : Stmt := top 46
abbrev S__law_odd_words : Stmt := top 47
abbrev S__law_place_told : Stmt := top 48
abbrev S__law_due : Stmt := top 49
abbrev S__law_right : Stmt := top 50
abbrev S_law : Stmt := top 51
def lsH0 : List Str := ["CutError", "BadItem", "OtherKind", "BadDay", "BadStretch", "BadCut", "BadText", "BadRow", "is_int", "is_ratio", "LAST_DAY", "MOST_AMOUNTS", "AMOUNT_BOUND", "is_day", "_is_many", "is_amount", "_is_amounts", "wrong_part", "check_item", "MOST_DIGITS", "DIGITS", "ratio_text", "item_text", "word_at", "read_natural", "_read_integer", "_read_amount", "wrong_in_stretch", "wrong_in_item", "item_from"]
def lsH1 : List Str := ["read_item", "_law_bag", "_law_take", "_law_part", "_law_lowest", "_law_amount", "_law_any_item", "_law_number_in", "_law_is_amount", "_law_stretch_place", "_law_item_place", "_law_odd_words", "_law_place_told", "_law_due", "_law_right"]
abbrev lsH : List Str := lsH0 ++ lsH1
def fc0 (K : PySem.W.Frag) : Bool := He.eqO (PySem.W.nsIn K mainGlobals "BadText") (some (some (.ref (He.ga K "BadText"))))
def fc1 (K : PySem.W.Frag) : Bool := excF K (He.ga K "BadText")
def fc2 (K : PySem.W.Frag) : Bool := He.eqO (PySem.W.findIn K (.ref (He.ga K "BadText")) "__setattr__") (some (some (.builtin "object.__setattr__")))
def fc3 (K : PySem.W.Frag) : Bool := PySem.W.keepIn K (.ref (He.ga K "BadText"))
def fc4 (K : PySem.W.Frag) : Bool := decide (PySem.W.subIn K (.ref (He.ga K "BadText")) (.type "BaseException") = some true)
def fc5 (K : PySem.W.Frag) : Bool := decide (PySem.W.typeIn K (.ref (He.ga K "BadText")) = some (.type "type"))
def fc6 (K : PySem.W.Frag) : Bool := He.eqO (PySem.W.findIn K (.ref (He.ga K "BadText")) "place") (some none)
def fc7 (K : PySem.W.Frag) : Bool := He.eqO (PySem.W.nsIn K mainGlobals "CutError") (some (some (.ref (He.ga K "CutError"))))
def fc8 (K : PySem.W.Frag) : Bool := He.eqO (PySem.W.specialIn K (.ref (He.ga K "CutError")) "__getattribute__") (some (some (.builtin "type.__getattribute__")))
def fc9 (K : PySem.W.Frag) : Bool := decide (PySem.W.typeIn K (.ref (He.ga K "CutError")) = some (.type "type"))
def fc10 (K : PySem.W.Frag) : Bool := PySem.W.readsIn K (He.ga K "CutError") (.type "type")
def fc11 (K : PySem.W.Frag) : Bool := iniB K (He.ga K "CutError")
def fc12 (K : PySem.W.Frag) : Bool := He.eqO (PySem.W.nsIn K mainGlobals "CutError") (some (some (.ref (He.ga K "CutError"))))
def fc13 (K : PySem.W.Frag) : Bool := He.eqO (PySem.W.nsIn K mainGlobals "BadCut") (some (some (.ref (He.ga K "BadCut"))))
def fc14 (K : PySem.W.Frag) : Bool := He.eqO (PySem.W.nsIn K mainGlobals "BadDay") (some (some (.ref (He.ga K "BadDay"))))
def fc15 (K : PySem.W.Frag) : Bool := He.eqO (PySem.W.nsIn K mainGlobals "BadItem") (some (some (.ref (He.ga K "BadItem"))))
def fc16 (K : PySem.W.Frag) : Bool := He.eqO (PySem.W.nsIn K mainGlobals "BadRow") (some (some (.ref (He.ga K "BadRow"))))
def fc17 (K : PySem.W.Frag) : Bool := He.eqO (PySem.W.nsIn K mainGlobals "BadStretch") (some (some (.ref (He.ga K "BadStretch"))))
def fc18 (K : PySem.W.Frag) : Bool := He.eqO (PySem.W.nsIn K mainGlobals "OtherKind") (some (some (.ref (He.ga K "OtherKind"))))
def fc19 (K : PySem.W.Frag) : Bool := PySem.W.isClsIn K (He.ga K "BadText")
def fc20 (K : PySem.W.Frag) : Bool := He.eqO (PySem.W.findIn K (.ref (He.ga K "BadText")) "__getattribute__") (some (some (.builtin "BaseException.__getattribute__")))
def fc21 (K : PySem.W.Frag) : Bool := He.eqO (PySem.W.findIn K (.ref (He.ga K "BadText")) "__getattr__") (some none)
def fc22 (K : PySem.W.Frag) : Bool := He.eqO (PySem.W.findIn K (.ref (He.ga K "BadText")) "__class__") (some (some (.builtin "object.__class__")))
def fc23 (K : PySem.W.Frag) : Bool := He.eqO (PySem.W.specialIn K (.builtin "object.__class__") "__get__") (some (some (.builtin "getset_descriptor.__get__")))
def fc24 (K : PySem.W.Frag) : Bool := decide (PySem.W.takesIn K (.builtin "object.__class__") = some true)
def fc25 (K : PySem.W.Frag) : Bool := decide (PySem.W.mroIn K (He.ga K "BadText") (.type "object") = some true)
def fc26 (K : PySem.W.Frag) : Bool := PySem.W.hasDictIn K (He.ga K "BadText")
def fc27 (K : PySem.W.Frag) : Bool := decide (PySem.W.exmOne K (.ref (He.ga K "BadText")) (.ref (He.ga K "CutError")) = some true)
def fc28 (K : PySem.W.Frag) : Bool := decide (PySem.W.kitAny K (.ref (He.ga K "BadText")) [.ref (He.ga K "BadCut"), .ref (He.ga K "BadDay"), .ref (He.ga K "BadItem"), .ref (He.ga K "BadRow"), .ref (He.ga K "BadStretch"), .ref (He.ga K "OtherKind")] = some false)
def fc29 (K : PySem.W.Frag) : Bool := decide (PySem.W.kitOne K (.ref (He.ga K "BadText")) (.ref (He.ga K "BadText")) = some true)
def fc30 (K : PySem.W.Frag) : Bool := He.eqO (PySem.W.nsIn K mainGlobals "_law_bag") (some (some (.ref (He.ga K "_law_bag"))))
def fc31 (K : PySem.W.Frag) : Bool := He.eqO (PySem.W.nsIn K mainGlobals "_law_take") (some (some (.ref (He.ga K "_law_take"))))
def fc32 (K : PySem.W.Frag) : Bool := He.eqO (PySem.W.nsIn K mainGlobals "_law_part") (some (some (.ref (He.ga K "_law_part"))))
def fc33 (K : PySem.W.Frag) : Bool := He.eqO (PySem.W.nsIn K mainGlobals "_law_lowest") (some (some (.ref (He.ga K "_law_lowest"))))
def fc34 (K : PySem.W.Frag) : Bool := He.eqO (PySem.W.findIn K (.ref (He.ga K "BadText")) "__init__") (some (some (.ref (He.ma K (He.ga K "BadText") "__init__"))))
def fc35 (K : PySem.W.Frag) : Bool := decide (PySem.W.typeIn K (.ref (He.ma K (He.ga K "BadText") "__init__")) = some (.type "function"))
def fc36 (K : PySem.W.Frag) : Bool := He.eqO (PySem.W.nsIn K mainGlobals "is_int") (some (some (.ref (He.ga K "is_int"))))
def fc37 (K : PySem.W.Frag) : Bool := He.eqO (PySem.W.nsIn K mainGlobals "is_ratio") (some (some (.ref (He.ga K "is_ratio"))))
def fc38 (K : PySem.W.Frag) : Bool := He.eqO (PySem.W.nsIn K mainGlobals "is_day") (some (some (.ref (He.ga K "is_day"))))
def fc39 (K : PySem.W.Frag) : Bool := He.eqO (PySem.W.nsIn K mainGlobals "_is_many") (some (some (.ref (He.ga K "_is_many"))))
def fc40 (K : PySem.W.Frag) : Bool := He.eqO (PySem.W.nsIn K mainGlobals "is_amount") (some (some (.ref (He.ga K "is_amount"))))
def fc41 (K : PySem.W.Frag) : Bool := He.eqO (PySem.W.nsIn K mainGlobals "_is_amounts") (some (some (.ref (He.ga K "_is_amounts"))))
def fc42 (K : PySem.W.Frag) : Bool := He.eqO (PySem.W.nsIn K mainGlobals "wrong_part") (some (some (.ref (He.ga K "wrong_part"))))
def fc43 (K : PySem.W.Frag) : Bool := He.eqO (PySem.W.nsIn K mainGlobals "check_item") (some (some (.ref (He.ga K "check_item"))))
def fc44 (K : PySem.W.Frag) : Bool := He.eqO (PySem.W.nsIn K mainGlobals "ratio_text") (some (some (.ref (He.ga K "ratio_text"))))
def fc45 (K : PySem.W.Frag) : Bool := He.eqO (PySem.W.nsIn K mainGlobals "word_at") (some (some (.ref (He.ga K "word_at"))))
def fc46 (K : PySem.W.Frag) : Bool := He.eqO (PySem.W.nsIn K mainGlobals "read_natural") (some (some (.ref (He.ga K "read_natural"))))
def fc47 (K : PySem.W.Frag) : Bool := He.eqO (PySem.W.nsIn K mainGlobals "_read_integer") (some (some (.ref (He.ga K "_read_integer"))))
def fc48 (K : PySem.W.Frag) : Bool := He.eqO (PySem.W.nsIn K mainGlobals "_read_amount") (some (some (.ref (He.ga K "_read_amount"))))
def fc49 (K : PySem.W.Frag) : Bool := He.eqO (PySem.W.nsIn K mainGlobals "wrong_in_stretch") (some (some (.ref (He.ga K "wrong_in_stretch"))))
def fc50 (K : PySem.W.Frag) : Bool := He.eqO (PySem.W.nsIn K mainGlobals "wrong_in_item") (some (some (.ref (He.ga K "wrong_in_item"))))
def fc51 (K : PySem.W.Frag) : Bool := He.eqO (PySem.W.nsIn K mainGlobals "item_text") (some (some (.ref (He.ga K "item_text"))))
def fc52 (K : PySem.W.Frag) : Bool := He.eqO (PySem.W.nsIn K mainGlobals "item_from") (some (some (.ref (He.ga K "item_from"))))
def fc53 (K : PySem.W.Frag) : Bool := He.eqO (PySem.W.nsIn K mainGlobals "read_item") (some (some (.ref (He.ga K "read_item"))))
def fc54 (K : PySem.W.Frag) : Bool := He.eqO (PySem.W.nsIn K mainGlobals "_law_amount") (some (some (.ref (He.ga K "_law_amount"))))
def fc55 (K : PySem.W.Frag) : Bool := He.eqO (PySem.W.nsIn K mainGlobals "_law_any_item") (some (some (.ref (He.ga K "_law_any_item"))))
def fc56 (K : PySem.W.Frag) : Bool := He.eqO (PySem.W.nsIn K mainGlobals "_law_number_in") (some (some (.ref (He.ga K "_law_number_in"))))
def fc57 (K : PySem.W.Frag) : Bool := He.eqO (PySem.W.nsIn K mainGlobals "_law_is_amount") (some (some (.ref (He.ga K "_law_is_amount"))))
def fc58 (K : PySem.W.Frag) : Bool := He.eqO (PySem.W.nsIn K mainGlobals "_law_stretch_place") (some (some (.ref (He.ga K "_law_stretch_place"))))
def fc59 (K : PySem.W.Frag) : Bool := He.eqO (PySem.W.nsIn K mainGlobals "_law_item_place") (some (some (.ref (He.ga K "_law_item_place"))))
def fc60 (K : PySem.W.Frag) : Bool := He.eqO (PySem.W.nsIn K mainGlobals "_law_odd_words") (some (some (.ref (He.ga K "_law_odd_words"))))
def fc61 (K : PySem.W.Frag) : Bool := He.eqO (PySem.W.nsIn K mainGlobals "_law_place_told") (some (some (.ref (He.ga K "_law_place_told"))))
def fc62 (K : PySem.W.Frag) : Bool := He.eqO (PySem.W.nsIn K mainGlobals "_law_due") (some (some (.ref (He.ga K "_law_due"))))
def fc63 (K : PySem.W.Frag) : Bool := He.eqO (PySem.W.nsIn K mainGlobals "_law_right") (some (some (.ref (He.ga K "_law_right"))))
def fc64 (K : PySem.W.Frag) : Bool := He.eqO (PySem.W.nsIn K mainGlobals "law") (some (some (.ref (He.ga K "law"))))
def fc65 (K : PySem.W.Frag) : Bool := He.eqO (PySem.W.nsIn K mainGlobals "gcd") (some (some (.builtin "math.gcd")))
def fc66 (K : PySem.W.Frag) : Bool := intC (PySem.W.nsIn K mainGlobals "LAST_DAY") 1000000000000000000000000000000
def fc67 (K : PySem.W.Frag) : Bool := intC (PySem.W.nsIn K mainGlobals "AMOUNT_BOUND") 1000000
def fc68 (K : PySem.W.Frag) : Bool := intC (PySem.W.nsIn K mainGlobals "MOST_AMOUNTS") 4
def fc69 (K : PySem.W.Frag) : Bool := strC (PySem.W.nsIn K mainGlobals "DIGITS") "0123456789"
def fc70 (K : PySem.W.Frag) : Bool := intC (PySem.W.nsIn K mainGlobals "MOST_DIGITS") 100
def fc71 (K : PySem.W.Frag) : Bool := He.eqO (PySem.W.nsIn K mainGlobals "abs") (some none)
def fc72 (K : PySem.W.Frag) : Bool := He.eqO (PySem.W.nsIn K mainGlobals "len") (some none)
def fc73 (K : PySem.W.Frag) : Bool := He.eqO (PySem.W.nsIn K mainGlobals "isinstance") (some none)
def fc74 (K : PySem.W.Frag) : Bool := He.eqO (PySem.W.nsIn K mainGlobals "bool") (some none)
def fc75 (K : PySem.W.Frag) : Bool := He.eqO (PySem.W.nsIn K mainGlobals "int") (some none)
def fc76 (K : PySem.W.Frag) : Bool := He.eqO (PySem.W.nsIn K mainGlobals "tuple") (some none)
def fc77 (K : PySem.W.Frag) : Bool := He.eqO (PySem.W.nsIn K mainGlobals "all") (some none)
def fc78 (K : PySem.W.Frag) : Bool := He.eqO (PySem.W.nsIn K mainGlobals "str") (some none)
def fc79 (K : PySem.W.Frag) : Bool := He.eqO (PySem.W.nsIn K mainGlobals "range") (some none)
def fc80 (K : PySem.W.Frag) : Bool := He.eqO (PySem.W.nsIn K mainGlobals "enumerate") (some none)
def fc81 (K : PySem.W.Frag) : Bool := He.eqO (PySem.W.nsIn K mainGlobals "repr") (some none)
def fc82 (K : PySem.W.Frag) : Bool := He.eqO (PySem.W.nsIn K mainGlobals "max") (some none)
def fc83 (K : PySem.W.Frag) : Bool := He.eqO (PySem.W.nsIn K mainGlobals "min") (some none)
def faH0 : List (PySem.W.Frag → Bool) := [fc0, fc1, fc2, fc3, fc4, fc5, fc6, fc7, fc8, fc9, fc10, fc11, fc12, fc13, fc14, fc15, fc16, fc17, fc18, fc19, fc20, fc21, fc22, fc23, fc24, fc25, fc26, fc27, fc28, fc29, fc30, fc31, fc32, fc33, fc34, fc35, fc36, fc37, fc38, fc39, fc40, fc41, fc42, fc43, fc44, fc45, fc46, fc47, fc48, fc49]
def faH1 : List (PySem.W.Frag → Bool) := [fc50, fc51, fc52, fc53, fc54, fc55, fc56, fc57, fc58, fc59, fc60, fc61, fc62, fc63, fc64, fc65, fc66, fc67, fc68, fc69, fc70, fc71, fc72, fc73, fc74, fc75, fc76, fc77, fc78, fc79, fc80, fc81, fc82, fc83]
def faH : List (PySem.W.Frag → Bool) := faH0 ++ faH1
def fnH : List FnO := [⟨fun K => (He.ga K "_law_bag"), "_law_bag", "_law_bag", defArgs S__law_bag, defBody S__law_bag, defScope S__law_bag⟩,
  ⟨fun K => (He.ga K "_law_take"), "_law_take", "_law_take", defArgs S__law_take, defBody S__law_take, defScope S__law_take⟩,
  ⟨fun K => (He.ga K "_law_part"), "_law_part", "_law_part", defArgs S__law_part, defBody S__law_part, defScope S__law_part⟩,
  ⟨fun K => (He.ga K "_law_lowest"), "_law_lowest", "_law_lowest", defArgs S__law_lowest, defBody S__law_lowest, defScope S__law_lowest⟩,
  ⟨fun K => (He.ma K (He.ga K "BadText") "__init__"), "__init__", "BadText.__init__", defArgs S_BadText___init__, defBody S_BadText___init__, defScope S_BadText___init__⟩,
  ⟨fun K => (He.ga K "is_int"), "is_int", "is_int", defArgs S_is_int, defBody S_is_int, defScope S_is_int⟩,
  ⟨fun K => (He.ga K "is_ratio"), "is_ratio", "is_ratio", defArgs S_is_ratio, defBody S_is_ratio, defScope S_is_ratio⟩,
  ⟨fun K => (He.ga K "is_day"), "is_day", "is_day", defArgs S_is_day, defBody S_is_day, defScope S_is_day⟩,
  ⟨fun K => (He.ga K "_is_many"), "_is_many", "_is_many", defArgs S__is_many, defBody S__is_many, defScope S__is_many⟩,
  ⟨fun K => (He.ga K "is_amount"), "is_amount", "is_amount", defArgs S_is_amount, defBody S_is_amount, defScope S_is_amount⟩,
  ⟨fun K => (He.ga K "_is_amounts"), "_is_amounts", "_is_amounts", defArgs S__is_amounts, defBody S__is_amounts, defScope S__is_amounts⟩,
  ⟨fun K => (He.ga K "wrong_part"), "wrong_part", "wrong_part", defArgs S_wrong_part, defBody S_wrong_part, defScope S_wrong_part⟩,
  ⟨fun K => (He.ga K "check_item"), "check_item", "check_item", defArgs S_check_item, defBody S_check_item, defScope S_check_item⟩,
  ⟨fun K => (He.ga K "ratio_text"), "ratio_text", "ratio_text", defArgs S_ratio_text, defBody S_ratio_text, defScope S_ratio_text⟩,
  ⟨fun K => (He.ga K "word_at"), "word_at", "word_at", defArgs S_word_at, defBody S_word_at, defScope S_word_at⟩,
  ⟨fun K => (He.ga K "read_natural"), "read_natural", "read_natural", defArgs S_read_natural, defBody S_read_natural, defScope S_read_natural⟩,
  ⟨fun K => (He.ga K "_read_integer"), "_read_integer", "_read_integer", defArgs S__read_integer, defBody S__read_integer, defScope S__read_integer⟩,
  ⟨fun K => (He.ga K "_read_amount"), "_read_amount", "_read_amount", defArgs S__read_amount, defBody S__read_amount, defScope S__read_amount⟩,
  ⟨fun K => (He.ga K "wrong_in_stretch"), "wrong_in_stretch", "wrong_in_stretch", defArgs S_wrong_in_stretch, defBody S_wrong_in_stretch, defScope S_wrong_in_stretch⟩,
  ⟨fun K => (He.ga K "wrong_in_item"), "wrong_in_item", "wrong_in_item", defArgs S_wrong_in_item, defBody S_wrong_in_item, defScope S_wrong_in_item⟩,
  ⟨fun K => (He.ga K "item_text"), "item_text", "item_text", defArgs S_item_text, defBody S_item_text, defScope S_item_text⟩,
  ⟨fun K => (He.ga K "item_from"), "item_from", "item_from", defArgs S_item_from, defBody S_item_from, defScope S_item_from⟩,
  ⟨fun K => (He.ga K "read_item"), "read_item", "read_item", defArgs S_read_item, defBody S_read_item, defScope S_read_item⟩,
  ⟨fun K => (He.ga K "_law_amount"), "_law_amount", "_law_amount", defArgs S__law_amount, defBody S__law_amount, defScope S__law_amount⟩,
  ⟨fun K => (He.ga K "_law_any_item"), "_law_any_item", "_law_any_item", defArgs S__law_any_item, defBody S__law_any_item, defScope S__law_any_item⟩,
  ⟨fun K => (He.ga K "_law_number_in"), "_law_number_in", "_law_number_in", defArgs S__law_number_in, defBody S__law_number_in, defScope S__law_number_in⟩,
  ⟨fun K => (He.ga K "_law_is_amount"), "_law_is_amount", "_law_is_amount", defArgs S__law_is_amount, defBody S__law_is_amount, defScope S__law_is_amount⟩,
  ⟨fun K => (He.ga K "_law_stretch_place"), "_law_stretch_place", "_law_stretch_place", defArgs S__law_stretch_place, defBody S__law_stretch_place, defScope S__law_stretch_place⟩,
  ⟨fun K => (He.ga K "_law_item_place"), "_law_item_place", "_law_item_place", defArgs S__law_item_place, defBody S__law_item_place, defScope S__law_item_place⟩,
  ⟨fun K => (He.ga K "_law_odd_words"), "_law_odd_words", "_law_odd_words", defArgs S__law_odd_words, defBody S__law_odd_words, defScope S__law_odd_words⟩,
  ⟨fun K => (He.ga K "_law_place_told"), "_law_place_told", "_law_place_told", defArgs S__law_place_told, defBody S__law_place_told, defScope S__law_place_told⟩,
  ⟨fun K => (He.ga K "_law_due"), "_law_due", "_law_due", defArgs S__law_due, defBody S__law_due, defScope S__law_due⟩,
  ⟨fun K => (He.ga K "_law_right"), "_law_right", "_law_right", defArgs S__law_right, defBody S__law_right, defScope S__law_right⟩,
  ⟨fun K => (He.ga K "law"), "law", "law", defArgs S_law, defBody S_law, defScope S_law⟩]
abbrev asH : List Addr := List.range 1000
abbrev RH : PySem.W.OpenRow := PySem.W.OpenLaw.row PySem.Challenge.rw_onecut_k63_texts_refused
abbrev hkH : PySem.W.Hook := hookO asH faH fnH
def obH (s : PySem.W.SharedT) : AlO := obsOG asH faH fnH (HandSHeadRun.getT s)
theorem obH_eq (s : PySem.W.SharedT) : obH s = hkH.obs s.abs := obsOG_eq (HandSHeadRun.getT_eq s)
noncomputable abbrev wrH (w : World) := HandSHeadRun.wholeF (fun p => HandSHeadRun.stepQ (HandSHeadRun.denQ HandSHeadRun.tabQ) p w) HandSHeadRun.fenceQ 12000 RH.prog
abbrev vwH : Program := PySem.W.view RH.prog [0, 51]
theorem runH1 (w : World) : (wrH w).map (fun x => (HandSHeadRun.looksF RH.prog x.1.heap x.2.abs, HandSHeadRun.seenQ vwH lsH (PySem.importedModules RH.prog.main.body) (fun s => PySem.W.xlAt vwH [] s && PySem.W.recOk RH.toRowW.records s) x.2.abs)) = some (true, PySem.W.openGood vwH lsH) := by kernel_rfl
theorem runH2 (w : World) : (wrH w).map (fun x => (obH x.2).1) = some true := by kernel_rfl
theorem runH3 (w : World) : (wrH w).map (fun x => (obH x.2).2) = some (fnH.map FnO.val) := by kernel_rfl
theorem runH (w : World) : HandSHeadRun.RunEqI RH vwH hkH obH 12000 lsH w := opt3 (runH1 w) (runH2 w) (runH3 w)
end Ob
set_option maxHeartbeats 2000000
namespace Ob
open PySem PySem.Spec PyProof.Rows L2
/-! ### the head by one run, where some defs make functions: their tables of code objects stand outside K -/
/-! ### the law's call, the tables tracked -/
section
variable {P : Program} {w : World} {K : PySem.W.Frag} {mg mb : Str → Option Value} {CX : CXT} {k : Nat} {fa a : Addr} {fd : FuncData} {x : Str} {sp : Sp} {s₁ : Shared} {vs : List Value} {ns : List Int} {cs : List (Addr × Addr)}
end
section
variable {P : Program} {w : World} {K : PySem.W.Frag} {mg mb : Str → Option Value} {CX : CXT} {k : Nat} {fa a : Addr} {fd : FuncData} {x : Str} {sp : Sp} {s₁ : Shared} {vs : List Value} {ns : List Int} {cs : List (Addr × Addr)}
end
/-! ### keyword-only defaults, left out in a call -/
end Ob
namespace Ob
open PySem PySem.Spec PyProof.Rows L2
section
variable {K : PySem.W.Frag} {H J : Hp} {a b p l D : Addr} {xs ys : List V} {o : HO} {σ : L2.St} {te : TE} {g : TG} {vs : List Nat}
theorem rd_tpar3 {i j k : Nat} {ta : TA} {E : Ends} (q : ta σ H fun vs H1 => ∃ u v w, vs = [u, v, w] ∧ E.nx (((σ.set i (some u)).set j (some v)).set k (some w)) H1) : tPar3 i j k ta E σ H := q
theorem rd_par3 {i j k : Nat} {x y z : V} {E : Ends} {τ : L2.St} (e : ((σ.set i (some x)).set j (some y)).set k (some z) = τ) (q : E.nx τ H) : ∃ u v w, [x, y, z] = [u, v, w] ∧ E.nx (((σ.set i (some u)).set j (some v)).set k (some w)) H := by
  subst e
  exact ⟨x, y, z, rfl, q⟩
theorem Kp.pu {M : Hp} (k : Kp b H M) (u : Pu l M J) (n : H l = none) : Kp b H J := fun a o ne e => u.1 a o (ne_of_none e n) (k a o ne e)
theorem Same.pu {M : Hp} (k : Same H M) (u : Pu l M J) (n : H l = none) : Same H J := fun a o e => u.1 a o (ne_of_none e n) (k a o e)
/-! ### a comprehension whose element may lay objects -/
def LcEnd (D : Addr) (H : Hp) (P : List V → Hp → Prop) (i : Nat) (y : V) (J : Hp) : Prop := ∃ acc, J D = some (.lst acc) ∧ acc.length < sizeLine ∧ ∃ ys, ys.length = i ∧ Kp D H (upd J D (.lst (acc ++ [y]))) ∧ (upd J D (.lst (acc ++ [y]))) D = some (.lst ys) ∧ P ys (upd J D (.lst (acc ++ [y])))
theorem lcEnd_mk {P : List V → Hp → Prop} {i : Nat} {y : V} (h : J D = some (.lst ys)) (hl : ys.length = i) (hz : i ≤ 500) (k : Kp D H J) (q : ∀ J4, Pu D J J4 → J4 D = some (.lst (ys ++ [y])) → P (ys ++ [y]) J4) : LcEnd D H P (i + 1) y J :=
  ⟨ys, h, small1000 (by omega), ys ++ [y], by rw [List.length_append, hl]; rfl, k.trans Kp.at, upd_same, q _ ⟨Kp.at, ⟨_, h⟩, ⟨_, upd_same⟩⟩ upd_same⟩
theorem lc_growL (P : List V → Hp → Prop) {Qd : Hp → Prop} (hT : H a = some (.lst xs)) (hl : xs.length ≤ 500) (hD : H D = none) (h0 : ∀ J, Kp D H J → P [] J)
    (he : ∀ (i : Nat) x ys J, xs[i]? = some x → i ≤ 500 → ys.length = i → Kp D H J → J D = some (.lst ys) → P ys J → g x (wipe σ vs) J fun σ2 J2 => wipe σ2 vs = wipe σ vs ∧ te σ2 J2 fun y J3 => LcEnd D H P (i + 1) y J3)
    (hd : ∀ ys J, ys.length = xs.length → Kp D H J → J D = some (.lst ys) → P ys J → Qd J) : Lc (Itl K a) g tYes te vs σ Qd H D := by
  have ne : a ≠ D := ne_of_none hT hD
  refine lc_list (xs := xs) (fun i J => ∃ ys, ys.length = i ∧ Kp D H J ∧ J D = some (.lst ys) ∧ P ys J) ⟨[], rfl, Kp.new hD, upd_same, h0 _ (Kp.new hD)⟩ (fun i J _ w => ?_) (fun i x J hx w => ?_) fun J w => ?_
  · obtain ⟨ys, _, k, _⟩ := w
    exact SqL.of (k a _ ne hT)
  · obtain ⟨ys, e, k, hJ, p⟩ := w
    have lt : i < xs.length := (List.getElem?_eq_some_iff.mp hx).1
    exact he i x ys J hx (by omega) e k hJ p
  · obtain ⟨ys, e, k, hJ, p⟩ := w
    exact hd ys J e k hJ p
theorem rd_forL {tl : TE} {tb : TS} {E : Ends} (q : tl σ H fun x H1 => ∃ a, x = .ref a ∧ (∃ xs, SqL K H1 a xs) ∧ Lp (Itl K a) g tb E σ H1) : tFor (iList K tl) g tb E σ H := q
/-! ### pairs of places -/
inductive PrsAt (H : Hp) : List V → List (Nat × Nat) → Prop
  | nil : PrsAt H [] []
  | cons {c : Addr} {rs : List V} {lo hi : Nat} {ps : List (Nat × Nat)} (h : H c = some (.tup [.int lo, .int hi])) (t : PrsAt H rs ps) : PrsAt H (.ref c :: rs) ((lo, hi) :: ps)
theorem PrsAt.mono (m : ∀ c xs, H c = some (.tup xs) → J c = some (.tup xs)) : ∀ {rs : List V} {ps : List (Nat × Nat)}, PrsAt H rs ps → PrsAt J rs ps
  | _, _, .nil => .nil
  | _, _, .cons h t => .cons (m _ _ h) (t.mono m)
theorem PrsAt.app : ∀ {rs ts : List V} {ps qs : List (Nat × Nat)}, PrsAt H rs ps → PrsAt H ts qs → PrsAt H (rs ++ ts) (ps ++ qs)
  | _, _, _, _, .nil, k => k
  | _, _, _, _, .cons h t, k => .cons h (t.app k)
theorem PrsAt.rev : ∀ {rs : List V} {ps : List (Nat × Nat)}, PrsAt H rs ps → PrsAt H rs.reverse ps.reverse
  | _, _, .nil => .nil
  | _, _, .cons h t => by
    rw [List.reverse_cons, List.reverse_cons]
    exact t.rev.app (.cons h .nil)
theorem PrsAt.get : ∀ {rs : List V} {ps : List (Nat × Nat)} {i : Nat} {r : V}, PrsAt H rs ps → rs[i]? = some r → ∃ c lo hi, r = .ref c ∧ ps[i]? = some (lo, hi) ∧ H c = some (.tup [.int lo, .int hi])
  | _, _, _, _, .nil, e => by simp at e
  | _, _, 0, _, .cons h t, e => by
    cases Option.some.inj (show some _ = some _ from e)
    exact ⟨_, _, _, rfl, rfl, h⟩
  | _, _, i + 1, _, .cons h t, e => t.get (i := i) e
theorem PrsAt.len : ∀ {rs : List V} {ps : List (Nat × Nat)}, PrsAt H rs ps → rs.length = ps.length
  | _, _, .nil => rfl
  | _, _, .cons _ t => congrArg (· + 1) t.len
/-- found != [] -/
theorem PrsAt.dp : ∀ {rs : List V} {ps : List (Nat × Nat)}, PrsAt H rs ps → ∃ ds, DpAll K H rs ds ∧ ds.length = rs.length ∧ PyData.canLayAll0 ds = true ∧ PyData.depthAll ds ≤ 1
  | _, _, .nil => ⟨[], .nil, rfl, by simp [PyData.canLayAll0], by simp [PyData.depthAll]⟩
  | _, _, .cons (lo := lo) (hi := hi) h t => by
    obtain ⟨ds, d, e, c, z⟩ := t.dp
    refine ⟨.tuple [.int lo, .int hi] :: ds, .cons (.tup (SqT.of h) (.cons (.int _) (.cons (.int _) .nil))) d, by simp [e], by simp [PyData.canLayAll0, PyData.canLay0, c], ?_⟩
    simp only [PyData.depthAll, PyData.depth]
    omega
end
/-! ### lists of units -/
/-! ### runs of units: the last run first -/
def rruns (f : Nat → Bool) : Nat → List (Nat × Nat)
  | 0 => []
  | i + 1 => if f i = true then (match rruns f i with
    | (lo, hi) :: t => if hi = i then (lo, i + 1) :: t else (i, i + 1) :: (lo, hi) :: t
    | [] => [(i, i + 1)]) else rruns f i
theorem rruns_succ (f : Nat → Bool) (i : Nat) : rruns f (i + 1) = if f i = true then (match rruns f i with
    | (lo, hi) :: t => if hi = i then (lo, i + 1) :: t else (i, i + 1) :: (lo, hi) :: t
    | [] => [(i, i + 1)]) else rruns f i := rfl
/-- ascending runs below i, none touches the next -/
inductive Runs : Nat → List (Nat × Nat) → Prop
  | nil {i : Nat} : Runs i []
  | cons {i lo hi : Nat} {t : List (Nat × Nat)} (h : lo < hi) (k : hi ≤ i) (n : ∀ x ∈ t, x.2 < lo) (r : Runs lo t) : Runs i ((lo, hi) :: t)
theorem Runs.up {i j : Nat} {t : List (Nat × Nat)} (h : Runs i t) (k : i ≤ j) : Runs j t := by
  cases h with
  | nil => exact .nil
  | cons a b c d => exact .cons a (Nat.le_trans b k) c d
theorem Runs.bnd {i : Nat} {t : List (Nat × Nat)} (h : Runs i t) : ∀ x ∈ t, x.2 ≤ i := by
  induction h with
  | nil => intro x hx; cases hx
  | cons a b c d ih =>
    intro x hx
    rcases List.mem_cons.mp hx with rfl | hx
    · exact b
    · have := c x hx
      omega
theorem rruns_ok (f : Nat → Bool) : ∀ i, Runs i (rruns f i)
  | 0 => .nil
  | i + 1 => by
    have ih := rruns_ok f i
    rw [rruns_succ]
    by_cases h : f i = true
    · rw [if_pos h]
      cases e : rruns f i with
      | nil => exact .cons (Nat.lt_succ_self i) (Nat.le_refl _) (fun x hx => by cases hx) .nil
      | cons r t =>
        obtain ⟨lo, hi⟩ := r
        rw [e] at ih
        cases ih with
        | cons a b c d =>
          show Runs (i + 1) (if hi = i then (lo, i + 1) :: t else (i, i + 1) :: (lo, hi) :: t)
          by_cases z : hi = i
          · rw [if_pos z]
            exact .cons (by omega) (Nat.le_refl _) c d
          · rw [if_neg z]
            refine .cons (Nat.lt_succ_self i) (Nat.le_refl _) (fun x hx => ?_) (.cons a b c d)
            rcases List.mem_cons.mp hx with rfl | hx
            · show hi < i
              omega
            · have := c x hx
              omega
    · rw [if_neg h]
      exact ih.up (Nat.le_succ i)
/-- what the drawn form of the runs is -/
inductive SnsOf (g : Nat) : List (Nat × Nat) → List Sn → Prop
  | nil : SnsOf g [] []
  | cons {lo hi : Nat} {ps : List (Nat × Nat)} {s : Sn} {ss : List Sn} (h : IsLow (lo : Int) (g : Int) s.x s.y) (k : IsLow (hi : Int) (g : Int) s.u s.v) (t : SnsOf g ps ss) : SnsOf g ((lo, hi) :: ps) (s :: ss)
theorem SnsOf.snoc {g : Nat} : ∀ {ps : List (Nat × Nat)} {ss : List Sn} {lo hi : Nat} {s : Sn}, SnsOf g ps ss → IsLow (lo : Int) (g : Int) s.x s.y → IsLow (hi : Int) (g : Int) s.u s.v → SnsOf g (ps ++ [(lo, hi)]) (ss ++ [s])
  | _, _, _, _, _, .nil, h, k => .cons h k .nil
  | _, _, _, _, _, .cons a b t, h, k => .cons a b (t.snoc h k)
theorem SnsAt.snoc {K : PySem.W.Frag} {H : Hp} {r : V} {s : Sn} : ∀ {rs : List V} {ss : List Sn}, SnsAt K H rs ss → SnAt K H r s → SnsAt K H (rs ++ [r]) (ss ++ [s])
  | _, _, .nil, h => .cons h .nil
  | _, _, .cons a t, h => .cons a (t.snoc h)
theorem Runs.pos {i : Nat} {t : List (Nat × Nat)} (h : Runs i t) : ∀ x ∈ t, x.1 < x.2 := by
  induction h with
  | nil => intro x hx; cases hx
  | cons a b c d ih =>
    intro x hx
    rcases List.mem_cons.mp hx with rfl | hx
    · exact a
    · exact ih x hx
/-! ### what sums and comparisons of drawn forms come to -/
theorem low_of {t u x y : Int} (y0 : 0 < y) (g : Int.gcd x y = 1) (e : x * u = t * y) (hu : u ≠ 0) : IsLow t u x y := by
  have d1 : y ∣ u := dvd_gcd1 g ⟨t, by rw [e, Int.mul_comm]⟩
  have b1 : y.natAbs ≤ u.natAbs := Nat.le_of_dvd (by omega) (Int.natAbs_dvd_natAbs.mpr d1)
  refine ⟨y0, g, e, ?_, b1⟩
  by_cases ht : t = 0
  · subst ht
    rw [Int.zero_mul] at e
    rcases Int.mul_eq_zero.mp e with z | z
    · rw [z]
      exact Nat.le_refl _
    · exact absurd z hu
  · have d2 : x ∣ t := by
      have : x ∣ y * t := ⟨u, by rw [Int.mul_comm, ← e]⟩
      exact dvd_gcd1 (by rw [Int.gcd_comm]; exact g) this
    exact Nat.le_of_dvd (by omega) (Int.natAbs_dvd_natAbs.mpr d2)
def hasS (x y : Int) (s : Sn) : Bool := !decide (x * s.y < s.x * y) && decide (x * s.v < s.u * y)
theorem cut_lt {unit fine off g x y lo p q : Int} (h : x * (g * fine) = (unit * fine + off) * y) (k : p * g = lo * q) (y0 : 0 < y) (q0 : 0 < q) (g0 : 0 < g) (f0 : 0 < fine) (o0 : 0 ≤ off) (o1 : off < fine) : (x * q < p * y) ↔ unit < lo := by
  have e1 : (x * q) * (g * fine) = (unit * fine + off) * (y * q) := by grind
  have e2 : (p * y) * (g * fine) = (lo * fine) * (y * q) := by grind
  have gf : 0 < g * fine := Int.mul_pos g0 f0
  have yq : 0 < y * q := Int.mul_pos y0 q0
  have a1 : x * q < p * y ↔ (x * q) * (g * fine) < (p * y) * (g * fine) := (Int.mul_lt_mul_right gf).symm
  have a2 : (unit * fine + off) * (y * q) < (lo * fine) * (y * q) ↔ unit * fine + off < lo * fine := Int.mul_lt_mul_right yq
  rw [a1, e1, e2, a2]
  constructor
  · intro h
    rcases Int.lt_or_le unit lo with w | w
    · exact w
    · have := Int.mul_le_mul_of_nonneg_right w (Int.le_of_lt f0)
      omega
  · intro w
    have h1 := Int.mul_le_mul_of_nonneg_right (show unit + 1 ≤ lo by omega) (Int.le_of_lt f0)
    rw [Int.add_mul, Int.one_mul] at h1
    omega
theorem has_form {g : Nat} {unit fine off x y : Int} (h : IsLow (unit * fine + off) ((g : Int) * fine) x y) (g0 : 0 < (g : Int)) (f0 : 0 < fine) (o0 : 0 ≤ off) (o1 : off < fine) :
    ∀ {ps : List (Nat × Nat)} {ss : List Sn}, SnsOf g ps ss → (ss.any (hasS x y) = true ↔ ∃ r ∈ ps, (r.1 : Int) ≤ unit ∧ unit < (r.2 : Int))
  | _, _, .nil => ⟨fun z => (by cases z), fun ⟨r, hr, _⟩ => (by cases hr)⟩
  | _, _, .cons (lo := lo) (hi := hi) (s := s) a b t => by
    have ih := has_form h g0 f0 o0 o1 t
    have c1 := cut_lt (lo := lo) h.2.2.1 a.2.2.1 h.1 a.1 g0 f0 o0 o1
    have c2 := cut_lt (lo := hi) h.2.2.1 b.2.2.1 h.1 b.1 g0 f0 o0 o1
    have e : hasS x y s = true ↔ (lo : Int) ≤ unit ∧ unit < (hi : Int) := by
      unfold hasS
      rw [Bool.and_eq_true, Bool.not_eq_true', decide_eq_false_iff_not, decide_eq_true_eq, c1, c2]
      omega
    rw [List.any_cons, Bool.or_eq_true, e, ih]
    constructor
    · rintro (z | ⟨r, hr, z⟩)
      · exact ⟨_, List.mem_cons_self, z⟩
      · exact ⟨r, List.mem_cons_of_mem _ hr, z⟩
    · rintro ⟨r, hr, z⟩
      rcases List.mem_cons.mp hr with rfl | hr
      · exact .inl z
      · exact .inr ⟨r, hr, z⟩
theorem rruns_mem (f : Nat → Bool) : ∀ i u, u < i → (f u = true ↔ ∃ r ∈ rruns f i, r.1 ≤ u ∧ u < r.2)
  | 0, u, h => by omega
  | i + 1, u, h => by
    have ih := rruns_mem f i
    have ok := rruns_ok f i
    rw [rruns_succ]
    by_cases hf : f i = true
    · rw [if_pos hf]
      cases e : rruns f i with
      | nil =>
        rw [e] at ih
        show _ ↔ ∃ r ∈ [(i, i + 1)], _
        by_cases z : u = i
        · subst z
          exact ⟨fun _ => ⟨_, List.mem_singleton.mpr rfl, Nat.le_refl _, Nat.lt_succ_self _⟩, fun _ => hf⟩
        · refine (ih u (by omega)).trans ⟨fun ⟨r, hr, _⟩ => (by cases hr), fun ⟨r, hr, q1, q2⟩ => ?_⟩
          obtain rfl := List.mem_singleton.mp hr
          have : i ≤ u := q1
          omega
      | cons r t =>
        obtain ⟨lo, hi⟩ := r
        rw [e] at ok ih
        cases ok with
        | cons a b c d =>
          show _ ↔ ∃ r ∈ (if hi = i then (lo, i + 1) :: t else (i, i + 1) :: (lo, hi) :: t), _
          by_cases z : hi = i
          · rw [if_pos z]
            by_cases w : u = i
            · subst w
              exact ⟨fun _ => ⟨_, List.mem_cons_self, by show lo ≤ u; omega, Nat.lt_succ_self _⟩, fun _ => hf⟩
            · refine (ih u (by omega)).trans ⟨fun ⟨r, hr, q1, q2⟩ => ?_, fun ⟨r, hr, q1, q2⟩ => ?_⟩
              · rcases List.mem_cons.mp hr with rfl | hr
                · exact ⟨_, List.mem_cons_self, q1, by show u < i + 1; omega⟩
                · exact ⟨r, List.mem_cons_of_mem _ hr, q1, q2⟩
              · rcases List.mem_cons.mp hr with rfl | hr
                · exact ⟨_, List.mem_cons_self, q1, by show u < hi; omega⟩
                · exact ⟨r, List.mem_cons_of_mem _ hr, q1, q2⟩
          · rw [if_neg z]
            by_cases w : u = i
            · subst w
              exact ⟨fun _ => ⟨_, List.mem_cons_self, Nat.le_refl _, Nat.lt_succ_self _⟩, fun _ => hf⟩
            · refine (ih u (by omega)).trans ⟨fun ⟨r, hr, q1, q2⟩ => ⟨r, List.mem_cons_of_mem _ hr, q1, q2⟩, fun ⟨r, hr, q1, q2⟩ => ?_⟩
              rcases List.mem_cons.mp hr with rfl | hr
              · have : i ≤ u := q1
                omega
              · exact ⟨r, hr, q1, q2⟩
    · rw [if_neg hf]
      by_cases w : u = i
      · subst w
        refine ⟨fun q => absurd q hf, fun ⟨r, hr, q1, q2⟩ => ?_⟩
        have := ok.bnd r hr
        omega
      · exact ih u (by omega)
end Ob
namespace Ob
open PySem PySem.Spec PyProof.Rows L2
/-! ### runs (the last first) with the same members are the same -/
/-! ### ascending runs -/
inductive Asc : Nat → List (Nat × Nat) → Prop
  | nil {i : Nat} : Asc i []
  | cons {i lo hi : Nat} {t : List (Nat × Nat)} (k : i ≤ lo) (h : lo < hi) (r : Asc (hi + 1) t) : Asc i ((lo, hi) :: t)
theorem Asc.dn {i j : Nat} {t : List (Nat × Nat)} (h : Asc i t) (k : j ≤ i) : Asc j t := by
  cases h with
  | nil => exact .nil
  | cons a b c => exact .cons (Nat.le_trans k a) b c
theorem Asc.low {i : Nat} {t : List (Nat × Nat)} (h : Asc i t) : ∀ x ∈ t, i ≤ x.1 ∧ x.1 < x.2 := by
  induction h with
  | nil => intro x hx; cases hx
  | cons a b c ih =>
    intro x hx
    rcases List.mem_cons.mp hx with rfl | hx
    · exact ⟨a, b⟩
    · have := ih x hx
      exact ⟨by omega, this.2⟩
/-- the two-pointer walk -/
def bothN : List (Nat × Nat) → List (Nat × Nat) → List (Nat × Nat)
  | [], _ => []
  | _ :: _, [] => []
  | (a, b) :: s, (c, d) :: t =>
    let st := if a < c then c else a
    if b < d then (if st < b then [(st, b)] else []) ++ bothN s ((c, d) :: t) else (if st < d then [(st, d)] else []) ++ bothN ((a, b) :: s) t
termination_by s t => s.length + t.length
def In (u : Nat) (t : List (Nat × Nat)) : Prop := ∃ r ∈ t, r.1 ≤ u ∧ u < r.2
theorem in_cons {u lo hi : Nat} {t : List (Nat × Nat)} : In u ((lo, hi) :: t) ↔ (lo ≤ u ∧ u < hi) ∨ In u t := by
  unfold In
  constructor
  · rintro ⟨r, hr, h⟩
    rcases List.mem_cons.mp hr with rfl | hr
    · exact .inl h
    · exact .inr ⟨r, hr, h⟩
  · rintro (h | ⟨r, hr, h⟩)
    · exact ⟨_, List.mem_cons_self, h⟩
    · exact ⟨r, List.mem_cons_of_mem _ hr, h⟩
theorem in_nil {u : Nat} : ¬ In u [] := fun ⟨_, h, _⟩ => nomatch h
theorem Asc.out {i u : Nat} {t : List (Nat × Nat)} (h : Asc i t) (k : u < i) : ¬ In u t := fun ⟨r, hr, h1, _⟩ => by
  have := (h.low r hr).1
  omega
theorem in_seg {u st b : Nat} {t : List (Nat × Nat)} : In u ((if st < b then [(st, b)] else []) ++ t) ↔ (st ≤ u ∧ u < b) ∨ In u t := by
  by_cases h : st < b
  · rw [if_pos h]
    exact in_cons
  · rw [if_neg h, List.nil_append]
    exact ⟨.inr, fun z => z.elim (fun ⟨h1, h2⟩ => by omega) id⟩
theorem bothN_mem : ∀ {s t : List (Nat × Nat)} {i j : Nat}, Asc i s → Asc j t → ∀ u, In u (bothN s t) ↔ In u s ∧ In u t
  | [], t, _, _, _, _, u => by
    rw [bothN]
    exact ⟨fun h => absurd h in_nil, fun h => h.1⟩
  | x :: s, [], _, _, _, _, u => by
    rw [bothN]
    exact ⟨fun h => absurd h in_nil, fun h => h.2⟩
  | (a, b) :: s, (c, d) :: t, _, _, hs, ht, u => by
    rw [bothN]
    cases hs with
    | cons k1 h1 r1 =>
    cases ht with
    | cons k2 h2 r2 =>
      by_cases w : b < d
      · rw [if_pos w, in_seg, bothN_mem r1 (Asc.cons k2 h2 r2) u, in_cons, in_cons]
        have o1 := r1.out (u := u)
        constructor
        · rintro (⟨z1, z2⟩ | ⟨z1, z2⟩)
          · have : a ≤ u ∧ c ≤ u := by split at z1 <;> omega
            exact ⟨.inl ⟨by omega, z2⟩, .inl ⟨by omega, by omega⟩⟩
          · exact ⟨.inr z1, z2⟩
        · rintro ⟨z1 | z1, z2⟩
          · rcases z2 with z2 | z2
            · exact .inl ⟨by split <;> omega, z1.2⟩
            · exact absurd z2 (r2.out (by omega))
          · exact .inr ⟨z1, z2⟩
      · rw [if_neg w, in_seg, bothN_mem (Asc.cons k1 h1 r1) r2 u, in_cons, in_cons]
        constructor
        · rintro (⟨z1, z2⟩ | ⟨z1, z2⟩)
          · have : a ≤ u ∧ c ≤ u := by split at z1 <;> omega
            exact ⟨.inl ⟨by omega, by omega⟩, .inl ⟨by omega, z2⟩⟩
          · exact ⟨z1, .inr z2⟩
        · rintro ⟨z1, z2 | z2⟩
          · rcases z1 with z1 | z1
            · exact .inl ⟨by split <;> omega, z2.2⟩
            · exact absurd z1 (r1.out (by omega))
          · exact .inr ⟨z1, z2⟩
termination_by s t => s.length + t.length
theorem asc_seg {i st b : Nat} {t : List (Nat × Nat)} (k : i ≤ st) (h : Asc (b + 1) t) (ib : i ≤ b + 1) : Asc i ((if st < b then [(st, b)] else []) ++ t) := by
  by_cases w : st < b
  · rw [if_pos w]
    exact .cons k w h
  · rw [if_neg w]
    exact h.dn ib
theorem bothN_asc : ∀ {s t : List (Nat × Nat)} {i j : Nat}, Asc i s → Asc j t → Asc (max i j) (bothN s t)
  | [], t, _, _, _, _ => by rw [bothN]; exact .nil
  | x :: s, [], _, _, _, _ => by rw [bothN]; exact .nil
  | (a, b) :: s, (c, d) :: t, i, j, hs, ht => by
    rw [bothN]
    cases hs with
    | cons k1 h1 r1 =>
    cases ht with
    | cons k2 h2 r2 =>
      by_cases w : b < d
      · rw [if_pos w]
        have ih := bothN_asc r1 (Asc.cons (i := c) (Nat.le_refl c) h2 r2)
        by_cases z : max i j ≤ b + 1
        · exact asc_seg (by split <;> omega) (ih.dn (by omega)) z
        · have e : ¬ (if a < c then c else a) < b := by split <;> omega
          rw [if_neg e]
          exact (bothN_asc r1 (Asc.cons k2 h2 r2)).dn (by omega)
      · rw [if_neg w]
        have ih := bothN_asc (Asc.cons (i := a) (Nat.le_refl a) h1 r1) r2
        by_cases z : max i j ≤ d + 1
        · exact asc_seg (by split <;> omega) (ih.dn (by omega)) z
        · have e : ¬ (if a < c then c else a) < d := by split <;> omega
          rw [if_neg e]
          exact (bothN_asc (Asc.cons k1 h1 r1) r2).dn (by omega)
termination_by s t => s.length + t.length
end Ob
namespace Ob
open PySem PySem.Spec PyProof.Rows L2
section
variable {H : Hp} {σ : L2.St}
theorem rd_asg2 {te : TE} {g1 g2 : TG} {D : Ends} (q : te σ H fun x H1 => g1 x σ H1 fun σ1 H2 => g2 x σ1 H2 D.nx) : tAsg2 te g1 g2 D σ H := q
theorem rd_aug {i : Nat} {te : TE} {ti : TIp} {a : V} {D : Ends} (h : σ[i]? = some (some a)) (q : te σ H fun y H1 => ti a y H1 fun z H2 => D.nx (σ.set i (some z)) H2) : tAug i te ti D σ H := ⟨a, h, q⟩
theorem rd_ipI {f : Int → Int → Int} {a b : Int} {Q : VK} (q : Q (.int (f a b)) H) : ipI f (.int a) (.int b) H Q := ⟨a, b, rfl, rfl, q⟩
end
def stS (a b : Sn) : Int × Int := if a.x * b.y < b.x * a.y then (b.x, b.y) else (a.x, a.y)
def segS (p : Int × Int) (u v : Int) : List Sn := if p.1 * v < u * p.2 then [⟨p.1, p.2, u, v⟩] else []
/-- what `both` gives, over the spans' numbers -/
def bothS : List Sn → List Sn → List Sn
  | [], _ => []
  | _ :: _, [] => []
  | a :: s, b :: t => if a.u * b.v < b.u * a.v then segS (stS a b) a.u a.v ++ bothS s (b :: t) else segS (stS a b) b.u b.v ++ bothS (a :: s) t
termination_by s t => s.length + t.length
/-- what `_gaps` gives, over the spans' numbers -/
def gapsS : Int × Int → List Sn → List Sn
  | st, [] => segS st 1 1
  | st, s :: t => segS st s.x s.y ++ gapsS (s.u, s.v) t
/-! ### the same over units -/
theorem low_lt {lo hi g : Nat} {x y u v : Int} (h : IsLow (lo : Int) (g : Int) x y) (k : IsLow (hi : Int) (g : Int) u v) (g0 : 0 < g) : x * v < u * y ↔ lo < hi := by
  have e : x * ((g : Int) * 1) = ((lo : Int) * 1 + 0) * y := by
    rw [Int.mul_one, Int.mul_one, Int.add_zero]
    exact h.2.2.1
  have c := cut_lt (fine := 1) (off := 0) e k.2.2.1 h.1 k.1 (by omega) (by decide) (by decide) (by decide)
  rw [c]
  omega
theorem SnsOf.app {g : Nat} {qs : List (Nat × Nat)} {ts : List Sn} (k : SnsOf g qs ts) : ∀ {ps : List (Nat × Nat)} {ss : List Sn}, SnsOf g ps ss → SnsOf g (ps ++ qs) (ss ++ ts)
  | _, _, .nil => k
  | _, _, .cons a b t => .cons a b (SnsOf.app k t)
theorem seg_of {g st b : Nat} {p : Int × Int} {u v : Int} (g0 : 0 < g) (h : IsLow (st : Int) (g : Int) p.1 p.2) (k : IsLow (b : Int) (g : Int) u v) : SnsOf g (if st < b then [(st, b)] else []) (segS p u v) := by
  unfold segS
  by_cases w : st < b
  · rw [if_pos w, if_pos ((low_lt h k g0).mpr w)]
    exact .cons h k .nil
  · rw [if_neg w, if_neg fun z => w ((low_lt h k g0).mp z)]
    exact .nil
theorem both_of {g : Nat} (g0 : 0 < g) : ∀ {ps qs : List (Nat × Nat)} {ss ts : List Sn}, SnsOf g ps ss → SnsOf g qs ts → SnsOf g (bothN ps qs) (bothS ss ts)
  | _, _, _, _, .nil, _ => by
    rw [bothN, bothS]
    exact .nil
  | _, _, _, _, .cons a b t, .nil => by
    rw [bothN, bothS]
    exact .nil
  | (lo, hi) :: ps, (lo', hi') :: qs, s :: ss, z :: ts, .cons a b t, .cons a' b' t' => by
    rw [bothN, bothS]
    have st : IsLow (((if lo < lo' then lo' else lo) : Nat) : Int) (g : Int) (stS s z).1 (stS s z).2 := by
      unfold stS
      by_cases w : lo < lo'
      · rw [if_pos w, if_pos ((low_lt a a' g0).mpr w)]
        exact a'
      · rw [if_neg w, if_neg fun y => w ((low_lt a a' g0).mp y)]
        exact a
    by_cases w : hi < hi'
    · rw [if_pos w, if_pos ((low_lt b b' g0).mpr w)]
      exact SnsOf.app (both_of g0 t (.cons a' b' t')) (seg_of g0 st b)
    · rw [if_neg w, if_neg fun y => w ((low_lt b b' g0).mp y)]
      exact SnsOf.app (both_of g0 (.cons a b t) t') (seg_of g0 st b')
termination_by ps qs => ps.length + qs.length
def gapsN (g : Nat) : Nat → List (Nat × Nat) → List (Nat × Nat)
  | st, [] => if st < g then [(st, g)] else []
  | st, (lo, hi) :: t => (if st < lo then [(st, lo)] else []) ++ gapsN g hi t
theorem gaps_of {g : Nat} (g0 : 0 < g) : ∀ {ps : List (Nat × Nat)} {ss : List Sn} {st : Nat} {p : Int × Int}, SnsOf g ps ss → IsLow (st : Int) (g : Int) p.1 p.2 → SnsOf g (gapsN g st ps) (gapsS p ss)
  | _, _, _, _, .nil, h => seg_of g0 h (low_of (by decide) (by decide) (by rw [Int.one_mul, Int.mul_one]) (by omega))
  | _, _, _, _, .cons a b t, h => SnsOf.app (gaps_of g0 t b) (seg_of g0 h a)
theorem gapsN_mem {g : Nat} : ∀ {ps : List (Nat × Nat)} {i st : Nat}, Asc i ps → (∀ x ∈ ps, x.2 ≤ g) → st ≤ i → ∀ u, In u (gapsN g st ps) ↔ st ≤ u ∧ u < g ∧ ¬ In u ps
  | [], i, st, _, _, _, u => by
    unfold gapsN
    have := in_seg (u := u) (st := st) (b := g) (t := [])
    rw [List.append_nil] at this
    rw [this]
    have n := in_nil (u := u)
    exact ⟨fun h => h.elim (fun h => ⟨h.1, h.2, n⟩) fun h => absurd h n, fun h => .inl ⟨h.1, h.2.1⟩⟩
  | (lo, hi) :: t, i, st, h, hg, hi', u => by
    cases h with
    | cons k hh r =>
    have o := r.out (u := u)
    have hb : hi ≤ g := hg _ List.mem_cons_self
    unfold gapsN
    rw [in_seg, gapsN_mem r (fun x hx => hg x (List.mem_cons_of_mem _ hx)) (Nat.le_succ _) u, in_cons]
    constructor
    · rintro (⟨a, b⟩ | ⟨a, b, c⟩)
      · exact ⟨a, by omega, fun z => z.elim (fun z => by omega) (o (by omega))⟩
      · exact ⟨by omega, b, fun z => z.elim (fun z => by omega) c⟩
    · rintro ⟨a, b, c⟩
      by_cases w : u < lo
      · exact .inl ⟨a, w⟩
      · refine .inr ⟨?_, b, fun z => c (.inr z)⟩
        rcases Nat.lt_or_ge u hi with y | y
        · exact absurd (.inl ⟨by omega, y⟩) c
        · exact y
theorem gapsN_asc {g : Nat} : ∀ {ps : List (Nat × Nat)} {i st : Nat}, Asc i ps → st ≤ i → Asc st (gapsN g st ps)
  | [], _, st, _, _ => by
    unfold gapsN
    have := asc_seg (i := st) (st := st) (b := g) (t := [])
    rw [List.append_nil] at this
    by_cases w : st < g
    · exact this (Nat.le_refl _) .nil (by omega)
    · rw [if_neg w]
      exact .nil
  | (lo, hi) :: t, _, st, h, k => by
    cases h with
    | cons k1 hh r =>
    unfold gapsN
    exact asc_seg (Nat.le_refl _) ((gapsN_asc r (Nat.le_succ _)).dn (by omega)) (by omega)
theorem asc_ext : ∀ {a b : List (Nat × Nat)} {i j : Nat}, Asc i a → Asc j b → (∀ u, In u a ↔ In u b) → a = b
  | [], [], _, _, _, _, _ => rfl
  | [], (lo, hi) :: t, _, _, _, hb, e => by
    cases hb with
    | cons k h r => exact absurd ((e lo).mpr (in_cons.mpr (.inl ⟨Nat.le_refl _, h⟩))) in_nil
  | (lo, hi) :: t, [], _, _, ha, _, e => by
    cases ha with
    | cons k h r => exact absurd ((e lo).mp (in_cons.mpr (.inl ⟨Nat.le_refl _, h⟩))) in_nil
  | (lo, hi) :: t, (lo', hi') :: t', _, _, ha, hb, e => by
    cases ha with
    | cons k h r =>
    cases hb with
    | cons k' h' r' =>
    have f1 := in_cons.mp ((e lo).mp (in_cons.mpr (.inl ⟨Nat.le_refl _, h⟩)))
    have f2 := in_cons.mp ((e lo').mpr (in_cons.mpr (.inl ⟨Nat.le_refl _, h'⟩)))
    have g1 : lo' ≤ lo := by
      rcases Nat.lt_or_ge lo lo' with w | w
      · exact f1.elim (fun z => z.1) fun z => absurd z (r'.out (by omega))
      · exact w
    have g2 : lo ≤ lo' := by
      rcases Nat.lt_or_ge lo' lo with w | w
      · exact f2.elim (fun z => z.1) fun z => absurd z (r.out (by omega))
      · exact w
    have g3 : hi' ≤ hi := by
      rcases Nat.lt_or_ge hi hi' with w | w
      · have := in_cons.mp ((e hi).mpr (in_cons.mpr (.inl ⟨by omega, w⟩)))
        exact this.elim (fun z => by omega) fun z => absurd z (r.out (by omega))
      · exact w
    have g4 : hi ≤ hi' := by
      rcases Nat.lt_or_ge hi' hi with w | w
      · have := in_cons.mp ((e hi').mp (in_cons.mpr (.inl ⟨by omega, w⟩)))
        exact this.elim (fun z => by omega) fun z => absurd z (r'.out (by omega))
      · exact w
    have e1 : lo = lo' := Nat.le_antisymm g2 g1
    have e2 : hi = hi' := Nat.le_antisymm g4 g3
    subst e1 e2
    congr 1
    refine asc_ext r r' fun u => ⟨fun z => ?_, fun z => ?_⟩
    · have q := in_cons.mp ((e u).mp (in_cons.mpr (.inr z)))
      rcases q with q | q
      · exact absurd z (r.out (by omega))
      · exact q
    · have q := in_cons.mp ((e u).mpr (in_cons.mpr (.inr z)))
      rcases q with q | q
      · exact absurd z (r'.out (by omega))
      · exact q
theorem asc_snoc : ∀ {s : List (Nat × Nat)} {i lo hi : Nat}, Asc i s → (∀ x ∈ s, x.2 < lo) → i ≤ lo → lo < hi → Asc i (s ++ [(lo, hi)])
  | [], _, _, _, _, _, k, h => .cons k h .nil
  | (a, b) :: t, _, _, _, hs, n, k, h => by
    cases hs with
    | cons k1 h1 r => exact .cons k1 h1 (asc_snoc r (fun x hx => n x (List.mem_cons_of_mem _ hx)) (n _ List.mem_cons_self) h)
theorem asc_rev {i : Nat} {t : List (Nat × Nat)} (h : Runs i t) : Asc 0 t.reverse := by
  induction h with
  | nil => exact .nil
  | cons a b c d ih =>
    rw [List.reverse_cons]
    exact asc_snoc ih (fun x hx => c x (List.mem_reverse.mp hx)) (Nat.zero_le _) a
theorem sns_uniq {g : Nat} (g0 : 0 < g) : ∀ {ps : List (Nat × Nat)} {ss ts : List Sn}, SnsOf g ps ss → SnsOf g ps ts → ss = ts
  | _, _, _, .nil, .nil => rfl
  | _, s :: _, z :: _, .cons a b t, .cons a' b' t' => by
    obtain ⟨e1, e2⟩ := low_uniq a a' (by omega) (by omega) rfl
    obtain ⟨e3, e4⟩ := low_uniq b b' (by omega) (by omega) rfl
    rw [sns_uniq g0 t t']
    cases s
    cases z
    simp only at e1 e2 e3 e4
    subst e1 e2 e3 e4
    rfl
/-! ### what both and without come to, as drawn forms -/
theorem in_rruns (f : Nat → Bool) (g u : Nat) : In u (rruns f g).reverse ↔ u < g ∧ f u = true := by
  constructor
  · rintro ⟨r, hr, h1, h2⟩
    have hr := List.mem_reverse.mp hr
    have := (rruns_ok f g).bnd r hr
    exact ⟨by omega, (rruns_mem f g u (by omega)).mpr ⟨r, hr, h1, h2⟩⟩
  · rintro ⟨h, k⟩
    obtain ⟨r, hr, z⟩ := (rruns_mem f g u h).mp k
    exact ⟨r, List.mem_reverse.mpr hr, z⟩
theorem both_form {g : Nat} (g0 : 0 < g) {f h : Nat → Bool} {ss ts : List Sn} (a : SnsOf g (rruns f g).reverse ss) (b : SnsOf g (rruns h g).reverse ts) : SnsOf g (rruns (fun u => f u && h u) g).reverse (bothS ss ts) := by
  have A := asc_rev (rruns_ok f g)
  have B := asc_rev (rruns_ok h g)
  have e : bothN (rruns f g).reverse (rruns h g).reverse = (rruns (fun u => f u && h u) g).reverse := asc_ext (bothN_asc A B) (asc_rev (rruns_ok _ g)) fun u => by
    rw [bothN_mem A B, in_rruns, in_rruns, in_rruns, Bool.and_eq_true]
    exact ⟨fun ⟨⟨x, y⟩, _, z⟩ => ⟨x, y, z⟩, fun ⟨x, y, z⟩ => ⟨⟨x, y⟩, x, z⟩⟩
  exact e ▸ both_of g0 a b
theorem without_form {g : Nat} (g0 : 0 < g) {f h : Nat → Bool} {ss ts : List Sn} (a : SnsOf g (rruns f g).reverse ss) (b : SnsOf g (rruns h g).reverse ts) : SnsOf g (rruns (fun u => f u && !h u) g).reverse (bothS ss (gapsS (0, 1) ts)) := by
  have A := asc_rev (rruns_ok f g)
  have B := asc_rev (rruns_ok h g)
  have bd : ∀ x ∈ (rruns h g).reverse, x.2 ≤ g := fun x hx => (rruns_ok h g).bnd x (List.mem_reverse.mp hx)
  have G : Asc 0 (gapsN g 0 (rruns h g).reverse) := gapsN_asc B (Nat.le_refl _)
  have e : bothN (rruns f g).reverse (gapsN g 0 (rruns h g).reverse) = (rruns (fun u => f u && !h u) g).reverse := asc_ext (bothN_asc A G) (asc_rev (rruns_ok _ g)) fun u => by
    rw [bothN_mem A G, in_rruns, gapsN_mem B bd (Nat.le_refl _), in_rruns, in_rruns, Bool.and_eq_true, Bool.not_eq_true']
    constructor
    · rintro ⟨⟨x, y⟩, _, _, z⟩
      refine ⟨x, y, ?_⟩
      cases hu : h u with
      | false => rfl
      | true => exact absurd ⟨x, hu⟩ z
    · rintro ⟨x, y, z⟩
      exact ⟨⟨x, y⟩, Nat.zero_le _, x, fun w => by rw [z] at w; cases w.2⟩
  refine e ▸ both_of g0 a (gaps_of g0 b (p := (0, 1)) (low_of (by decide) (by decide) (by simp) (by omega)))
end Ob
namespace Ob
/-! ### sums of floors: the plain mathematics -/
def fs : Nat → Int → Int → Int → Int
  | 0, _, _, _ => 0
  | n + 1, a, b, m => fs n a b m + (a * n + b) / m
theorem div_is {e m : Int} {y : Int} (h : 0 < m) (h1 : y * m ≤ e) (h2 : e < (y + 1) * m) : e / m = y := by
  have a1 : y ≤ e / m := (Int.le_ediv_iff_mul_le h).2 h1
  have a2 : e / m < y + 1 := (Int.ediv_lt_iff_lt_mul h).2 h2
  omega
/-! ### k14: remainders between bounds -/
end Ob
namespace Ob
/-! ### k13: the far sums -/
/-! ### counts of two parts -/
end Ob
namespace Ob
/-! ### k15: the first remainder between bounds -/
def InR (s u lo hi k : Int) : Prop := lo ≤ (s * k) % u ∧ (s * k) % u ≤ hi
def Least (P : Int → Prop) (k : Int) : Prop := 0 ≤ k ∧ P k ∧ ∀ i, 0 ≤ i → i < k → ¬ P i
def NoneIs (P : Int → Prop) : Prop := ∀ i, 0 ≤ i → ¬ P i
def Prob (s u lo hi : Int) : Prop := 0 ≤ s ∧ s < u ∧ 0 < lo ∧ lo ≤ hi ∧ hi < u
def up (x s : Int) : Int := -((-x) / s)
theorem up_spec {x s : Int} (hs : 0 < s) : x ≤ s * up x s ∧ s * up x s < x + s ∧ s * up x s = x + (-x) % s := by
  have e := Int.emod_add_mul_ediv (-x) s
  have r0 := Int.emod_nonneg (-x) (show s ≠ 0 by omega)
  have r1 := Int.emod_lt_of_pos (-x) hs
  have : s * up x s = x + (-x) % s := by unfold up; grind
  omega
theorem up_le {x s k : Int} (hs : 0 < s) (h : x ≤ s * k) : up x s ≤ k := by
  have h1 := (up_spec (x := x) hs).2.1
  have : s * up x s < s * (k + 1) := by
    have : s * (k + 1) = s * k + s := by grind
    omega
  have := Int.lt_of_mul_lt_mul_left this (by omega)
  omega
theorem up_lt {x s k : Int} (hs : 0 < s) (h : k < up x s) : s * k < x := by
  rcases Int.lt_or_le (s * k) x with h1 | h1
  · exact h1
  · have := up_le hs h1
    omega
theorem mod_at {x u r j : Int} (hu : 0 < u) (e : x = u * j + r) (h0 : 0 ≤ r) (h1 : r < u) : x % u = r ∧ x / u = j := by
  have h2 : x / u = j := div_is hu (by grind) (by grind)
  have := Int.emod_add_mul_ediv x u
  rw [h2] at this
  exact ⟨by omega, h2⟩
/-- no multiple of s between the bounds -/
theorem gap_of {s lo hi : Int} (hs : 0 < s) (h1 : lo ≤ hi) (h : hi < lo + (-lo) % s) : 0 < lo % s ∧ lo % s ≤ hi % s ∧ hi % s < s ∧ hi / s = lo / s := by
  have e := Int.emod_add_mul_ediv lo s
  have r0 := Int.emod_nonneg lo (show s ≠ 0 by omega)
  have r1 := Int.emod_lt_of_pos lo hs
  have hr : lo % s ≠ 0 := by
    intro z
    have : (-lo) % s = 0 := Int.emod_eq_zero_of_dvd (Int.dvd_neg.2 (Int.dvd_of_emod_eq_zero z))
    omega
  have hm : (-lo) % s = s - lo % s := by
    refine (mod_at (j := -(lo / s) - 1) hs ?_ (by omega) (by omega)).1
    grind
  have hh := mod_at (x := hi) (u := s) (j := lo / s) (r := lo % s + (hi - lo)) hs (by omega) (by omega) (by omega)
  omega
theorem turn_prob {s u lo hi : Int} (p : Prob s u lo hi) (hs : 0 < s) (h : hi < lo + (-lo) % s) : Prob (u % s) s (s - hi % s) (s - lo % s) := by
  obtain ⟨_, p1, p2, p3, p4⟩ := p
  obtain ⟨g1, g2, g3, g4⟩ := gap_of hs p3 h
  exact ⟨Int.emod_nonneg _ (by omega), Int.emod_lt_of_pos _ hs, by omega, by omega, by omega⟩
theorem turn_iff {s u lo hi : Int} (p : Prob s u lo hi) (hs : 0 < s) (h : hi < lo + (-lo) % s) (j : Int) :
    InR (u % s) s (s - hi % s) (s - lo % s) j ↔ ∃ k, lo + u * j ≤ s * k ∧ s * k ≤ hi + u * j := by
  obtain ⟨_, p1, p2, p3, p4⟩ := p
  obtain ⟨g1, g2, g3, g4⟩ := gap_of hs p3 h
  have el := Int.emod_add_mul_ediv lo s
  have eh := Int.emod_add_mul_ediv hi s
  rw [g4] at eh
  have er : (u % s * j) % s = (u * j) % s := by rw [Int.mul_emod, Int.emod_emod, ← Int.mul_emod]
  unfold InR
  rw [er]
  have eu := Int.emod_add_mul_ediv (u * j) s
  have r0 := Int.emod_nonneg (u * j) (show s ≠ 0 by omega)
  have r1 := Int.emod_lt_of_pos (u * j) hs
  generalize (u * j) % s = r at *
  generalize u * j = U at *
  generalize U / s = q at *
  generalize lo / s = t at *
  generalize lo % s = l at *
  generalize hi % s = g at *
  constructor
  · intro ⟨a1, a2⟩
    have : s * (t + q + 1) = s * t + s * q + s := by grind
    exact ⟨t + q + 1, by omega, by omega⟩
  · intro ⟨k, a1, a2⟩
    have b1 : t + q < k := by
      have : s * (t + q) < s * k := by
        have : s * (t + q) = s * t + s * q := by grind
        omega
      exact Int.lt_of_mul_lt_mul_left this (by omega)
    have b2 : k < t + q + 2 := by
      have : s * k < s * (t + q + 2) := by
        have : s * (t + q + 2) = s * t + s * q + s + s := by grind
        omega
      exact Int.lt_of_mul_lt_mul_left this (by omega)
    have b3 : k = t + q + 1 := by omega
    subst b3
    have : s * (t + q + 1) = s * t + s * q + s := by grind
    omega
theorem inR_iff {s u lo hi : Int} (p : Prob s u lo hi) (k : Int) : InR s u lo hi k ↔ ∃ j, lo + u * j ≤ s * k ∧ s * k ≤ hi + u * j := by
  obtain ⟨_, p1, p2, p3, p4⟩ := p
  have hu : 0 < u := by omega
  have e := Int.emod_add_mul_ediv (s * k) u
  constructor
  · intro ⟨a1, a2⟩
    exact ⟨s * k / u, by omega, by omega⟩
  · intro ⟨j, a1, a2⟩
    have := (mod_at (x := s * k) (r := s * k - u * j) (j := j) hu (by omega) (by omega) (by omega)).1
    exact ⟨by omega, by omega⟩
theorem j_nonneg {s u lo hi k j : Int} (p : Prob s u lo hi) (hk : 0 ≤ k) (h : s * k ≤ hi + u * j) : 0 ≤ j := by
  obtain ⟨p0, p1, p2, p3, p4⟩ := p
  have h0 : 0 ≤ s * k := Int.mul_nonneg p0 hk
  rcases Int.lt_or_le j 0 with c | c
  · have : u * j ≤ u * (-1) := Int.mul_le_mul_of_nonneg_left (by omega) (by omega)
    omega
  · exact c
theorem turn_none {s u lo hi : Int} (p : Prob s u lo hi) (hs : 0 < s) (h : hi < lo + (-lo) % s) (n : NoneIs (InR (u % s) s (s - hi % s) (s - lo % s))) : NoneIs (InR s u lo hi) := by
  intro k k0 hk
  obtain ⟨j, a1, a2⟩ := (inR_iff p k).1 hk
  exact n j (j_nonneg p k0 a2) ((turn_iff p hs h j).2 ⟨k, a1, a2⟩)
theorem turn_least {s u lo hi j : Int} (p : Prob s u lo hi) (hs : 0 < s) (h : hi < lo + (-lo) % s) (l : Least (InR (u % s) s (s - hi % s) (s - lo % s)) j) : Least (InR s u lo hi) (up (lo + u * j) s) := by
  have p' := p
  obtain ⟨p0, p1, p2, p3, p4⟩ := p
  obtain ⟨j0, hj, hl⟩ := l
  obtain ⟨k, a1, a2⟩ := (turn_iff p' hs h j).1 hj
  have sp := up_spec (x := lo + u * j) hs
  have kl := up_le hs a1
  have uj : 0 ≤ u * j := Int.mul_nonneg (by omega) j0
  have k0 : 0 ≤ up (lo + u * j) s := by
    have : s * 0 < s * up (lo + u * j) s := by omega
    have := Int.lt_of_mul_lt_mul_left this (by omega)
    omega
  refine ⟨k0, (inR_iff p' _).2 ⟨j, sp.1, ?_⟩, fun i i0 i1 hI => ?_⟩
  · have : s * up (lo + u * j) s ≤ s * k := Int.mul_le_mul_of_nonneg_left kl (by omega)
    omega
  · obtain ⟨j', b1, b2⟩ := (inR_iff p' i).1 hI
    have lt := up_lt hs i1
    have j'0 := j_nonneg p' i0 b2
    have : u * j' < u * j := by omega
    have := Int.lt_of_mul_lt_mul_left this (by omega)
    exact hl j' j'0 this ((turn_iff p' hs h j').2 ⟨i, b1, b2⟩)
/-- the trail of the outer questions -/
inductive Trail (S U L G : Int) : List (Int × Int × Int) → Int → Int → Int → Int → Prop
  | nil (p : Prob S U L G) : Trail S U L G [] S U L G
  | cons {r s u lo hi} (t : Trail S U L G r s u lo hi) (hs : 0 < s) (h : hi < lo + (-lo) % s) : Trail S U L G ((s, u, lo) :: r) (u % s) s (s - hi % s) (s - lo % s)
theorem Trail.prob {S U L G : Int} {r : List (Int × Int × Int)} {s u lo hi : Int} (t : Trail S U L G r s u lo hi) : Prob s u lo hi := by
  induction t with
  | nil p => exact p
  | cons t hs h ih => exact turn_prob ih hs h
theorem Trail.le {S U L G : Int} {r : List (Int × Int × Int)} {s u lo hi : Int} (t : Trail S U L G r s u lo hi) : u ≤ U := by
  induction t with
  | nil p => exact Int.le_refl _
  | cons t hs h ih =>
    have := t.prob
    unfold Prob at this
    omega
theorem Trail.none {S U L G : Int} {r : List (Int × Int × Int)} {s u lo hi : Int} (t : Trail S U L G r s u lo hi) (n : NoneIs (InR s u lo hi)) : NoneIs (InR S U L G) := by
  induction t with
  | nil p => exact n
  | cons t hs h ih => exact ih (turn_none t.prob hs h n)
theorem Trail.back {S U L G : Int} {x : Int × Int × Int} {r : List (Int × Int × Int)} {s u lo hi k : Int} (t : Trail S U L G (x :: r) s u lo hi) (l : Least (InR s u lo hi) k) :
    ∃ hi', Trail S U L G r x.1 x.2.1 x.2.2 hi' ∧ 0 < x.1 ∧ Least (InR x.1 x.2.1 x.2.2 hi') (up (x.2.2 + x.2.1 * k) x.1) := by
  cases t with
  | cons t hs h => exact ⟨_, t, hs, turn_least t.prob hs h l⟩
/-! the bounds turned round the ring -/
end Ob
namespace Ob
open PySem PySem.Spec PyProof.Rows L2
/-! ### repr of a number, of None, of data -/
section
variable {X : Cx} {K : PySem.W.Frag}
end
section
variable {K : PySem.W.Frag} {H J : Hp} {D a : Addr} {σ : L2.St} {xs : List V} {Q : VK}
end
section
variable {K : PySem.W.Frag} {H : Hp} {a : Addr} {Q : VK}
end
section
variable {K : PySem.W.Frag} {H : Hp} {a : Addr} {xs ys : List V} {Q : VK} {σ : L2.St}
end
end Ob
namespace Ob
open PySem PySem.Spec PyProof.Rows L2
/-! ### min(list, default=None) -/
section
variable {X : Cx} {K : PySem.W.Frag} {H : Hp} {a : Addr} {Q : VK} {σ : L2.St} {t tk : TA} {xs : List V}
/-! ### is None -/
theorem rd_isN {v : V} (q : Q (.bl (decide (v = .non))) H) : rIsN v .non H Q := ⟨rfl, q⟩
end
end Ob
namespace Ob
open PySem PySem.Spec PyProof.Rows L2
section
variable {K : PySem.W.Frag} {H J : Hp} {D a c l : Addr} {σ : L2.St} {xs rs zs : List V} {ss ts : List Sn} {Q : VK}
end
section
variable {K : PySem.W.Frag} {H : Hp} {σ : L2.St} {Q : VK} {ta : TE}
end
end Ob
namespace Ob
open PySem PySem.Spec PyProof.Rows L2
/-! ### sums of ratios, as tops and unders that are not made small -/
def totR : List (Int × Int) → Int × Int
  | [] => (0, 1)
  | r :: l => (r.1 * (totR l).2 + (totR l).1 * r.2, r.2 * (totR l).2)
theorem totR_perm {l l' : List (Int × Int)} (h : l.Perm l') : totR l = totR l' := by
  induction h with
  | nil => rfl
  | cons x _ ih => rw [totR, totR, ih]
  | swap x y l =>
    simp only [totR]
    refine Prod.ext ?_ ?_
    · show _ = _
      simp only
      grind
    · show _ = _
      simp only
      grind
  | trans _ _ i1 i2 => rw [i1, i2]
theorem totR_append : ∀ l l' : List (Int × Int), totR (l ++ l') = ((totR l).1 * (totR l').2 + (totR l').1 * (totR l).2, (totR l).2 * (totR l').2)
  | [], l' => by
    simp only [List.nil_append, totR]
    refine Prod.ext ?_ ?_ <;> simp
  | r :: l, l' => by
    rw [List.cons_append, totR, totR_append l l', totR]
    refine Prod.ext ?_ ?_
    · simp only
      grind
    · simp only
      grind
def Pos (l : List (Int × Int)) : Prop := ∀ r ∈ l, 0 < r.2
theorem totR_pos : ∀ {l : List (Int × Int)}, Pos l → 0 < (totR l).2
  | [], _ => by simp [totR]
  | r :: l, h => by
    rw [totR]
    exact Int.mul_pos (h r (by simp)) (totR_pos fun x hx => h x (by simp [hx]))
/-- m / n, in lowest terms, is the sum -/
def IsTot (l : List (Int × Int)) (m n : Int) : Prop := 0 < n ∧ Int.gcd m n = 1 ∧ m * (totR l).2 = (totR l).1 * n
theorem IsTot.uniq {l : List (Int × Int)} {m n m' n' : Int} (hl : Pos l) (h : IsTot l m n) (k : IsTot l m' n') : m = m' ∧ n = n' := by
  have u := totR_pos hl
  obtain ⟨n0, g, e⟩ := h
  obtain ⟨n0', g', e'⟩ := k
  refine low_one n0 n0' g g' (Int.eq_of_mul_eq_mul_right (show (totR l).2 ≠ 0 by omega) ?_)
  grind
theorem IsTot.perm {l l' : List (Int × Int)} {m n : Int} (h : l.Perm l') (k : IsTot l m n) : IsTot l' m n := by
  unfold IsTot at *
  rw [← totR_perm h]
  exact k
theorem IsTot.nil : IsTot [] 0 1 := ⟨by decide, by decide, by simp [totR]⟩
theorem IsTot.add {l l' : List (Int × Int)} {m n m' n' M N : Int} (h : IsTot l m n) (k : IsTot l' m' n') (low : IsLow (m * n' + m' * n) (n * n') M N) : IsTot (l ++ l') M N := by
  obtain ⟨n0, _, e⟩ := h
  obtain ⟨n0', _, e'⟩ := k
  obtain ⟨N0, G, E, _⟩ := low
  refine ⟨N0, G, ?_⟩
  rw [totR_append]
  have nz : n * n' ≠ 0 := Int.mul_ne_zero (by omega) (by omega)
  refine Int.eq_of_mul_eq_mul_right nz ?_
  simp only
  grind
theorem IsTot.one {x y : Int} (y0 : 0 < y) (g : Int.gcd x y = 1) : IsTot [(x, y)] x y := ⟨y0, g, by simp [totR]⟩
theorem IsTot.sub {l : List (Int × Int)} {x y m n M N : Int} (y0 : 0 < y) (hl : Pos l) (h : IsTot ((x, y) :: l) m n) (low : IsLow (m * y - x * n) (n * y) M N) : IsTot l M N := by
  obtain ⟨n0, _, e⟩ := h
  obtain ⟨N0, G, E, _⟩ := low
  refine ⟨N0, G, ?_⟩
  rw [totR] at e
  simp only at e
  have nz : n * y ≠ 0 := Int.mul_ne_zero (by omega) (by omega)
  refine Int.eq_of_mul_eq_mul_right nz ?_
  grind
def floors (l : List (Int × Int)) : Int := (l.map fun r => r.1.fdiv r.2).sum
/-! ### a list of ratios at an address -/
inductive RtsAt (K : PySem.W.Frag) (H : Hp) : List V → List (Int × Int) → Prop
  | nil : RtsAt K H [] []
  | cons {p : Addr} {rs : List V} {x y : Int} {l : List (Int × Int)} (h : H p = some (.tup [.int x, .int y])) (y0 : 0 < y) (g : Int.gcd x y = 1) (bx : Bd 110 x) (bu : Bd 110 y) (t : RtsAt K H rs l) : RtsAt K H (.ref p :: rs) ((x, y) :: l)
section
variable {K : PySem.W.Frag} {H J : Hp}
theorem RtsAt.mono (m : ∀ p xs, H p = some (.tup xs) → J p = some (.tup xs)) : ∀ {rs : List V} {l : List (Int × Int)}, RtsAt K H rs l → RtsAt K J rs l
  | _, _, .nil => .nil
  | _, _, .cons h a b c d t => .cons (m _ _ h) a b c d (t.mono m)
theorem RtsAt.len : ∀ {rs : List V} {l : List (Int × Int)}, RtsAt K H rs l → rs.length = l.length
  | _, _, .nil => rfl
  | _, _, .cons _ _ _ _ _ t => by rw [List.length_cons, List.length_cons, t.len]
theorem RtsAt.pos : ∀ {rs : List V} {l : List (Int × Int)}, RtsAt K H rs l → Pos l
  | _, _, .nil => fun r hr => by cases hr
  | _, _, .cons _ y0 _ _ _ t => fun r hr => by
    rcases List.mem_cons.mp hr with rfl | hr
    · exact y0
    · exact t.pos r hr
theorem RtsAt.snoc {p : Addr} {x y : Int} (h : H p = some (.tup [.int x, .int y])) (y0 : 0 < y) (g : Int.gcd x y = 1) (bx : Bd 110 x) (bu : Bd 110 y) : ∀ {rs : List V} {l : List (Int × Int)}, RtsAt K H rs l → RtsAt K H (rs ++ [.ref p]) (l ++ [(x, y)])
  | _, _, .nil => .cons h y0 g bx bu .nil
  | _, _, .cons a b c d e t => .cons a b c d e (t.snoc h y0 g bx bu)
theorem RtsAt.get : ∀ {rs : List V} {l : List (Int × Int)}, RtsAt K H rs l → ∀ {i : Nat} {v : V}, rs[i]? = some v → ∃ p x y, v = .ref p ∧ l[i]? = some (x, y) ∧ H p = some (.tup [.int x, .int y]) ∧ 0 < y ∧ Int.gcd x y = 1 ∧ Bd 110 x ∧ Bd 110 y
  | _, _, .nil, i, v, e => by simp at e
  | _, _, .cons h a b c d t, 0, v, e => by
    simp at e
    exact ⟨_, _, _, e.symm, rfl, h, a, b, c, d⟩
  | _, _, .cons h a b c d t, i + 1, v, e => by
    simp at e
    obtain ⟨p, x, y, e1, e2, e3⟩ := t.get e
    exact ⟨p, x, y, e1, by simpa using e2, e3⟩
theorem RtsAt.drop : ∀ {rs : List V} {l : List (Int × Int)}, RtsAt K H rs l → ∀ n, RtsAt K H (rs.drop n) (l.drop n)
  | _, _, t, 0 => t
  | _, _, .nil, n + 1 => .nil
  | _, _, .cons _ _ _ _ _ t, n + 1 => t.drop n
theorem RtsAt.take : ∀ {rs : List V} {l : List (Int × Int)}, RtsAt K H rs l → ∀ n, RtsAt K H (rs.take n) (l.take n)
  | _, _, _, 0 => by rw [List.take_zero, List.take_zero]; exact .nil
  | _, _, .nil, n + 1 => .nil
  | _, _, .cons a b c d e t, n + 1 => .cons a b c d e (t.take n)
theorem RtsAt.perm {rs rs' : List V} (h : rs.Perm rs') : ∀ {l : List (Int × Int)}, RtsAt K H rs l → ∃ l', l.Perm l' ∧ RtsAt K H rs' l' := by
  induction h with
  | nil => intro l t; exact ⟨l, List.Perm.refl _, t⟩
  | cons x _ ih =>
    intro l t
    cases t with
    | cons h a b c d t =>
      obtain ⟨l', p, t'⟩ := ih t
      exact ⟨_, p.cons _, .cons h a b c d t'⟩
  | swap x y l0 =>
    intro l t
    cases t with
    | cons h a b c d t =>
      cases t with
      | cons h' a' b' c' d' t' => exact ⟨_, List.Perm.swap _ _ _, .cons h' a' b' c' d' (.cons h a b c d t')⟩
  | trans _ _ i1 i2 =>
    intro l t
    obtain ⟨l1, p1, t1⟩ := i1 t
    obtain ⟨l2, p2, t2⟩ := i2 t1
    exact ⟨l2, p1.trans p2, t2⟩
/-- the same as data -/
def ratD (r : Int × Int) : PyData := .tuple [.int r.1, .int r.2]
theorem RtsAt.dp : ∀ {rs : List V} {l : List (Int × Int)}, RtsAt K H rs l → DpAll K H rs (l.map ratD)
  | _, _, .nil => .nil
  | _, _, .cons h _ _ _ _ t => .cons (.tup (SqT.of h) (.cons (.int _) (.cons (.int _) .nil))) t.dp
theorem RtsAt.lay : ∀ (l : List (Int × Int)), PyData.depthAll (l.map ratD) ≤ 2 ∧ PyData.canLayAll0 (l.map ratD) = true
  | [] => ⟨by simp [PyData.depthAll], by simp [PyData.canLayAll0]⟩
  | r :: l => by
    obtain ⟨a, b⟩ := RtsAt.lay l
    refine ⟨?_, ?_⟩
    · simp only [List.map_cons, ratD, PyData.depthAll, PyData.depth]
      omega
    · simp [List.map_cons, ratD, PyData.canLayAll0, PyData.canLay0, b]
theorem ra_of {p : Addr} {x y : Int} (h : H p = some (.tup [.int x, .int y])) (y0 : 0 < y) (g : Int.gcd x y = 1) (bx : Bd 1000 x) (bu : Bd 1000 y) : Ra K H p x y := ⟨SqT.of h, y0, g, bx, bu⟩
end
section
variable {K : PySem.W.Frag} {H J : Hp} {Q : VK}
end
/-! ### a comprehension whose element draws from the bag -/
def LcEndB (D : Addr) (P : Nat → List V → Hp → Prop) (i : Nat) (y : V) (J : Hp) : Prop := ∃ acc, J D = some (.lst acc) ∧ acc.length < sizeLine ∧ ∃ ys, ys.length = i ∧ (upd J D (.lst (acc ++ [y]))) D = some (.lst ys) ∧ P i ys (upd J D (.lst (acc ++ [y])))
theorem lcEndB_mk {D : Addr} {P : Nat → List V → Hp → Prop} {i : Nat} {y : V} {J : Hp} {ys : List V} (h : J D = some (.lst ys)) (hl : ys.length = i) (hz : i ≤ 500) (q : ∀ J4, Pu D J J4 → J4 D = some (.lst (ys ++ [y])) → P (i + 1) (ys ++ [y]) J4) : LcEndB D P (i + 1) y J :=
  ⟨ys, h, small1000 (by omega), ys ++ [y], by rw [List.length_append, hl]; rfl, upd_same, q _ ⟨Kp.at, ⟨_, h⟩, ⟨_, upd_same⟩⟩ upd_same⟩
theorem lc_growB {g : TG} {te : TE} {vs : List Nat} {σ : L2.St} {H : Hp} {D : Addr} (P : Nat → List V → Hp → Prop) {n : Nat} {Qd : Hp → Prop} (h0 : P 0 [] (upd H D (.lst [])))
    (he : ∀ (i : Nat) ys J, i < n → ys.length = i → J D = some (.lst ys) → P i ys J → g (.int (0 + (i : Int))) (wipe σ vs) J fun σ2 J2 => wipe σ2 vs = wipe σ vs ∧ te σ2 J2 fun y J3 => LcEndB D P (i + 1) y J3)
    (hd : ∀ ys J, ys.length = n → J D = some (.lst ys) → P n ys J → Qd J) : Lc (Itr 0 n) g tYes te vs σ Qd H D := by
  refine lc_range (fun i J => ∃ ys, ys.length = i ∧ J D = some (.lst ys) ∧ P i ys J) ⟨[], rfl, upd_same, h0⟩ (fun i J hi w => ?_) fun J w => ?_
  · obtain ⟨ys, e, hJ, p⟩ := w
    exact he i ys J hi e hJ p
  · obtain ⟨ys, e, hJ, p⟩ := w
    exact hd ys J e hJ p
/-! ### what k06 keeps in view -/
structure St6 (K : PySem.W.Frag) (H : Hp) (b D p f : Addr) (ys ws : List V) (ls wl : List (Int × Int)) (m n : Int) (J : Hp) : Prop where
  kH : Kp b H J
  g : Bag b J
  eD : J D = some (.lst ys)
  ep : J p = some (.tup [.int m, .int n])
  ef : J f = some (.lst ws)
  ht : RtsAt K J ys ls
  tw : RtsAt K J ws wl
theorem St6.same {K : PySem.W.Frag} {H J M : Hp} {b D p f : Addr} {ys ws : List V} {ls wl : List (Int × Int)} {m n : Int} (S : St6 K H b D p f ys ws ls wl m n J) (s : Same J M) : St6 K H b D p f ys ws ls wl m n M :=
  ⟨S.kH.trans (Kp.of s), S.g.same s, s _ _ S.eD, s _ _ S.ep, s _ _ S.ef, S.ht.mono fun p xs h => s _ _ h, S.tw.mono fun p xs h => s _ _ h⟩
theorem RtsAt.three {K : PySem.W.Frag} {H : Hp} {rs : List V} {l : List (Int × Int)} (t : RtsAt K H rs l) (hz : 3 ≤ rs.length) : ∃ q1 q2 q3 x1 y1 x2 y2 x3 y3, rs.take 3 = [.ref q1, .ref q2, .ref q3] ∧ Ra K H q1 x1 y1 ∧ Ra K H q2 x2 y2 ∧ Ra K H q3 x3 y3 ∧ Bd 110 x1 ∧ Bd 110 y1 ∧ Bd 110 x2 ∧ Bd 110 y2 ∧ Bd 110 x3 ∧ Bd 110 y3 := by
  cases t with
  | nil => simp at hz
  | cons h1 a1 b1 c1 d1 t =>
    cases t with
    | nil => simp at hz
    | cons h2 a2 b2 c2 d2 t =>
      cases t with
      | nil => simp at hz
      | cons h3 a3 b3 c3 d3 t => exact ⟨_, _, _, _, _, _, _, _, _, rfl, ra_of h1 a1 b1 (c1.mono (by decide)) (d1.mono (by decide)), ra_of h2 a2 b2 (c2.mono (by decide)) (d2.mono (by decide)), ra_of h3 a3 b3 (c3.mono (by decide)) (d3.mono (by decide)), c1, d1, c2, d2, c3, d3⟩
end Ob
namespace Ob
open PySem PySem.Spec PyProof.Rows L2
/-! ### own functions called by the names of their parameters alone -/
def tCallK (m : Nat) (sp : Sp) (gV : List V → List V) (E : XK) (tk : TA) : TE := fun σ H Q => tk σ H fun zs H1 => zs.length = m ∧ sp (gV zs) H1 Q E
section
variable {K : PySem.W.Frag} {H : Hp} {σ : L2.St} {Q : VK} {tk : TA}
theorem rd_callK {m : Nat} {sp : Sp} {gV : List V → List V} {E : XK} (q : tk σ H fun zs H1 => zs.length = m ∧ sp (gV zs) H1 Q E) : tCallK m sp gV E tk σ H Q := q
theorem rd_kwl {zs : List V} {m : Nat} {A : Prop} (h : zs.length = m) (q : A) : zs.length = m ∧ A := ⟨h, q⟩
end
/-! ### lengths, by the numbers alone -/
section
variable {K : PySem.W.Frag} {H : Hp} {Q : VK}
end
end Ob
namespace Ob
open PySem PySem.Spec PyProof.Rows L2
/-! ### sets of cuts as truth over the units of a grain -/
def Frm (g : Nat) (f : Nat → Bool) (ss : List Sn) : Prop := 0 < g ∧ SnsOf g (rruns f g).reverse ss
def inB (ps : List (Nat × Nat)) (u : Nat) : Bool := ps.any fun r => decide (r.1 ≤ u) && decide (u < r.2)
theorem inB_iff {ps : List (Nat × Nat)} {u : Nat} : inB ps u = true ↔ In u ps := by
  unfold inB In
  rw [List.any_eq_true]
  constructor
  · rintro ⟨r, hr, h⟩
    rw [Bool.and_eq_true, decide_eq_true_eq, decide_eq_true_eq] at h
    exact ⟨r, hr, h⟩
  · rintro ⟨r, hr, h⟩
    exact ⟨r, hr, by rw [Bool.and_eq_true, decide_eq_true_eq, decide_eq_true_eq]; exact h⟩
theorem frm_of {g : Nat} {ps : List (Nat × Nat)} {ss : List Sn} (g0 : 0 < g) (a : Asc 0 ps) (bd : ∀ x ∈ ps, x.2 ≤ g) (s : SnsOf g ps ss) : Frm g (inB ps) ss := by
  have e : ps = (rruns (inB ps) g).reverse := asc_ext a (asc_rev (rruns_ok _ g)) fun u => by
    rw [in_rruns, inB_iff]
    refine ⟨fun h => ⟨?_, h⟩, fun h => h.2⟩
    obtain ⟨r, hr, h1, h2⟩ := h
    exact Nat.lt_of_lt_of_le h2 (bd r hr)
  exact ⟨g0, e ▸ s⟩
theorem rruns_congr {g : Nat} {f h : Nat → Bool} (e : ∀ u, u < g → f u = h u) : (rruns f g).reverse = (rruns h g).reverse :=
  asc_ext (asc_rev (rruns_ok f g)) (asc_rev (rruns_ok h g)) fun u => by
    rw [in_rruns, in_rruns]
    constructor
    · rintro ⟨a, b⟩
      exact ⟨a, by rw [← e u a]; exact b⟩
    · rintro ⟨a, b⟩
      exact ⟨a, by rw [e u a]; exact b⟩
theorem Frm.congr {g : Nat} {f h : Nat → Bool} {ss : List Sn} (k : Frm g f ss) (e : ∀ u, u < g → f u = h u) : Frm g h ss := ⟨k.1, rruns_congr e ▸ k.2⟩
theorem Frm.uniq {g : Nat} {f h : Nat → Bool} {ss ts : List Sn} (k : Frm g f ss) (l : Frm g h ts) (e : ∀ u, u < g → f u = h u) : ss = ts := sns_uniq k.1 (k.congr e).2 l.2
theorem low_inj {lo lo' g : Nat} {x y : Int} (h : IsLow (lo : Int) (g : Int) x y) (k : IsLow (lo' : Int) (g : Int) x y) : lo = lo' := by
  have e : (lo : Int) * y = (lo' : Int) * y := h.2.2.1.symm.trans k.2.2.1
  have := Int.eq_of_mul_eq_mul_right (show y ≠ 0 by have := h.1; omega) e
  omega
theorem sns_inj {g : Nat} : ∀ {ps qs : List (Nat × Nat)} {ss : List Sn}, SnsOf g ps ss → SnsOf g qs ss → ps = qs
  | _, _, _, .nil, .nil => rfl
  | _, _, _, .cons a b t, .cons a' b' t' => by rw [low_inj a a', low_inj b b', sns_inj t t']
theorem Frm.inj {g : Nat} {f h : Nat → Bool} {ss : List Sn} (k : Frm g f ss) (l : Frm g h ss) : ∀ u, u < g → f u = h u := by
  have e := sns_inj k.2 l.2
  intro u hu
  have a := in_rruns f g u
  have b := in_rruns h g u
  rw [e] at a
  rw [Bool.eq_iff_iff]
  constructor
  · intro z
    exact (b.mp (a.mpr ⟨hu, z⟩)).2
  · intro z
    exact (a.mp (b.mpr ⟨hu, z⟩)).2
theorem frm_nil {g : Nat} (g0 : 0 < g) : Frm g (fun _ => false) [] := frm_of (ps := []) g0 .nil (fun x hx => by cases hx) .nil
theorem Frm.both {g : Nat} {f h : Nat → Bool} {ss ts : List Sn} (a : Frm g f ss) (b : Frm g h ts) : Frm g (fun u => f u && h u) (bothS ss ts) := ⟨a.1, both_form a.1 a.2 b.2⟩
theorem Frm.without {g : Nat} {f h : Nat → Bool} {ss ts : List Sn} (a : Frm g f ss) (b : Frm g h ts) : Frm g (fun u => f u && !h u) (bothS ss (gapsS (0, 1) ts)) := ⟨a.1, without_form a.1 a.2 b.2⟩
theorem cuts_of {g : Nat} (g0 : 0 < g) : ∀ {ps : List (Nat × Nat)} {ss : List Sn} {i : Nat}, Asc i ps → (∀ x ∈ ps, x.2 ≤ g) → SnsOf g ps ss → cutsB ss = true
  | _, _, _, _, _, .nil => rfl
  | _, _, _, h, bd, .cons (s := s) a b t => by
    cases h with
    | cons k lt r =>
      have ih := cuts_of g0 r (fun x hx => bd x (List.mem_cons_of_mem _ hx)) t
      unfold cutsB at ih ⊢
      rw [Bool.and_eq_true] at ih
      have ok : okS s = true := by
        have hb := bd _ List.mem_cons_self
        have e1 := a.2.2.1
        have e2 := b.2.2.1
        have y0 := a.1
        have v0 := b.1
        have x0 : 0 ≤ s.x := by
          have h1 : 0 ≤ s.x * (g : Int) := by rw [e1]; exact Int.mul_nonneg (by omega) (by omega)
          exact Int.nonneg_of_mul_nonneg_left h1 (by omega)
        have u1 : s.u ≤ s.v := by
          have h1 : s.u * (g : Int) ≤ s.v * (g : Int) := by
            rw [e2, Int.mul_comm s.v]
            exact Int.mul_le_mul_of_nonneg_right (by exact_mod_cast hb) (by omega)
          exact Int.le_of_mul_le_mul_right h1 (by omega)
        have l := (low_lt a b g0).mpr lt
        unfold okS
        simp [l]
        omega
      rw [Bool.and_eq_true]
      refine ⟨by simp [ok]; simpa using ih.1, ?_⟩
      cases t with
      | nil => simp
      | cons a' b' t' =>
        cases r with
        | cons k' lt' r' =>
          have l := (low_lt b a' g0).mpr (by omega)
          have ih2 := ih.2
          simp [okN, l] at ih2 ⊢
          exact ih2
theorem Frm.cuts {g : Nat} {f : Nat → Bool} {ss : List Sn} (h : Frm g f ss) : cutsB ss = true := cuts_of h.1 (asc_rev (rruns_ok f g)) (fun x hx => (rruns_ok f g).bnd x (List.mem_reverse.mp hx)) h.2
theorem Frm.has {g : Nat} {f : Nat → Bool} {ss : List Sn} (h : Frm g f ss) {x y : Int} (x0 : 0 ≤ x) (xy : x < y) (gg : Int.gcd x y = 1) : ∃ u : Nat, u < g ∧ ∀ {f' : Nat → Bool} {ts : List Sn}, Frm g f' ts → ts.any (hasS x y) = f' u := by
  have g0 := h.1
  have y0 : 0 < y := by omega
  have q0 : 0 ≤ x * g / y := Int.ediv_nonneg (Int.mul_nonneg x0 (by omega)) (by omega)
  have ql : x * g / y < g := by
    refine (Int.ediv_lt_iff_lt_mul y0).mpr ?_
    rw [Int.mul_comm (g : Int) y]
    exact Int.mul_lt_mul_of_pos_right xy (by omega)
  obtain ⟨u, hu⟩ := Int.eq_ofNat_of_zero_le q0
  refine ⟨u, by omega, fun {f' ts} k => ?_⟩
  have e := Int.emod_add_mul_ediv (x * g) y
  have low : IsLow ((u : Int) * y + (x * g) % y) ((g : Int) * y) x y := by
    refine low_of y0 gg ?_ (Int.mul_ne_zero (by omega) (by omega))
    rw [← hu]
    grind
  have hf := has_form low (by omega) y0 (Int.emod_nonneg _ (by omega)) (Int.emod_lt_of_pos _ y0) k.2
  rw [Bool.eq_iff_iff, hf]
  have m := in_rruns f' g u
  constructor
  · rintro ⟨r, hr, h1, h2⟩
    exact (m.mp ⟨r, hr, by omega, by omega⟩).2
  · intro z
    obtain ⟨r, hr, h1, h2⟩ := m.mpr ⟨by omega, z⟩
    exact ⟨r, hr, by omega, by omega⟩
/-! ### lengths -/
theorem Frm.empty {g : Nat} {f : Nat → Bool} {ss : List Sn} (h : Frm g f ss) : ss = [] ↔ ∀ u, u < g → f u = false := by
  constructor
  · rintro rfl u hu
    exact h.inj (frm_nil h.1) u hu
  · intro z
    exact h.uniq (frm_nil h.1) z
theorem Frm.same {g : Nat} {f h : Nat → Bool} {ss ts : List Sn} (a : Frm g f ss) (b : Frm g h ts) : ss = ts ↔ ∀ u, u < g → f u = h u := by
  constructor
  · rintro rfl
    exact a.inj b
  · exact a.uniq b
/-! ### lists of spans compared -/
instance : DecidableEq Sn := fun s t => decidable_of_iff (s.x = t.x ∧ s.y = t.y ∧ s.u = t.u ∧ s.v = t.v) ⟨fun ⟨a, b, c, d⟩ => by cases s; cases t; simp only at a b c d; subst a b c d; rfl, fun e => by subst e; exact ⟨rfl, rfl, rfl, rfl⟩⟩
section
variable {K : PySem.W.Frag} {H : Hp} {a b : Addr} {rs zs : List V} {ss ts : List Sn} {Q : VK}
end
end Ob
namespace Ob
open PySem PySem.Spec PyProof.Rows L2
/-! ### three sets of cuts put together and taken away -/
def woS (s t : List Sn) : List Sn := bothS s (gapsS (0, 1) t)
theorem Frm.wo {g : Nat} {f h : Nat → Bool} {ss ts : List Sn} (a : Frm g f ss) (b : Frm g h ts) : Frm g (fun u => f u && !h u) (woS ss ts) := a.without b
/-! ### a set of cuts at an address -/
def SetA (K : PySem.W.Frag) (H : Hp) (l : Addr) (ss : List Sn) (m G : Nat) : Prop := ∃ rs, H l = some (.lst rs) ∧ SnsAt K H rs ss ∧ rs.length ≤ m ∧ ∃ g f, Frm g f ss ∧ g ≤ 2 ^ G
section
variable {K : PySem.W.Frag} {H J : Hp} {a b l D : Addr} {ss ts : List Sn} {m n G G' : Nat} {xs : List V} {σ : L2.St} {te : TE} {g : TG} {vs : List Nat}
theorem SetA.same (s : Same H J) (h : SetA K H l ss m G) : SetA K J l ss m G := by
  obtain ⟨rs, e, t, n, k⟩ := h
  exact ⟨rs, s _ _ e, t.mono fun p xs h => sqt_same s h, n, k⟩
theorem SetA.kp (k : Kp b H J) (gb : Bag b H) (nb : l ≠ b) (h : SetA K H l ss m G) : SetA K J l ss m G := by
  obtain ⟨rs, e, t, n, z⟩ := h
  exact ⟨rs, k _ _ nb e, t.mono fun p xs h => sqt_bag k gb h, n, z⟩
theorem SetA.up (h : SetA K H l ss m G) (a : m ≤ n) (b : G ≤ G') : SetA K H l ss n G' := by
  obtain ⟨rs, e, t, r, g, f, z, w⟩ := h
  exact ⟨rs, e, t, Nat.le_trans r a, g, f, z, Nat.le_trans w (Nat.pow_le_pow_right (by decide) b)⟩
/-- [f(x) for x in t], t a tuple; f may lay objects -/
theorem lc_growT (P : List V → Hp → Prop) {Qd : Hp → Prop} (hT : ∀ J, Kp D H J → SqT K J a xs) (hl : xs.length ≤ 500) (hD : H D = none) (h0 : ∀ J, Kp D H J → P [] J)
    (he : ∀ (i : Nat) x ys J, xs[i]? = some x → i ≤ 500 → ys.length = i → Kp D H J → J D = some (.lst ys) → P ys J → g x (wipe σ vs) J fun σ2 J2 => wipe σ2 vs = wipe σ vs ∧ te σ2 J2 fun y J3 => LcEnd D H P (i + 1) y J3)
    (hd : ∀ ys J, ys.length = xs.length → Kp D H J → J D = some (.lst ys) → P ys J → Qd J) : Lc (Itt K a) g tYes te vs σ Qd H D := by
  refine lc_tup (xs := xs) (fun i J => ∃ ys, ys.length = i ∧ Kp D H J ∧ J D = some (.lst ys) ∧ P ys J) ⟨[], rfl, Kp.new hD, upd_same, h0 _ (Kp.new hD)⟩ (fun i J _ w => ?_) (fun i x J hx w => ?_) fun J w => ?_
  · obtain ⟨ys, _, k, _⟩ := w
    exact hT J k
  · obtain ⟨ys, e, k, hJ, p⟩ := w
    have lt : i < xs.length := (List.getElem?_eq_some_iff.mp hx).1
    exact he i x ys J hx (by omega) e k hJ p
  · obtain ⟨ys, e, k, hJ, p⟩ := w
    exact hd ys J e k hJ p
/-- what the loop over cuts goes through -/
def CutV (K : PySem.W.Frag) (H : Hp) (v : V) : Prop := ∃ p x y, v = .ref p ∧ Ra K H p x y ∧ 0 ≤ x ∧ x < y
theorem CutV.same (s : Same H J) {v : V} (h : CutV K H v) : CutV K J v := by
  obtain ⟨p, x, y, e, r, z⟩ := h
  exact ⟨p, x, y, e, r.mono fun xs h => sqt_same s h, z⟩
end
end Ob
namespace Ob
open PySem PySem.Spec PyProof.Rows L2
/-! ### zip(list, tuple) -/
end Ob
namespace Ob
open PySem PySem.Spec PyProof.Rows L2
/-! ### repr of data with texts -/
mutual
def szT : PyData → Nat
  | .none => 4
  | .bool _ => 5
  | .int i => i.natAbs.log2 + 2
  | .str x => (reprText x).length
  | .list xs => szsT xs + 2
  | .tuple xs => szsT xs + 2
  | .dict _ => 0
def szsT : List PyData → Nat
  | [] => 0
  | x :: xs => szT x + 2 + szsT xs
end
mutual
def smT : PyData → Bool
  | .none => true
  | .bool _ => true
  | .int i => decide (i.natAbs.log2 < 1900)
  | .str _ => true
  | .list xs => smsT xs
  | .tuple xs => smsT xs
  | .dict _ => false
def smsT : List PyData → Bool
  | [] => true
  | x :: xs => smT x && smsT xs
end
mutual
theorem shownT_le : ∀ d : PyData, smT d = true → d.shown.length ≤ szT d ∧ d.showable = true ∧ d.hasDict = false
  | .none, _ => ⟨by decide +kernel, by simp [PyData.showable], by simp [PyData.hasDict]⟩
  | .bool b, _ => ⟨by cases b <;> decide +kernel, by simp [PyData.showable], by simp [PyData.hasDict]⟩
  | .int i, h => by
    have h1 : i.natAbs.log2 < 1900 := by simpa [smT] using h
    refine ⟨?_, by simp [PyData.showable]; omega, by simp [PyData.hasDict]⟩
    have e := int_text_length_le (a := i) (k := i.natAbs.log2 + 1) (by omega) (by omega)
    have e3 : (PyData.int i).shown = Str.ofString (toString i) := by simp only [PyData.shown]
    rw [e3, PySem.ofString_length, szT]
    omega
  | .str x, _ => ⟨by simp [PyData.shown, szT], by simp [PyData.showable], by simp [PyData.hasDict]⟩
  | .dict _, h => by simp [smT] at h
  | .list xs, h => by
    have q := shownsT_le xs (by simpa [smT] using h)
    refine ⟨?_, by simp [PyData.showable, q.2.1], by simp [PyData.hasDict, q.2.2]⟩
    have e := list_le (PyData.shownAll xs)
    simp only [PyData.shown, szT]
    omega
  | .tuple xs, h => by
    have q := shownsT_le xs (by simpa [smT] using h)
    refine ⟨?_, by simp [PyData.showable, q.2.1], by simp [PyData.hasDict, q.2.2]⟩
    have e := fmt_text (PyData.shownAll xs)
    simp only [PyData.shown, szT]
    omega
theorem shownsT_le : ∀ xs : List PyData, smsT xs = true → piled (PyData.shownAll xs) ≤ szsT xs ∧ PyData.showableAll xs = true ∧ PyData.hasDictAll xs = false
  | [], _ => ⟨Nat.zero_le _, by simp [PyData.showableAll], by simp [PyData.hasDictAll]⟩
  | x :: xs, h => by
    have h2 : smT x = true ∧ smsT xs = true := by simpa [smsT] using h
    have p := shownT_le x h2.1
    have q := shownsT_le xs h2.2
    refine ⟨?_, by simp [PyData.showableAll, p.2.1, q.2.1], by simp [PyData.hasDictAll, p.2.2, q.2.2]⟩
    have e : PyData.shownAll (x :: xs) = x.shown :: PyData.shownAll xs := by simp only [PyData.shownAll]
    rw [e, piled_cons, szsT]
    omega
end
/-- repr of an int, None, a truth value, or data at an address -/
def rReprT (K : PySem.W.Frag) : List V → Hp → VK → Prop := fun xs H Q => (∃ i : Int, xs = [.int i] ∧ i.natAbs.log2 < 1920 ∧ Q (.str (toString i)) H) ∨ (xs = [.non] ∧ Q (.str "None") H) ∨
  ∃ (a : Addr) (d : PyData), xs = [.ref a] ∧ Dp K H (.ref a) d ∧ smT d = true ∧ szT d ≤ 1000000 ∧ d.depth ≤ 50 ∧ Q (.str d.shown) H
section
variable {X : Cx} {K : PySem.W.Frag}
theorem cr_reprT (hg : X.A.guards = some []) (hu : X.A.units + 64 < cLine) : CallR X (.builtin "repr") (rReprT X.K) := by
  intro pins s σ H xs us Q I r h
  rcases h with h | ⟨rfl, q⟩ | ⟨a, d, rfl, hd, hs, hz, hp, q⟩
  · exact SkE.call_repr_int pins s σ H xs us Q I r h
  · obtain ⟨u, rfl, t⟩ := vals1 r
    cases t
    exact PySem.P.repr_of_none ⟨.str _, H, I.tok _, ⟨_, rfl⟩, q⟩
  · obtain ⟨u, rfl, ru⟩ := vals1 r
    cases ru
    obtain ⟨as, rd⟩ := Dp.reads I d _ _ hd rfl
    obtain ⟨h1, h2, h3⟩ := shownT_le d hs
    exact repr_of_reads' rd h2 (PyData.noDict_hsm h3) hg (by omega) (fun _ _ e => e) (fun h' u tk k => ⟨.str _, H, I.kept k, ⟨_, rfl⟩, q⟩) (Nat.le_trans h1 (Nat.le_trans hz (by decide)))
/-! ### divmod, tuple(x), what is never reached -/
def rTupL (K : PySem.W.Frag) : List V → Hp → VK → Prop := fun xs H Q => ∃ p ys, xs = [.ref p] ∧ ((SqL K H p ys ∧ ∀ l, H l = none → Q (.ref l) (upd H l (.tup ys))) ∨ (SqT K H p ys ∧ Q (.ref p) H))
theorem tupK (h : X.K = K) : CallR X (.type "tuple") (rTupL K) := h ▸ call_tuple_of
theorem rd_tupL {H : Hp} {Q : VK} {p : Addr} {ys : List V} (h : SqL K H p ys) (q : ∀ l J, H l = none → Same H J → J l = some (.tup ys) → Q (.ref l) J) : rTupL K [.ref p] H Q := ⟨p, ys, rfl, .inl ⟨h, fun l nl => q l _ nl (same_new nl) upd_same⟩⟩
theorem ps_dead {st : Stmt} : PS X st (fun _ _ _ => False) := ⟨fun _ _ _ _ _ _ h => h.elim⟩
end
section
variable {K : PySem.W.Frag} {H : Hp} {σ : L2.St} {a : Addr} {xs : List V} {g : TG}
theorem rd_forT {tl : TE} {tb : TS} {E : Ends} (q : tl σ H fun x H1 => ∃ a, x = .ref a ∧ (∃ xs, SqT K H1 a xs) ∧ Lp (Itt K a) g tb E σ H1) : tFor (iTup K tl) g tb E σ H := q
theorem lp_tup {tb : TS} {E : Ends} (Pv : Nat → L2.St → Hp → Prop) (h0 : Pv 0 σ H) (hl : ∀ i σ H, i ≤ xs.length → Pv i σ H → SqT K H a xs)
    (hs : ∀ i x σ H, xs[i]? = some x → Pv i σ H → g x σ H fun σ2 H2 => tb { E with nx := Pv (i + 1), ct := Pv (i + 1), bk := E.nx } σ2 H2) (hd : ∀ σ H, Pv xs.length σ H → E.nx σ H) : Lp (Itt K a) g tb E σ H := for_tup Pv h0 hl hs hd
end
end Ob
namespace Ob
open PySem PySem.Spec PyProof.Rows L2
/-! ### entries: what they give, over a grain -/
structure Ent where
  first : Nat
  many : Nat
  am : List (Int × Int)
/-- the units of an amount -/
def unit (G : Nat) (r : Int × Int) : Int := r.1 * (G : Int) / r.2
def uts (G : Nat) (e : Ent) : List Int := e.am.map (unit G)
def Fits (G : Nat) (am : List (Int × Int)) : Prop := ∀ r ∈ am, 0 < r.2 ∧ r.2 ∣ (G : Int)
/-- the sum of the first n of a pattern that goes on and on -/
def rnd (us : List Int) (n : Nat) : Int := ((n / us.length : Nat) : Int) * us.sum + (us.take (n % us.length)).sum
def bE (G : Nat) (e : Ent) (d : Nat) : Int := rnd (uts G e) (min (d - e.first) e.many)
theorem uts_len (G : Nat) (e : Ent) : (uts G e).length = e.am.length := List.length_map ..
def bS (G : Nat) (es : List Ent) (d : Nat) : Int := (es.map fun e => bE G e d).sum
/-! what often each amount comes -/
/-! bounds -/
theorem bd_sum {n : Nat} : ∀ {us : List Int}, (∀ u ∈ us, Bd n u) → us.sum.natAbs ≤ us.length * 2 ^ n
  | [], _ => by simp
  | u :: us, h => by
    have ih := bd_sum (us := us) fun x hx => h x (List.mem_cons_of_mem _ hx)
    have h1 := h u List.mem_cons_self
    unfold Bd at h1
    rw [List.sum_cons, List.length_cons, Nat.succ_mul]
    have := Int.natAbs_add_le u us.sum
    omega
theorem bd_sums {n m : Nat} {us : List Int} (h : ∀ u ∈ us, Bd n u) (l : us.length < 2 ^ m) : Bd (m + n) us.sum := by
  have := bd_sum h
  unfold Bd
  rw [Nat.pow_add]
  exact Nat.lt_of_le_of_lt this (Nat.mul_lt_mul_of_pos_right l (Nat.pow_pos (by decide)))
theorem natAbs_ediv_le (u : Int) {v : Int} (h : 0 < v) : (u / v).natAbs ≤ u.natAbs := by
  have := natAbs_fdiv_le u h
  rwa [Int.fdiv_eq_ediv_of_nonneg u (by omega)] at this
theorem unit_bd {G n m : Nat} {r : Int × Int} (h : 0 < r.2) (a : Bd n r.1) (g : G < 2 ^ m) : Bd (n + m) (unit G r) := by
  have h1 : Bd (n + m) (r.1 * (G : Int)) := a.mul (by unfold Bd; omega)
  exact h1.le (natAbs_ediv_le _ h)
/-! ### entries at addresses -/
inductive AmsAt (H : Hp) : List V → List (Int × Int) → Prop
  | nil : AmsAt H [] []
  | cons {p : Addr} {rs : List V} {x y : Int} {l : List (Int × Int)} (h : H p = some (.tup [.int x, .int y])) (y0 : 0 < y) (g : Int.gcd x y = 1) (bx : Bd 20 x) (bu : Bd 20 y) (t : AmsAt H rs l) : AmsAt H (.ref p :: rs) ((x, y) :: l)
def EntAt (H : Hp) (v : V) (e : Ent) : Prop := ∃ p a rs, v = .ref p ∧ H p = some (.tup [.str "entry", .int (e.first : Int), .int (e.many : Int), .ref a]) ∧ H a = some (.tup rs) ∧ AmsAt H rs e.am ∧ e.am ≠ [] ∧ e.am.length ≤ 4 ∧ e.first + e.many ≤ 10 ^ 30 ∧ 1 ≤ e.many
inductive EntsAt (H : Hp) : List V → List Ent → Prop
  | nil : EntsAt H [] []
  | cons {v : V} {vs : List V} {e : Ent} {es : List Ent} (h : EntAt H v e) (t : EntsAt H vs es) : EntsAt H (v :: vs) (e :: es)
section
variable {K : PySem.W.Frag} {H J : Hp}
theorem AmsAt.mono (m : ∀ p xs, H p = some (.tup xs) → J p = some (.tup xs)) : ∀ {rs : List V} {l : List (Int × Int)}, AmsAt H rs l → AmsAt J rs l
  | _, _, .nil => .nil
  | _, _, .cons h a b c d t => .cons (m _ _ h) a b c d (t.mono m)
theorem AmsAt.len : ∀ {rs : List V} {l : List (Int × Int)}, AmsAt H rs l → rs.length = l.length
  | _, _, .nil => rfl
  | _, _, .cons _ _ _ _ _ t => by rw [List.length_cons, List.length_cons, t.len]
theorem AmsAt.get : ∀ {rs : List V} {l : List (Int × Int)}, AmsAt H rs l → ∀ {i : Nat} {v : V}, rs[i]? = some v → ∃ p x y, v = .ref p ∧ l[i]? = some (x, y) ∧ H p = some (.tup [.int x, .int y]) ∧ 0 < y ∧ Int.gcd x y = 1 ∧ Bd 20 x ∧ Bd 20 y
  | _, _, .nil, i, v, e => by simp at e
  | _, _, .cons h a b c d t, 0, v, e => by
    simp at e
    exact ⟨_, _, _, e.symm, rfl, h, a, b, c, d⟩
  | _, _, .cons h a b c d t, i + 1, v, e => by
    simp at e
    obtain ⟨p, x, y, e1, e2, e3⟩ := t.get e
    exact ⟨p, x, y, e1, by simpa using e2, e3⟩
theorem AmsAt.snoc {p : Addr} {x y : Int} (h : H p = some (.tup [.int x, .int y])) (y0 : 0 < y) (g : Int.gcd x y = 1) (bx : Bd 20 x) (bu : Bd 20 y) : ∀ {rs : List V} {l : List (Int × Int)}, AmsAt H rs l → AmsAt H (rs ++ [.ref p]) (l ++ [(x, y)])
  | _, _, .nil => .cons h y0 g bx bu .nil
  | _, _, .cons a b c d e t => .cons a b c d e (t.snoc h y0 g bx bu)
theorem AmsAt.bds : ∀ {rs : List V} {l : List (Int × Int)}, AmsAt H rs l → ∀ r ∈ l, 0 < r.2 ∧ Int.gcd r.1 r.2 = 1 ∧ Bd 20 r.1 ∧ Bd 20 r.2
  | _, _, .nil => fun r hr => by cases hr
  | _, _, .cons _ a b c d t => fun r hr => by
    rcases List.mem_cons.mp hr with rfl | hr
    · exact ⟨a, b, c, d⟩
    · exact t.bds r hr
theorem AmsAt.dp : ∀ {rs : List V} {l : List (Int × Int)}, AmsAt H rs l → DpAll K H rs (l.map ratD)
  | _, _, .nil => .nil
  | _, _, .cons h _ _ _ _ t => .cons (.tup (SqT.of h) (.cons (.int _) (.cons (.int _) .nil))) t.dp
theorem EntAt.mono (m : ∀ p xs, H p = some (.tup xs) → J p = some (.tup xs)) {v : V} {e : Ent} (h : EntAt H v e) : EntAt J v e := by
  obtain ⟨p, a, rs, e1, h1, h2, h3, r⟩ := h
  exact ⟨p, a, rs, e1, m _ _ h1, m _ _ h2, h3.mono m, r⟩
theorem EntsAt.mono (m : ∀ p xs, H p = some (.tup xs) → J p = some (.tup xs)) : ∀ {vs : List V} {es : List Ent}, EntsAt H vs es → EntsAt J vs es
  | _, _, .nil => .nil
  | _, _, .cons h t => .cons (h.mono m) (t.mono m)
theorem EntsAt.len : ∀ {vs : List V} {es : List Ent}, EntsAt H vs es → vs.length = es.length
  | _, _, .nil => rfl
  | _, _, .cons _ t => by rw [List.length_cons, List.length_cons, t.len]
theorem EntsAt.get : ∀ {vs : List V} {es : List Ent}, EntsAt H vs es → ∀ {i : Nat} {v : V}, vs[i]? = some v → ∃ e, es[i]? = some e ∧ EntAt H v e
  | _, _, .nil, i, v, e => by simp at e
  | _, _, .cons h t, 0, v, e => by
    simp at e
    subst e
    exact ⟨_, rfl, h⟩
  | _, _, .cons h t, i + 1, v, e => by
    simp at e
    obtain ⟨x, e1, e2⟩ := t.get e
    exact ⟨x, by simpa using e1, e2⟩
theorem EntsAt.snoc {v : V} {e : Ent} (h : EntAt H v e) : ∀ {vs : List V} {es : List Ent}, EntsAt H vs es → EntsAt H (vs ++ [v]) (es ++ [e])
  | _, _, .nil => .cons h .nil
  | _, _, .cons a t => .cons a (t.snoc h)
theorem EntsAt.all : ∀ {vs : List V} {es : List Ent}, EntsAt H vs es → ∀ e ∈ es, e.am ≠ [] ∧ e.am.length ≤ 4 ∧ e.first + e.many ≤ 10 ^ 30 ∧ 1 ≤ e.many ∧ ∀ r ∈ e.am, 0 < r.2 ∧ Int.gcd r.1 r.2 = 1 ∧ Bd 20 r.1 ∧ Bd 20 r.2
  | _, _, .nil => fun e he => by cases he
  | _, _, .cons h t => fun e he => by
    rcases List.mem_cons.mp he with rfl | he
    · obtain ⟨p, a, rs, _, _, _, am, h1, h2, h3, h4⟩ := h
      exact ⟨h1, h2, h3, h4, am.bds⟩
    · exact t.all e he
def entD (e : Ent) : PyData := .tuple [.str "entry", .int (e.first : Int), .int (e.many : Int), .tuple (e.am.map ratD)]
theorem EntsAt.dp : ∀ {vs : List V} {es : List Ent}, EntsAt H vs es → DpAll K H vs (es.map entD)
  | _, _, .nil => .nil
  | _, _, .cons h t => by
    obtain ⟨p, a, rs, rfl, h1, h2, h3, _⟩ := h
    exact .cons (.tup (SqT.of h1) (.cons (.str _) (.cons (.int _) (.cons (.int _) (.cons (.tup (SqT.of h2) h3.dp) .nil))))) t.dp
/-! ### fractions to be added -/
inductive FrsAt (K : PySem.W.Frag) (H : Hp) (G : Nat) : List V → List Int → Prop
  | nil : FrsAt K H G [] []
  | cons {p : Addr} {rs : List V} {x y u : Int} {us : List Int} (h : SqT K H p [.int x, .int y]) (y0 : 0 < y) (e : x * (G : Int) = u * y) (bx : Bd 1500 x) (bu : Bd 1500 y) (t : FrsAt K H G rs us) : FrsAt K H G (.ref p :: rs) (u :: us)
theorem FrsAt.mono {G : Nat} (m : ∀ p xs, SqT K H p xs → SqT K J p xs) : ∀ {rs : List V} {us : List Int}, FrsAt K H G rs us → FrsAt K J G rs us
  | _, _, .nil => .nil
  | _, _, .cons h a b c d t => .cons (m _ _ h) a b c d (t.mono m)
theorem FrsAt.len {G : Nat} : ∀ {rs : List V} {us : List Int}, FrsAt K H G rs us → rs.length = us.length
  | _, _, .nil => rfl
  | _, _, .cons _ _ _ _ _ t => by rw [List.length_cons, List.length_cons, t.len]
theorem FrsAt.get {G : Nat} : ∀ {rs : List V} {us : List Int}, FrsAt K H G rs us → ∀ {i : Nat} {v : V}, rs[i]? = some v → ∃ p x y u, v = .ref p ∧ us[i]? = some u ∧ SqT K H p [.int x, .int y] ∧ 0 < y ∧ x * (G : Int) = u * y ∧ Bd 1500 x ∧ Bd 1500 y
  | _, _, .nil, i, v, e => by simp at e
  | _, _, .cons h a b c d t, 0, v, e => by
    simp at e
    exact ⟨_, _, _, _, e.symm, rfl, h, a, b, c, d⟩
  | _, _, .cons h a b c d t, i + 1, v, e => by
    simp at e
    obtain ⟨p, x, y, u, e1, e2, e3⟩ := t.get e
    exact ⟨p, x, y, u, e1, by simpa using e2, e3⟩
theorem FrsAt.snoc {G : Nat} {p : Addr} {x y u : Int} (h : SqT K H p [.int x, .int y]) (y0 : 0 < y) (e : x * (G : Int) = u * y) (bx : Bd 1500 x) (bu : Bd 1500 y) : ∀ {rs : List V} {us : List Int}, FrsAt K H G rs us → FrsAt K H G (rs ++ [.ref p]) (us ++ [u])
  | _, _, .nil => .cons h y0 e bx bu .nil
  | _, _, .cons a b c d f t => .cons a b c d f (t.snoc h y0 e bx bu)
end
theorem bE_bd {G : Nat} {e : Ent} {d : Nat} (l4 : e.am.length ≤ 4) (h : ∀ r ∈ e.am, 0 < r.2 ∧ Bd 20 r.1) (g : G < 2 ^ 500) (m30 : e.many ≤ 10 ^ 30) : Bd 640 (bE G e d) := by
  have hu : ∀ u ∈ uts G e, Bd 520 u := fun u hu => by
    obtain ⟨r, hr, rfl⟩ := List.mem_map.mp hu
    exact unit_bd (h r hr).1 (h r hr).2 g
  have s1 : Bd (3 + 520) (uts G e).sum := bd_sums hu (by rw [uts_len]; omega)
  have hn : min (d - e.first) e.many ≤ 10 ^ 30 := by omega
  unfold bE rnd
  generalize min (d - e.first) e.many = N at hn
  have s2 : Bd (3 + 520) ((uts G e).take (N % (uts G e).length)).sum := bd_sums (fun u k => hu u (List.mem_of_mem_take k)) (by rw [List.length_take, uts_len]; omega)
  have q1 : Bd 100 ((N / (uts G e).length : Nat) : Int) := by
    have h := Nat.div_le_self N (uts G e).length
    unfold Bd
    rw [Int.natAbs_natCast]
    exact Nat.lt_of_le_of_lt h (by omega)
  exact ((q1.mul s1).add (s2.mono (by decide))).mono (by decide)
theorem bS_bd {G : Nat} {es : List Ent} {d : Nat} (l : es.length ≤ 10) (h : ∀ e ∈ es, e.am.length ≤ 4 ∧ e.many ≤ 10 ^ 30 ∧ ∀ r ∈ e.am, 0 < r.2 ∧ Bd 20 r.1) (g : G < 2 ^ 500) : Bd 650 (bS G es d) := by
  have hu : ∀ u ∈ es.map (fun e => bE G e d), Bd 640 u := fun u hu => by
    obtain ⟨e, he, rfl⟩ := List.mem_map.mp hu
    exact bE_bd (h e he).1 (h e he).2.2 g (h e he).2.1
  exact (bd_sums (m := 4) hu (by rw [List.length_map]; omega)).mono (by decide)
/-- a list of entries at an address, and a grain that fits them -/
def Led (H : Hp) (l : Addr) (es : List Ent) (G : Nat) : Prop := ∃ vs, H l = some (.lst vs) ∧ EntsAt H vs es ∧ (∀ e ∈ es, Fits G e.am) ∧ 0 < G ∧ G < 2 ^ 500 ∧ vs.length ≤ 10
section
variable {H J : Hp} {l b : Addr} {es : List Ent} {G : Nat}
theorem Led.same (s : Same H J) (h : Led H l es G) : Led J l es G := by
  obtain ⟨vs, e, t, r⟩ := h
  exact ⟨vs, s _ _ e, t.mono fun p xs h => s _ _ h, r⟩
theorem Led.kp (k : Kp b H J) (gb : Bag b H) (nb : l ≠ b) (h : Led H l es G) : Led J l es G := by
  obtain ⟨vs, e, t, r⟩ := h
  exact ⟨vs, k _ _ nb e, t.mono fun p xs h => k.tup gb h, r⟩
theorem Led.pos (h : Led H l es G) : 0 < G := by
  obtain ⟨vs, e, t, f, g, r⟩ := h
  exact g
theorem Led.lt (h : Led H l es G) : G < 2 ^ 500 := by
  obtain ⟨vs, e, t, f, g, r, _⟩ := h
  exact r
theorem Led.bd (h : Led H l es G) (d : Nat) : Bd 650 (bS G es d) := by
  obtain ⟨vs, e, t, f, g, r, n⟩ := h
  have al := t.all
  have ln := t.len
  exact bS_bd (by omega) (fun e he => ⟨(al e he).2.1, by have := (al e he).2.2.1; omega, fun r hr => ⟨((al e he).2.2.2.2 r hr).1, ((al e he).2.2.2.2 r hr).2.2.1⟩⟩) r
end
/-! ### what the drawing of a ledger keeps -/
def Kd (b D : Addr) (H J : Hp) : Prop := ∀ a o, a ≠ b → a ≠ D → H a = some o → J a = some o
section
variable {K : PySem.W.Frag} {H J M : Hp} {a b D p : Addr} {xs : List V}
theorem Kd.start (o : HO) : Kd b D H (upd H D o) := fun a u _ n e => by rw [upd_ne n]; exact e
theorem Kd.kp (k : Kd b D H J) (h : Kp b J M) : Kd b D H M := fun a o n1 n2 e => h _ _ n1 (k a o n1 n2 e)
theorem Kd.same (k : Kd b D H J) (h : Same J M) : Kd b D H M := fun a o n1 n2 e => h _ _ (k a o n1 n2 e)
theorem Kd.pu (k : Kd b D H J) (h : Pu D J M) : Kd b D H M := fun a o n1 n2 e => h.1 _ _ n2 (k a o n1 n2 e)
theorem Kd.tup (k : Kd b D H J) (gb : Bag b H) (nD : H D = none) (e : H a = some (.tup xs)) : J a = some (.tup xs) := k a _ (fun z => by
  obtain ⟨x, y, q⟩ := gb
  subst z
  cases e.symm.trans q) (ne_of_none e nD) e
theorem Kd.of (k : Kd b D H J) (nD : H D = none) : Kp b H J := fun a o n e => k a o n (ne_of_none e nD) e
end
/-! ### the least common grain -/
theorem Fits.up {G G' : Nat} {am : List (Int × Int)} (h : Fits G am) (d : G ∣ G') : Fits G' am := fun r hr => ⟨(h r hr).1, Int.dvd_trans (h r hr).2 (Int.natCast_dvd_natCast.mpr d)⟩
/-! ### statements -/
structure Stm where
  first : Nat
  many : Nat
  num : Int
def StmAt (H : Hp) (v : V) (s : Stm) : Prop := ∃ p, v = .ref p ∧ H p = some (.tup [.str "statement", .int (s.first : Int), .int (s.many : Int), .int s.num])
inductive StmsAt (H : Hp) : List V → List Stm → Prop
  | nil : StmsAt H [] []
  | cons {v : V} {vs : List V} {s : Stm} {ss : List Stm} (h : StmAt H v s) (t : StmsAt H vs ss) : StmsAt H (v :: vs) (s :: ss)
theorem StmAt.mono {H J : Hp} (m : ∀ p xs, H p = some (.tup xs) → J p = some (.tup xs)) {v : V} {s : Stm} (h : StmAt H v s) : StmAt J v s := by
  obtain ⟨p, e1, h1⟩ := h
  exact ⟨p, e1, m _ _ h1⟩
theorem StmsAt.mono {H J : Hp} (m : ∀ p xs, H p = some (.tup xs) → J p = some (.tup xs)) : ∀ {vs : List V} {es : List Stm}, StmsAt H vs es → StmsAt J vs es
  | _, _, .nil => .nil
  | _, _, .cons h t => .cons (h.mono m) (t.mono m)
theorem StmsAt.snoc {H : Hp} {v : V} {e : Stm} (h : StmAt H v e) : ∀ {vs : List V} {es : List Stm}, StmsAt H vs es → StmsAt H (vs ++ [v]) (es ++ [e])
  | _, _, .nil => .cons h .nil
  | _, _, .cons a t => .cons a (t.snoc h)
theorem StmsAt.len {H : Hp} : ∀ {vs : List V} {es : List Stm}, StmsAt H vs es → vs.length = es.length
  | _, _, .nil => rfl
  | _, _, .cons _ t => by rw [List.length_cons, List.length_cons, t.len]
theorem StmsAt.get {H : Hp} : ∀ {vs : List V} {es : List Stm}, StmsAt H vs es → ∀ {i : Nat} {v : V}, vs[i]? = some v → ∃ e, es[i]? = some e ∧ StmAt H v e
  | _, _, .nil, i, v, e => by simp at e
  | _, _, .cons h t, 0, v, e => by
    simp at e
    subst e
    exact ⟨_, rfl, h⟩
  | _, _, .cons h t, i + 1, v, e => by
    simp at e
    obtain ⟨x, e1, e2⟩ := t.get e
    exact ⟨x, by simpa using e1, e2⟩
def toldN (G : Nat) (es : List Ent) (u : Int) (i n : Nat) : Int := (bS G es (i + n) + u).fdiv (G : Int) - (bS G es i + u).fdiv (G : Int)
/-- what is drawn: entries, statements, a last day, a grain -/
structure Case (K : PySem.W.Frag) (H : Hp) (l s : Addr) (es : List Ent) (ss : List Stm) (last G : Nat) : Prop where
  led : Led H l es G
  g : G ≤ 2 ^ 320
  len : es.length ≤ 4
  first : ∀ e ∈ es, e.first + e.many ≤ last + 1
  lo : 2 ≤ last
  hi : last ≤ 13
  at_ : ∃ ws, H s = some (.lst ws) ∧ StmsAt H ws ss
  stm : ∀ x ∈ ss, 1 ≤ x.many ∧ x.first + x.many ≤ last + 1 ∧ Bd 700 x.num
theorem Case.same {K : PySem.W.Frag} {H J : Hp} {l s : Addr} {es : List Ent} {ss : List Stm} {last G : Nat} (h : Same H J) (c : Case K H l s es ss last G) : Case K J l s es ss last G :=
  ⟨c.led.same h, c.g, c.len, c.first, c.lo, c.hi, let ⟨ws, e, t⟩ := c.at_; ⟨ws, h _ _ e, t.mono fun p xs z => h _ _ z⟩, c.stm⟩
theorem Case.kp {K : PySem.W.Frag} {H J : Hp} {l s b : Addr} {es : List Ent} {ss : List Stm} {last G : Nat} (k : Kp b H J) (gb : Bag b H) (nl : l ≠ b) (ns : s ≠ b) (c : Case K H l s es ss last G) : Case K J l s es ss last G :=
  ⟨c.led.kp k gb nl, c.g, c.len, c.first, c.lo, c.hi, let ⟨ws, e, t⟩ := c.at_; ⟨ws, k _ _ ns e, t.mono fun p xs z => k.tup gb z⟩, c.stm⟩
theorem kl_tup {H J : Hp} {c a : Addr} {zs xs : List V} (k : Kp c H J) (hc : H c = some (.lst zs)) (e : H a = some (.tup xs)) : J a = some (.tup xs) := k a _ (fun z => by
  subst z
  cases hc.symm.trans e) e
theorem Case.kl {K : PySem.W.Frag} {H J : Hp} {l s c : Addr} {es : List Ent} {ss : List Stm} {last G : Nat} {zs : List V} (k : Kp c H J) (hc : H c = some (.lst zs)) (nl : l ≠ c) (ns : s ≠ c) (h : Case K H l s es ss last G) : Case K J l s es ss last G :=
  ⟨let ⟨ws, e, t, r⟩ := h.led; ⟨ws, k _ _ nl e, t.mono fun p xs z => kl_tup k hc z, r⟩, h.g, h.len, h.first, h.lo, h.hi, let ⟨ws, e, t⟩ := h.at_; ⟨ws, k _ _ ns e, t.mono fun p xs z => kl_tup k hc z⟩, h.stm⟩
theorem Bag.kl {H J : Hp} {b c : Addr} (k : Kp c H J) (n : b ≠ c) (g : Bag b H) : Bag b J := by
  obtain ⟨x, y, e⟩ := g
  exact ⟨x, y, k _ _ n e⟩
theorem rd_extK {H : Hp} {Q : VK} {l c : Addr} {xs zs : List V} (h : H l = some (.lst xs)) (k : H c = some (.lst zs)) (hz : xs.length + zs.length ≤ 1000) (q : ∀ J, Pu l H J → J l = some (.lst (xs ++ zs)) → Q .non J) : rExtend (.ref l) [.ref c] H Q :=
  ⟨l, c, xs, zs, rfl, rfl, h, k, Nat.le_of_lt (small1000 hz), q _ ⟨Kp.at, ⟨_, h⟩, ⟨_, upd_same⟩⟩ upd_same⟩
end Ob
namespace Ob
open PySem PySem.Spec PyProof.Rows L2
/-! ### repr of anything made of ints, truth values, None, texts, lists, tuples -/
def rReprH (K : PySem.W.Frag) : List V → Hp → VK → Prop := fun xs H Q => ∃ (v : V) (d : PyData), xs = [v] ∧ Dp K H v d ∧ smT d = true ∧ szT d ≤ 1000000 ∧ d.depth ≤ 50 ∧ Q (.str d.shown) H
section
variable {X : Cx} {K : PySem.W.Frag}
theorem cr_reprH (hg : X.A.guards = some []) (hu : X.A.units + 64 < cLine) : CallR X (.builtin "repr") (rReprH X.K) := by
  intro pins s σ H xs us Q I r h
  obtain ⟨v, d, rfl, hd, hs, hz, hp, q⟩ := h
  cases hd with
  | non =>
    obtain ⟨u, rfl, t⟩ := vals1 r
    cases t
    exact PySem.P.repr_of_none ⟨.str _, H, I.tok _, ⟨_, rfl⟩, by simpa [PyData.shown] using q⟩
  | bl b =>
    obtain ⟨u, rfl, t⟩ := vals1 r
    cases t
    exact PySem.P.repr_of_bool ⟨.str _, H, I.tok _, ⟨_, rfl⟩, by simpa [PyData.shown] using q⟩
  | int i =>
    have h1 : i.natAbs.log2 < 1900 := by simpa [smT] using hs
    exact SkE.call_repr_int pins s σ H _ us Q I r ⟨i, rfl, by omega, by simpa [PyData.shown] using q⟩
  | str x =>
    obtain ⟨u, rfl, t⟩ := vals1 r
    obtain ⟨tk, rfl⟩ := t
    exact PySem.P.repr_of_str ⟨.str _, H, I.tok _, ⟨_, rfl⟩, by simpa [PyData.shown] using q⟩ (by
      have : szT (.str x) = (reprText x).length := by simp [szT]
      rw [← this]
      exact Nat.le_trans hz (by decide))
  | lst a b => exact cr_reprT hg hu pins s σ H _ us Q I r (.inr (.inr ⟨_, _, rfl, .lst a b, hs, hz, hp, q⟩))
  | tup a b => exact cr_reprT hg hu pins s σ H _ us Q I r (.inr (.inr ⟨_, _, rfl, .tup a b, hs, hz, hp, q⟩))
theorem reprH (h : X.K = K) (hg : X.A.guards = some []) (hu : X.A.units + 64 < cLine) : CallR X (.builtin "repr") (rReprH K) := h ▸ cr_reprH hg hu
theorem rd_reprH {H : Hp} {Q : VK} {v : V} {d : PyData} (h : Dp K H v d) (h1 : smT d = true) (h2 : szT d ≤ 1000000) (h3 : d.depth ≤ 50) (q : Q (.str d.shown) H) : rReprH K [v] H Q := ⟨v, d, rfl, h, h1, h2, h3, q⟩
end
/-! ### any thing -/
inductive Th
  | non
  | bl (b : Bool)
  | int (i : Int)
  | str (s : Str)
  | tup (l : List Th)
  | lst (l : List Th)
mutual
/-- the thing t stands at v, none of its lists at b -/
inductive ThAt (K : PySem.W.Frag) (b : Addr) (H : Hp) : V → Th → Prop
  | non : ThAt K b H .non .non
  | bl (c : Bool) : ThAt K b H (.bl c) (.bl c)
  | int (i : Int) (h : Bd 900 i) : ThAt K b H (.int i) (.int i)
  | str (s : Str) : ThAt K b H (.str s) (.str s)
  | tup {a : Addr} {xs : List V} {ts : List Th} (h : SqT K H a xs) (t : ThsAt K b H xs ts) : ThAt K b H (.ref a) (.tup ts)
  | lst {a : Addr} {xs : List V} {ts : List Th} (n : a ≠ b) (h : H a = some (.lst xs)) (t : ThsAt K b H xs ts) : ThAt K b H (.ref a) (.lst ts)
inductive ThsAt (K : PySem.W.Frag) (b : Addr) (H : Hp) : List V → List Th → Prop
  | nil : ThsAt K b H [] []
  | cons {v : V} {vs : List V} {t : Th} {ts : List Th} (h : ThAt K b H v t) (k : ThsAt K b H vs ts) : ThsAt K b H (v :: vs) (t :: ts)
end
mutual
def thD : Th → PyData
  | .non => .none
  | .bl b => .bool b
  | .int i => .int i
  | .str s => .str s
  | .tup l => .tuple (thDs l)
  | .lst l => .list (thDs l)
def thDs : List Th → List PyData
  | [] => []
  | t :: ts => thD t :: thDs ts
end
def tyN : Th → String
  | .non => "NoneType"
  | .bl _ => "bool"
  | .int _ => "int"
  | .str _ => "str"
  | .tup _ => "tuple"
  | .lst _ => "list"
section
variable {K : PySem.W.Frag} {b : Addr} {H J : Hp}
mutual
theorem ThAt.mono (mt : ∀ a xs, SqT K H a xs → SqT K J a xs) (ml : ∀ a xs, a ≠ b → H a = some (.lst xs) → J a = some (.lst xs)) : ∀ {v : V} {t : Th}, ThAt K b H v t → ThAt K b J v t
  | _, _, .non => .non
  | _, _, .bl c => .bl c
  | _, _, .int i h => .int i h
  | _, _, .str s => .str s
  | _, _, .tup h t => .tup (mt _ _ h) (t.mono mt ml)
  | _, _, .lst n h t => .lst n (ml _ _ n h) (t.mono mt ml)
theorem ThsAt.mono (mt : ∀ a xs, SqT K H a xs → SqT K J a xs) (ml : ∀ a xs, a ≠ b → H a = some (.lst xs) → J a = some (.lst xs)) : ∀ {vs : List V} {ts : List Th}, ThsAt K b H vs ts → ThsAt K b J vs ts
  | _, _, .nil => .nil
  | _, _, .cons h k => .cons (h.mono mt ml) (k.mono mt ml)
end
theorem ThAt.same (s : Same H J) {v : V} {t : Th} (h : ThAt K b H v t) : ThAt K b J v t := h.mono (fun a xs => sqt_same s) fun a xs _ e => s _ _ e
theorem ThsAt.same (s : Same H J) {v : List V} {t : List Th} (h : ThsAt K b H v t) : ThsAt K b J v t := h.mono (fun a xs => sqt_same s) fun a xs _ e => s _ _ e
theorem ThAt.kp (k : Kp b H J) (g : Bag b H) {v : V} {t : Th} (h : ThAt K b H v t) : ThAt K b J v t := h.mono (fun a xs => sqt_bag k g) fun a xs n e => k _ _ n e
theorem ThsAt.kp (k : Kp b H J) (g : Bag b H) {v : List V} {t : List Th} (h : ThsAt K b H v t) : ThsAt K b J v t := h.mono (fun a xs => sqt_bag k g) fun a xs n e => k _ _ n e
mutual
theorem ThAt.dp : ∀ {v : V} {t : Th}, ThAt K b H v t → Dp K H v (thD t)
  | _, _, .non => by rw [thD]; exact .non
  | _, _, .bl c => by rw [thD]; exact .bl c
  | _, _, .int i h => by rw [thD]; exact .int i
  | _, _, .str s => by rw [thD]; exact .str s
  | _, _, .tup h t => by rw [thD]; exact .tup h t.dp
  | _, _, .lst n h t => by rw [thD]; exact .lst (SqL.of h) t.dp
theorem ThsAt.dp : ∀ {vs : List V} {ts : List Th}, ThsAt K b H vs ts → DpAll K H vs (thDs ts)
  | _, _, .nil => by rw [thDs]; exact .nil
  | _, _, .cons h k => by rw [thDs]; exact .cons h.dp k.dp
end
mutual
theorem ThAt.sm : ∀ {v : V} {t : Th}, ThAt K b H v t → smT (thD t) = true
  | _, _, .non => by simp [thD, smT]
  | _, _, .bl c => by simp [thD, smT]
  | _, _, .int i h => by
    have := h.log
    simp only [thD, smT, decide_eq_true_eq]
    omega
  | _, _, .str s => by simp [thD, smT]
  | _, _, .tup h t => by simpa [thD, smT] using t.sm
  | _, _, .lst n h t => by simpa [thD, smT] using t.sm
theorem ThsAt.sm : ∀ {vs : List V} {ts : List Th}, ThsAt K b H vs ts → smsT (thDs ts) = true
  | _, _, .nil => by simp [thDs, smsT]
  | _, _, .cons h k => by simp [thDs, smsT, h.sm, k.sm]
end
theorem ThAt.ty {v : V} {t : Th} (h : ThAt K b H v t) : TyX K H v (.type (tyN t)) := by
  cases h with
  | non => exact .base .non
  | bl c => exact .base (.bl c)
  | int i h => exact .base (.int i)
  | str s => exact .base (.str s)
  | tup h t => exact tyT h
  | lst n h t => exact .base (.lst h)
theorem ThsAt.len : ∀ {vs : List V} {ts : List Th}, ThsAt K b H vs ts → vs.length = ts.length
  | _, _, .nil => rfl
  | _, _, .cons _ k => by rw [List.length_cons, List.length_cons, k.len]
theorem ThsAt.get : ∀ {vs : List V} {ts : List Th}, ThsAt K b H vs ts → ∀ {i : Nat} {v : V}, vs[i]? = some v → ∃ t, ts[i]? = some t ∧ ThAt K b H v t
  | _, _, .nil, i, v, e => by simp at e
  | _, _, .cons h k, 0, v, e => by
    simp at e
    subst e
    exact ⟨_, rfl, h⟩
  | _, _, .cons h k, i + 1, v, e => by
    simp at e
    obtain ⟨t, e1, e2⟩ := k.get e
    exact ⟨t, by simpa using e1, e2⟩
theorem ThsAt.app {us : List V} {rs : List Th} (k : ThsAt K b H us rs) : ∀ {vs : List V} {ts : List Th}, ThsAt K b H vs ts → ThsAt K b H (vs ++ us) (ts ++ rs)
  | _, _, .nil => k
  | _, _, .cons h t => .cons h (ThsAt.app k t)
theorem ThsAt.take : ∀ {vs : List V} {ts : List Th}, ThsAt K b H vs ts → ∀ n, ThsAt K b H (vs.take n) (ts.take n)
  | _, _, _, 0 => .nil
  | _, _, .nil, n + 1 => .nil
  | _, _, .cons h k, n + 1 => .cons h (k.take n)
theorem ThsAt.drop : ∀ {vs : List V} {ts : List Th}, ThsAt K b H vs ts → ∀ n, ThsAt K b H (vs.drop n) (ts.drop n)
  | _, _, k, 0 => k
  | _, _, .nil, n + 1 => .nil
  | _, _, .cons h k, n + 1 => k.drop n
theorem ThsAt.rev : ∀ {vs : List V} {ts : List Th}, ThsAt K b H vs ts → ThsAt K b H vs.reverse ts.reverse
  | _, _, .nil => .nil
  | _, _, .cons h k => by
    rw [List.reverse_cons, List.reverse_cons]
    exact ThsAt.app (.cons h .nil) k.rev
end
/-! sizes -/
/-! ### ratios, spans, sets of cuts among the things -/
def asRat : Th → Option (Int × Int)
  | .tup [.int x, .int y] => if 0 < y ∧ Int.gcd x y = 1 then some (x, y) else none
  | _ => none
def isRat (t : Th) : Bool := (asRat t).isSome
section
variable {K : PySem.W.Frag} {b : Addr} {H : Hp}
theorem rat_at {v : V} {t : Th} {r : Int × Int} (h : ThAt K b H v t) (e : asRat t = some r) : ∃ p, v = .ref p ∧ t = .tup [.int r.1, .int r.2] ∧ Ra K H p r.1 r.2 := by
  unfold asRat at e
  split at e
  · split at e
    · next x y c =>
      cases e
      cases h with
      | tup hq t =>
        cases t with
        | cons h1 t =>
          cases t with
          | cons h2 t =>
            cases t
            cases h1 with
            | int i bi =>
              cases h2 with
              | int j bj => exact ⟨_, rfl, rfl, hq, c.1, c.2, bi.mono (by decide), bj.mono (by decide)⟩
    · cases e
  · cases e
end
/-! a set of cuts as a thing -/
def ratT (x y : Int) : Th := .tup [.int x, .int y]
section
variable {K : PySem.W.Frag} {b : Addr} {H : Hp}
theorem th_rat {p : Addr} {x y : Int} (h : SqT K H p [.int x, .int y]) (bx : Bd 900 x) (bu : Bd 900 y) : ThAt K b H (.ref p) (ratT x y) := .tup h (.cons (.int _ bx) (.cons (.int _ bu) .nil))
end
theorem tyN_int {t : Th} : tyN t = "int" ↔ ∃ i, t = .int i := by
  cases t <;> simp [tyN]
theorem tyN_in (t : Th) : tyN t = "NoneType" ∨ tyN t = "bool" ∨ tyN t = "int" ∨ tyN t = "str" ∨ tyN t = "list" ∨ tyN t = "tuple" := by
  cases t <;> simp [tyN]
theorem isRat_two {t u : Th} (h : ¬ (tyN t = "int" ∧ tyN u = "int")) : isRat (.tup [t, u]) = false := by
  cases t <;> cases u <;> first | rfl | (exact absurd ⟨rfl, rfl⟩ h)
theorem isRat_int (x y : Int) : isRat (.tup [.int x, .int y]) = (decide (0 < y) && decide (Int.gcd x y = 1)) := by
  unfold isRat asRat
  by_cases a : 0 < y <;> by_cases b : Int.gcd x y = 1 <;> simp [a, b]
theorem isRat_len {ts : List Th} (h : ts.length ≠ 2) : isRat (.tup ts) = false := by
  match ts, h with
  | [], _ => rfl
  | [t], _ => cases t <;> rfl
  | [t, u], h => simp at h
  | t :: u :: w :: r, _ => cases t <;> cases u <;> rfl
/-! sizes whatever the ints -/
mutual
def szC : Th → Nat
  | .non => 4
  | .bl _ => 5
  | .int _ => 902
  | .str s => (reprText s).length
  | .tup l => szsC l + 2
  | .lst l => szsC l + 2
def szsC : List Th → Nat
  | [] => 0
  | t :: ts => szC t + 2 + szsC ts
end
mutual
def dC : Th → Nat
  | .non => 0
  | .bl _ => 0
  | .int _ => 0
  | .str _ => 0
  | .tup l => dsC l + 1
  | .lst l => dsC l + 1
def dsC : List Th → Nat
  | [] => 0
  | t :: ts => max (dC t) (dsC ts)
end
section
variable {K : PySem.W.Frag} {b : Addr} {H J : Hp}
mutual
theorem ThAt.szle : ∀ {v : V} {t : Th}, ThAt K b H v t → szT (thD t) ≤ szC t
  | _, _, .non => by simp [thD, szT, szC]
  | _, _, .bl c => by simp [thD, szT, szC]
  | _, _, .int i h => by
    have := h.log
    simp only [thD, szT, szC]
    omega
  | _, _, .str s => by simp [thD, szT, szC]
  | _, _, .tup h t => by
    have := t.szle
    simp only [thD, szT, szC]
    omega
  | _, _, .lst n h t => by
    have := t.szle
    simp only [thD, szT, szC]
    omega
theorem ThsAt.szle : ∀ {vs : List V} {ts : List Th}, ThsAt K b H vs ts → szsT (thDs ts) ≤ szsC ts
  | _, _, .nil => by simp [thDs, szsT, szsC]
  | _, _, .cons h k => by
    have := h.szle
    have := k.szle
    simp only [thDs, szsT, szsC]
    omega
end
end
mutual
theorem depth_le : ∀ t : Th, (thD t).depth ≤ dC t
  | .non => by simp [thD, PyData.depth]
  | .bl _ => by simp [thD, PyData.depth]
  | .int _ => by simp [thD, PyData.depth]
  | .str _ => by simp [thD, PyData.depth]
  | .tup l => by
    have := depths_le l
    simp only [thD, PyData.depth, dC]
    omega
  | .lst l => by
    have := depths_le l
    simp only [thD, PyData.depth, dC]
    omega
theorem depths_le : ∀ l : List Th, PyData.depthAll (thDs l) ≤ dsC l
  | [] => by simp [thDs, PyData.depthAll]
  | t :: ts => by
    have := depth_le t
    have := depths_le ts
    simp only [thDs, PyData.depthAll, dsC]
    omega
end
section
variable {K : PySem.W.Frag} {H : Hp} {Q : VK}
end
theorem asRat_of {x y : Int} (h : 0 < y) (g : Int.gcd x y = 1) : asRat (ratT x y) = some (x, y) := by simp [asRat, ratT, h, g]
end Ob
namespace Ob
open PySem PySem.Spec PyProof.Rows L2
/-! ### set(a list of ints), and sorted of it -/
section
variable {P : Program} {w : World} {A : Around} {R : Result → Shared → Prop} {I S : Addr} {fp wr : List Addr} {G : Array GenState → Array GenState → Prop} {n : Nat} {Pv : Nat → Value → Prop} {St : Nat → Shared → Prop}
end
section
variable {P : Program} {w : World} {A : Around} {E : Value → Shared → Prop} {s : Shared}
end
section
variable {X : Cx}
end
section
variable {w : World} {K : PySem.W.Frag} {H : Hp} {Q : VK}
end
end Ob
namespace Ob
open PySem PySem.Spec PyProof.Rows L2
/-! ### which units tell a number -/
/-- the cuts that tell a number -/
def tellF (G : Nat) (es : List Ent) (i n : Nat) (num : Int) (u : Nat) : Bool := decide (toldN G es (u : Int) i n = num)
end Ob
/-! Methods whose promise is asked only where nothing is being shown (FnG). -/
namespace Ob
open PySem PySem.Spec PyProof.Rows L2
section
variable {X : Cx} {CX : CXT} {k : Nat} {f C : Addr} {fd : FuncData} {ps : List Str} {sp : Sp} {ds : List Value} {dvs : List V} {E : XK} {m : Str} {o e : Expr} {es : List Expr} {ta : TE} {t : TA} {apos pos : PySem.Pos} {pl : Sem Bool}
end
end Ob
/-! Ledgers: items under numbers, an object with a dict. -/
namespace Ob
open PySem PySem.Spec PyProof.Rows L2 LiI
/-! ### items -/
inductive Itm
  | en (e : Ent)
  | st (s : Stm)
def AmOk (e : Ent) : Prop := ∀ r ∈ e.am, r.1.natAbs ≤ 1000000 ∧ r.2 ≤ 1000000
def StOk (s : Stm) : Prop := s.first + s.many ≤ 10 ^ 30 ∧ 1 ≤ s.many
def ItmAt (H : Hp) (v : V) : Itm → Prop
  | .en e => EntAt H v e ∧ AmOk e
  | .st s => StmAt H v s ∧ StOk s
inductive KvsAt (H : Hp) : List (Key × V) → List (Nat × Itm) → Prop
  | nil : KvsAt H [] []
  | cons {n : Nat} {v : V} {i : Itm} {kvs : List (Key × V)} {its : List (Nat × Itm)} (h : ItmAt H v i) (t : KvsAt H kvs its) : KvsAt H ((Sum.inl (n : Int), v) :: kvs) ((n, i) :: its)
inductive ItsAt (H : Hp) : List V → List Itm → Prop
  | nil : ItsAt H [] []
  | cons {v : V} {i : Itm} {vs : List V} {is : List Itm} (h : ItmAt H v i) (t : ItsAt H vs is) : ItsAt H (v :: vs) (i :: is)
section
variable {H J : Hp} (m : ∀ p xs, H p = some (.tup xs) → J p = some (.tup xs))
include m
theorem ItmAt.mono {v : V} : ∀ {i : Itm}, ItmAt H v i → ItmAt J v i
  | .en _, ⟨h, a⟩ => ⟨h.mono m, a⟩
  | .st _, ⟨h, a⟩ => ⟨h.mono m, a⟩
theorem KvsAt.mono : ∀ {kvs : List (Key × V)} {its : List (Nat × Itm)}, KvsAt H kvs its → KvsAt J kvs its
  | _, _, .nil => .nil
  | _, _, .cons h t => .cons (h.mono m) t.mono
theorem ItsAt.mono : ∀ {vs : List V} {is : List Itm}, ItsAt H vs is → ItsAt J vs is
  | _, _, .nil => .nil
  | _, _, .cons h t => .cons (h.mono m) t.mono
end
section
variable {H J : Hp} {kvs : List (Key × V)} {its : List (Nat × Itm)}
theorem KvsAt.len : ∀ {kvs : List (Key × V)} {its : List (Nat × Itm)}, KvsAt H kvs its → kvs.length = its.length
  | _, _, .nil => rfl
  | _, _, .cons _ t => congrArg (· + 1) t.len
theorem KvsAt.get : ∀ {kvs : List (Key × V)} {its : List (Nat × Itm)}, KvsAt H kvs its → ∀ {i : Nat} {k : Key} {v : V}, kvs[i]? = some (k, v) → ∃ (n : Nat) (it : Itm), k = Sum.inl (n : Int) ∧ its[i]? = some (n, it) ∧ ItmAt H v it
  | _, _, .nil, _, _, _, e => by cases e
  | _, _, .cons h _, 0, _, _, e => by
    obtain ⟨rfl, rfl⟩ := Prod.mk.inj (Option.some.inj e)
    exact ⟨_, _, rfl, rfl, h⟩
  | _, _, .cons _ t, _ + 1, _, _, e => t.get e
theorem ItsAt.len : ∀ {vs : List V} {is : List Itm}, ItsAt H vs is → vs.length = is.length
  | _, _, .nil => rfl
  | _, _, .cons _ t => congrArg (· + 1) t.len
theorem ItsAt.app : ∀ {vs ws : List V} {is js : List Itm}, ItsAt H vs is → ItsAt H ws js → ItsAt H (vs ++ ws) (is ++ js)
  | _, _, _, _, .nil, h => h
  | _, _, _, _, .cons h t, k => .cons h (t.app k)
theorem ItsAt.perm {vs ws : List V} (h : vs.Perm ws) : ∀ {is : List Itm}, ItsAt H vs is → ∃ js, is.Perm js ∧ ItsAt H ws js := by
  induction h with
  | nil => intro is t; exact ⟨is, .refl _, t⟩
  | cons x _ ih =>
    intro is t
    cases t with
    | cons h t =>
      obtain ⟨js, p, u⟩ := ih t
      exact ⟨_, p.cons _, .cons h u⟩
  | swap x y l =>
    intro is t
    cases t with
    | cons h t => cases t with
      | cons k t => exact ⟨_, .swap _ _ _, .cons k (.cons h t)⟩
  | trans _ _ h1 h2 =>
    intro is t
    obtain ⟨js, p, u⟩ := h1 t
    obtain ⟨ks, r, w⟩ := h2 u
    exact ⟨ks, p.trans r, w⟩
theorem EntsAt.asI : ∀ {vs : List V} {es : List Ent}, EntsAt H vs es → (∀ e ∈ es, AmOk e) → ItsAt H vs (es.map Itm.en)
  | _, _, .nil, _ => .nil
  | _, _, .cons h t, a => .cons ⟨h, a _ (List.mem_cons_self ..)⟩ (t.asI fun e he => a e (List.mem_cons_of_mem _ he))
theorem StmsAt.asI : ∀ {vs : List V} {ss : List Stm}, StmsAt H vs ss → (∀ s ∈ ss, StOk s) → ItsAt H vs (ss.map Itm.st)
  | _, _, .nil, _ => .nil
  | _, _, .cons h t, a => .cons ⟨h, a _ (List.mem_cons_self ..)⟩ (t.asI fun e he => a e (List.mem_cons_of_mem _ he))
def isEn : Itm → Bool
  | .en _ => true
  | .st _ => false
/-- what stands ahead in an item -/
theorem ItmAt.tup {v : V} : ∀ {i : Itm}, ItmAt H v i → ∃ p a b c, v = .ref p ∧ H p = some (.tup [.str (if isEn i then "entry" else "statement"), a, b, c])
  | .en _, ⟨⟨p, a, rs, e, h, _⟩, _⟩ => ⟨p, _, _, _, e, h⟩
  | .st _, ⟨⟨p, e, h⟩, _⟩ => ⟨p, _, _, _, e, h⟩
/-! ### the object -/
def lgF (d : Addr) (n : Nat) : List (Str × V) := [("_items", V.ref d), ("_next_number", V.int (n : Int))]
structure LgAt (K : PySem.W.Frag) (H : Hp) (p d : Addr) (its : List (Nat × Itm)) (nx : Nat) : Prop where
  ob : ∃ C dx, PySem.W.nsIn K mainGlobals "Ledger" = some (some (.ref C)) ∧ H p = some (.ins C dx (lgF d nx))
  dc : ∃ kvs, H d = some (.dK kvs) ∧ KvsAt H kvs its
  nd : (its.map (·.1)).Nodup
  lt : ∀ x ∈ its, x.1 < nx
  len : its.length ≤ 100
/-- all but the ledger stays -/
def Lk (p d : Addr) (H J : Hp) : Prop := ∀ a o, H a = some o → a ≠ p → a ≠ d → J a = some o
theorem Lk.of {p d : Addr} (s : Same H J) : Lk p d H J := fun a o e _ _ => s a o e
theorem Lk.trans {p d : Addr} {M : Hp} (h : Lk p d H J) (k : Lk p d J M) : Lk p d H M := fun a o e n1 n2 => k a o (h a o e n1 n2) n1 n2
section
variable {K : PySem.W.Frag} {p d : Addr} {nx : Nat} {its : List (Nat × Itm)}
theorem LgAt.tup (L : LgAt K H p d its nx) (k : Lk p d H J) {a : Addr} {xs : List V} (e : H a = some (.tup xs)) : J a = some (.tup xs) := by
  obtain ⟨C, dx, _, h⟩ := L.ob
  obtain ⟨kvs, g, _⟩ := L.dc
  exact k a _ e (fun z => by subst z; cases e.symm.trans h) (fun z => by subst z; cases e.symm.trans g)
theorem LgAt.lst (L : LgAt K H p d its nx) (k : Lk p d H J) {a : Addr} {xs : List V} (e : H a = some (.lst xs)) : J a = some (.lst xs) := by
  obtain ⟨C, dx, _, h⟩ := L.ob
  obtain ⟨kvs, g, _⟩ := L.dc
  exact k a _ e (fun z => by subst z; cases e.symm.trans h) (fun z => by subst z; cases e.symm.trans g)
theorem LgAt.same (s : Same H J) (L : LgAt K H p d its nx) : LgAt K J p d its nx :=
  ⟨let ⟨C, dx, c, h⟩ := L.ob; ⟨C, dx, c, s _ _ h⟩, let ⟨kvs, h, t⟩ := L.dc; ⟨kvs, s _ _ h, t.mono fun p xs e => s _ _ e⟩, L.nd, L.lt, L.len⟩
theorem LgAt.ne (L : LgAt K H p d its nx) : p ≠ d := by
  obtain ⟨C, dx, _, h⟩ := L.ob
  obtain ⟨kvs, g, _⟩ := L.dc
  intro z
  subst z
  cases h.symm.trans g
/-- a list is written: the ledger stays -/
theorem LgAt.kl {c : Addr} {zs : List V} (k : Kp c H J) (hc : H c = some (.lst zs)) (L : LgAt K H p d its nx) : LgAt K J p d its nx := by
  obtain ⟨C, dx, cc, h⟩ := L.ob
  obtain ⟨kvs, g, t⟩ := L.dc
  refine ⟨⟨C, dx, cc, k _ _ (fun z => by subst z; cases h.symm.trans hc) h⟩, ⟨kvs, k _ _ (fun z => by subst z; cases g.symm.trans hc) g, t.mono fun p xs e => k _ _ (fun z => by subst z; cases e.symm.trans hc) e⟩, L.nd, L.lt, L.len⟩
end
end
/-! ### calls -/
section
variable {X : Cx} {k : Nat} {f C : Addr} {fd : FuncData} {ps : List Str} {sp : Sp} {m : Str} {o e : Expr} {es : List Expr} {ta : TE} {t : TA} {apos pos : PySem.Pos} {pl : Sem Bool}
end
/-! ### readings -/
section
variable {K : PySem.W.Frag} {H : Hp} {σ : L2.St} {Q : VK} {ta tb tc : TE} {t : TA} {p d C : Addr} {its : List (Nat × Itm)} {nx : Nat} {mg : Str → Option Value} {E : Ends}
end

/-! ### the dict -/
section
variable {H J : Hp}
theorem ItmAt.kd {v : V} {i : Itm} (h : ItmAt H v i) : ∃ p a b c, v = .ref p ∧ H p = some (.tup [.str (if isEn i then "entry" else "statement"), a, b, c]) := h.tup
theorem KvsAt.fresh : ∀ {kvs : List (Key × V)} {its : List (Nat × Itm)} {n : Nat}, KvsAt H kvs its → (∀ x ∈ its, x.1 ≠ n) → valV kvs (Sum.inl (n : Int) : Key) = none
  | _, _, _, .nil, _ => rfl
  | _, _, n, .cons (n := m) (v := v) (kvs := kvs) h t, e => by
    have ih := t.fresh fun x hx => e x (List.mem_cons_of_mem _ hx)
    unfold valV at ih ⊢
    rw [List.find?_cons_of_neg]
    · exact ih
    · have := e _ (List.mem_cons_self ..)
      simp
      omega
theorem KvsAt.snoc {n : Nat} {v : V} {i : Itm} (h : ItmAt H v i) : ∀ {kvs : List (Key × V)} {its : List (Nat × Itm)}, KvsAt H kvs its → KvsAt H (kvs ++ [(Sum.inl (n : Int), v)]) (its ++ [(n, i)])
  | _, _, .nil => .cons h .nil
  | _, _, .cons g t => .cons g (t.snoc h)
theorem KvsAt.val : ∀ {kvs : List (Key × V)} {its : List (Nat × Itm)} {n : Nat} {i : Itm}, KvsAt H kvs its → (its.map (·.1)).Nodup → (n, i) ∈ its → ∃ v, valV kvs (Sum.inl (n : Int) : Key) = some v ∧ ItmAt H v i
  | _, _, _, _, .nil, _, m => by cases m
  | _, _, n, i, .cons (n := k) (v := v) (kvs := kvs) h t, nd, m => by
    rw [List.map_cons, List.nodup_cons] at nd
    rcases List.mem_cons.mp m with e | m
    · obtain ⟨rfl, rfl⟩ := Prod.mk.inj e
      refine ⟨v, ?_, h⟩
      unfold valV
      rw [List.find?_cons_of_pos (by simp)]
      rfl
    · obtain ⟨u, e, g⟩ := t.val nd.2 m
      refine ⟨u, ?_, g⟩
      unfold valV at e ⊢
      rw [List.find?_cons_of_neg]
      · exact e
      · have : n ≠ k := fun z => nd.1 (z ▸ List.mem_map_of_mem (f := (·.1)) m)
        simp
        omega
theorem KvsAt.drop (n : Nat) : ∀ {kvs : List (Key × V)} {its : List (Nat × Itm)}, KvsAt H kvs its → KvsAt H (dropK kvs (Sum.inl (n : Int) : Key)) (its.filter fun x => decide (x.1 ≠ n))
  | _, _, .nil => .nil
  | _, _, .cons (n := m) (v := v) (i := i) (kvs := kvs) (its := its) h t => by
    have ih := KvsAt.drop n t
    unfold dropK at ih ⊢
    rw [List.filter_cons, List.filter_cons]
    by_cases c : m = n
    · subst c
      rw [if_neg (by simp), if_neg (by simp)]
      exact ih
    · rw [if_pos (by simp; omega), if_pos (by simp; exact c)]
      exact .cons h ih
end
/-! ### data -/
def stmD (s : Stm) : PyData := .tuple [.str "statement", .int (s.first : Int), .int (s.many : Int), .int s.num]
def itmD : Itm → PyData
  | .en e => entD e
  | .st s => stmD s
section
variable {K : PySem.W.Frag} {H : Hp} {Q : VK}
theorem ItmAt.dp {v : V} : ∀ {i : Itm}, ItmAt H v i → Dp K H v (itmD i)
  | .en e, ⟨h, _⟩ => by
    have := EntsAt.dp (K := K) (EntsAt.cons h .nil)
    cases this with
    | cons h _ => exact h
  | .st s, ⟨⟨p, e, h⟩, _⟩ => by
    subst e
    exact Dp.tup (SqT.of h) (.cons (.str _) (.cons (.int _) (.cons (.int _) (.cons (.int _) .nil))))
theorem ItsAt.dp : ∀ {vs : List V} {is : List Itm}, ItsAt H vs is → DpAll K H vs (is.map itmD)
  | _, _, .nil => .nil
  | _, _, .cons h t => .cons h.dp t.dp
theorem rd_eqStr {i j : Str} (q : Q (.bl (decide (i = j))) H) : rEq (.str i) (.str j) H Q := ⟨rfl, by
  rw [show decide (V.str i = V.str j) = decide (i = j) from decide_eq_decide.mpr ⟨fun h => by injection h, fun h => by rw [h]⟩]
  exact q⟩
/-! ### the sums do not ask for an order -/
end
end Ob
/-! Tuples put together. -/
namespace Ob
open PySem PySem.Spec PyProof.Rows L2
end Ob
/-! Defs that may raise, over FnG: a def's end, calls of one, and the own classes' first line Base.__init__(self, ..). -/
namespace Ob
open PySem PySem.Spec PyProof.Rows L2
section
variable {P : Program} {w : World} {K : PySem.W.Frag} {mg : Str → Option Value} {base : Heap} {CX : CXT}
/-- as Fun_okG, for a def that may raise -/
theorem Fun_okGX {x qual : Str} {st : Stmt} {f : Addr} {fd : FuncData} {N ps : List Str} {k : Nat} {sp : Sp} (F : Fun K x qual st f fd) (S : FnScope N ps (defScope st)) (ar : ∀ vs H Q E, sp vs H Q E → vs.length = ps.length)
    (body : ∀ (c : Value) (A : Around) (outer : List Env) (s : Shared) (H : Hp) (vs : List V) (Q : VK) (E : XK), A.guards = some [] → Room k (A.deeper (envOfC qual (defScope st) s.heap.objs.size f c)) → sp vs H Q E →
      ∃ t, PSs (cxOf CX P w K mg base N qual (defScope st) f c A outer s H E) (defBody st) t ∧ t { nx := fun _ J => Q .non J, rt := Q } (start N vs) H) : FnG P w K mg base CX (k + 1) f fd ps sp := by
  obtain ⟨oc, od, kV, doc, pm, an, c, ct, osl, rfl, look, code⟩ := F.ex
  refine ⟨ar, fun A outer s H args us vs Q E hg hr e0 bnd rv hs => ?_⟩
  have count := ar _ _ _ _ hs
  have kept : ∀ b o, base.get? b = some o → s.heap.get? b = some o := fun b o e => (e0.bs b o e).1
  have inK : K.In s.heap := e0.mod.kin.keeps kept
  refine codeAny_call_function hr.depth (inK _ _ look) rfl S.co S.gen rfl (PySem.W.codeRec_of inK code) (bnd _ _ _ _ ?_)
  refine wpAny_newFunctionEnv_cells S.kind (fun y hy => (S.par y.1 (List.of_mem_zip (show (y.1, y.2) ∈ ps.zip us from hy)).1).imp id fun q => ⟨q, PySem.W.cellsFrom_some _ _ _ (.inl q)⟩) fun env he s1 x => ?_
  subst he
  obtain ⟨t, ht, hq⟩ := body c A outer s H vs Q E hg (hr.deeper _) hs
  have I : Inv (cxOf CX P w K mg base N qual (defScope st) f c A outer s H E) [] (start N vs) H s1 := inv_start S hr.hd e0 count rv x
  refine ⟨(e0.mod.nolimit.keeps kept).keeps x.toInCall.keep, codeAny_func (wpAny_mono (ht.run [] s1 (start N vs) H _ I hq) (fun fl s' z => ?_) fun e s' z => z)⟩
  cases fl with
  | next => exact (let ⟨σ', J, I', q⟩ := z; ⟨V.non, J, I'.os, I'.bare, I'.base, I'.hok, rfl, q⟩)
  | ret u => exact (let ⟨v, σ', J, I', r', q⟩ := z; ⟨v, J, I'.os, I'.bare, I'.base, I'.hok, r', q⟩)
  | brk => exact (let ⟨_, _, _, q⟩ := z; False.elim q)
  | cont => exact (let ⟨_, _, _, q⟩ := z; False.elim q)
end
section
variable {X : Cx} {CX : CXT} {k : Nat} {f C : Addr} {fd : FuncData} {ps : List Str} {sp : Sp} {ds : List Value} {dvs : List V} {E : L2.St → XK} {m x : Str} {o e : Expr} {es : List Expr} {ta : TE} {t : TA} {apos p pos : PySem.Pos} {pl : Sem Bool}
theorem run_gS {pins : List (Addr × Obj)} {σ : L2.St} {H : Hp} {s : Shared} {Q : VK} {us : List Value} {vs : List V} (F : FnG X.prog X.w X.K X.mg X.base CX k f fd ps sp) (hg : X.A.guards = some []) (hr : Room k X.A) (hb : Binds X.K fd ps ds) (hd : Vals dvs ds) (hx : PassesAt CX X σ (E σ))
    (I : Inv X pins σ H s) (rv : Vals vs us) (hs : sp (vs ++ dvs) H Q (E σ)) : wpAny (model X.prog X.w) X.A (call (.ref f) us) (EP X pins σ Q) X.xe s := by
  have all := rv.append hd
  refine wpAny_call (codeAny_mono (F.go X.A X.stack s H ⟨us, []⟩ (us ++ ds) (vs ++ dvs) Q (E σ) hg hr I.env0 (hb s us I.kIn (all.length ▸ F.ar _ _ _ _ hs)) all hs) fun r s' z => ?_)
  match r, z with
  | .error e, z => exact hx pins H s e s' I z
  | .ok (.ret u), z => exact I.after z
/-- f(e, ..), f may raise -/
theorem pe_gS (F : FnG X.prog X.w X.K X.mg X.base CX k f fd ps sp) (hg : X.A.guards = some []) (hr : Room k X.A) (gl : Gl X x) (hm : X.mg x = some (.ref f)) (hk : PySem.W.keepIn X.K (.ref f) = true) (hb : Binds X.K fd ps ds) (hd : Vals dvs ds) (hx : ∀ σ, PassesAt CX X σ (E σ))
    (ha : PA X (e :: es) t) (hdb : (x == ("__debug__" : Str)) = false := by decide) (he : starEach (e :: es) X.env = (false, eval e X.env) :: starEach es X.env := by rfl) (hpl : (backTo pos (starEach es X.env)).any (·.1) = false := by rfl) :
    PE X (.Call (.Name x p) (e :: es) [] pos) (tCallSD sp dvs E t) :=
  ⟨fun pins s σ H Q I h => wpAny_Call_Name_kw (ld_glob I gl hm (PySem.W.callWith_K (h₀ := X.base) I.ok.mod.kin hk (thn (ha.run pos pins s σ H _ I h) fun us s1 z => let ⟨vs, J, I1, rv, q⟩ := z; ⟨I1.kIn, run_gS F hg hr hb hd (hx σ) I1 rv q⟩) he hpl) hdb)⟩
end
section
variable {X : Cx} {e : Expr} {es : List Expr} {ta : TA} {p1 p2 pos : PySem.Pos} {x : Str} {D : Addr}
/-- what the written part says of a class without an own __init__, read for it: D.__init__ is ValueError's -/
structure CInit (K : PySem.W.Frag) (D : Addr) : Prop where
  gD : PySem.W.specialIn K (.ref D) "__getattribute__" = some (some (.builtin "type.__getattribute__"))
  tD : PySem.W.typeIn K (.ref D) = some (.type "type")
  rD : PySem.W.readsIn K D (.type "type") = true
  iD : PySem.W.findCls K (.ref D) (.type "type") "__init__" = some (.val (.builtin "ValueError.__init__"))
/-- D.__init__(self, ..), D a class of the program that has ValueError's -/
theorem pe_cinit {pl : Sem Bool} (T : CInit X.K D) (hg : Gl X x) (hm : X.mg x = some (.ref D)) (ha : PA X (e :: es) ta)
    (hc : eval (.Call (.Attribute (.Name x p1) "__init__" p2) (e :: es) [] pos) X.env = (do
      let ov ← eval (.Name x p1) X.env
      standAt p2.atName
      let (f, first) ← holding [ov] (getMethod ov "__init__" pl)
      callWith pos f first (backTo pos (starEach (e :: es) X.env)) (backToKw pos (keywordEach [] X.env))) := by rfl)
    (hdb : (x == ("__debug__" : Str)) = false := by decide)
    (he : starEach (e :: es) X.env = (false, eval e X.env) :: starEach es X.env := by rfl) (hpl : (backTo pos (starEach es X.env)).any (·.1) = false := by rfl) :
    PE X (.Call (.Attribute (.Name x p1) "__init__" p2) (e :: es) [] pos) (tVeI X.K ta) := by
  refine ⟨fun pins s σ H Q I h => ?_⟩
  refine PySem.W.methodCall_KW (ld_glob I hg hm ?_ hdb) hc
  obtain ⟨m, fr⟩ := I.fr
  refine PySem.W.method_of_cls fr I.ok.mod.kin T.gD (PySem.W.cls_val fr I.ok.mod.kin T.tD T.rD T.iD (by decide +kernel) ?_)
  show wpAny _ _ (callWith pos (Value.builtin "ValueError.__init__") [] (backTo pos (starEach (e :: es) X.env)) []) _ _ _
  refine PyProof.Rows.callWith_method1 (thn (ha.run pos pins _ σ H _ (I.tok _) h) fun us s1 ⟨vs, H1, I1, r1, a, C, ws, ev, hl, T, ea, q⟩ => ?_) he hpl
  subst ev
  cases r1 with
  | @cons _ u0 _ ur ra rw' =>
    obtain rfl : u0 = Value.ref a := ra
    have hlen : ur.length ≤ sizeLine := by
      rw [← Paired.length rw', sizeLine_eq]
      omega
    exact oinit_ok T I1 ea hlen fun s' J => ⟨.non, H1, J, rfl, q⟩
end
/-! ### what a raising def is to its callers; a class of errors with its own __init__ -/
structure CalX (P : Program) (w : World) (K : PySem.W.Frag) (mg : Str → Option Value) (base : Heap) (x : Str) (k : Nat) (f : Addr) (fd : FuncData) (ps : List Str) (sp : Sp) : Prop where
  g : FnG P w K mg base (L2.CX P w) k f fd ps sp
  b : Binds K fd ps []
  kp : PySem.W.keepIn K (.ref f) = true
  m : mg x = some (.ref f)
/-- a class of errors over ValueError, by a class or more of the program, with an own __init__ -/
structure ExcC (P : Program) (w : World) (K : PySem.W.Frag) (mg : Str → Option Value) (base : Heap) (x fl : Str) (k : Nat) (C fI : Addr) (fd : FuncData) (ps : List Str) (sp : Sp) : Prop where
  T : OexC K C
  no : PySem.W.findIn K (.ref C) fl = some none
  at_ : PySem.W.nsIn K mainGlobals x = some (some (.ref C))
  iC : PySem.W.findIn K (.ref C) "__init__" = some (some (.ref fI))
  tI : PySem.W.typeIn K (.ref fI) = some (.type "function")
  g : FnOk P w K mg base CX0 k fI fd ps sp
  b : Binds K fd ps []
  gC : mg x = some (.ref C)
/-- a class of errors without own __init__, for its __init__ read from it -/
structure ExcB0 (K : PySem.W.Frag) (mg : Str → Option Value) (x : Str) (D : Addr) : Prop where
  i : CInit K D
  gC : mg x = some (.ref D)
section
variable {X : Cx} {k : Nat} {f C fI : Addr} {fd : FuncData} {ps : List Str} {sp : Sp} {m x fl : Str} {o e : Expr} {es : List Expr} {ta : TE} {t : TA} {W : WX} {p apos pos pos2 : PySem.Pos} {pl : Sem Bool}
/-- raise C(e, ..) -/
theorem ps_rz (hc : X.calm = true) (tk : Takes X W) (R : ExcC X.prog X.w X.K X.mg X.base x fl k C fI fd ps sp) (hr : Room (k + 1) X.A) (gl : Gl X x) (ha : PA X (e :: es) t)
    (hdb : (x == ("__debug__" : Str)) = false := by decide) (he : starEach (e :: es) X.env = (false, eval e X.env) :: starEach es X.env := by rfl) (hpl : (backTo pos (starEach es X.env)).any (·.1) = false := by rfl) :
    PS X (.Raise (some (.Call (.Name x p) (e :: es) [] pos)) none pos2) (fun _ σ H => tMkO C sp [] t σ H fun cls d H' => W cls d σ H') := ps_raise hc tk (pmk_oex R.T R.iC R.tI R.g hr R.b .nil pass0 gl R.gC ha hdb he hpl)
theorem pe_cx (tk : Takes X W) (C : CalX X.prog X.w X.K X.mg X.base x k f fd ps sp) (hg : X.A.guards = some []) (hr : Room k X.A) (gl : Gl X x)
    (ha : PA X (e :: es) t) (hdb : (x == ("__debug__" : Str)) = false := by decide) (he : starEach (e :: es) X.env = (false, eval e X.env) :: starEach es X.env := by rfl) (hpl : (backTo pos (starEach es X.env)).any (·.1) = false := by rfl) :
    PE X (.Call (.Name x p) (e :: es) [] pos) (tCallSD sp [] (WE W) t) := pe_gS C.g hg hr gl C.m C.kp C.b .nil (fun σ => passAt tk σ) ha hdb he hpl
end
section
variable {K : PySem.W.Frag} {σ : L2.St} {H : Hp} {f : Str}
theorem rd_veI {ta : TA} {Q : VK} (h : ta σ H fun vs H1 => ∃ (a C : Addr) (ws : List V), vs = .ref a :: ws ∧ ws.length ≤ 1000 ∧ OexC K C ∧ H1 a = some (exo a C none) ∧ Q .non H1) : tVeI K ta σ H Q := h
theorem rd_js {t : TE} {ts : List TE} {acc : Str} {Q : Str → Hp → Prop} (h : t σ H fun x H1 => ∃ y : Str, x = .str y ∧ (acc ++ y).length ≤ sizeLine ∧ tJs ts (acc ++ y) σ H1 Q) : tJs (t :: ts) acc σ H Q := h
theorem rd_js0 {acc : Str} {Q : Str → Hp → Prop} (h : Q acc H) : tJs [] acc σ H Q := h
theorem rd_fmtI {te : TE} {Q : VK} (h : te σ H fun x H1 => ∃ i : Int, x = .int i ∧ i.natAbs.log2 < 1920 ∧ Q (.str (toString i)) H1) (imp : ∀ (x : V) (J : Hp), (∃ i : Int, x = .int i ∧ i.natAbs.log2 < 1920 ∧ Q (.str (toString i)) J) → True := by intros; trivial)
    (mono : ∀ {R S : VK}, (∀ x J, R x J → S x J) → te σ H R → te σ H S) : tFmt te σ H Q := mono (fun x J h => .inr h) h
theorem rd_ost0 {to te : TE} {D : Ends} (h : te σ H fun y H1 => to σ H1 fun x H2 => ∃ a C : Addr, x = .ref a ∧ OexC K C ∧ PySem.W.findIn K (.ref C) f = some none ∧ H2 a = some (exo a C none) ∧ ∀ dx, H2 dx = none → dx ≠ a → D.nx σ (upd (upd H2 dx (exd dx [(f, y)])) a (exo a C (some dx))))
    (mt : ∀ {R S : VK} {J : Hp}, (∀ x J, R x J → S x J) → to σ J R → to σ J S) (me : ∀ {R S : VK}, (∀ x J, R x J → S x J) → te σ H R → te σ H S) : tOst K f to te D σ H :=
  me (fun y J h => mt (fun x J2 ⟨a, C, e, T, n, ea, q⟩ => ⟨a, C, e, T, n, .inl ⟨ea, q⟩⟩) h) h
theorem var_mono {i : Nat} {R S : VK} {J : Hp} (h : ∀ x J, R x J → S x J) (z : tVar i σ J R) : tVar i σ J S := let ⟨v, e, q⟩ := z; ⟨v, e, h _ _ q⟩
end
/-- readings: the calls are these by definition -/
theorem rd_callX {sp : Sp} {W : WX} {t : TA} {σ : L2.St} {H : Hp} {Q : VK} (h : t σ H fun vs H1 => sp (vs ++ []) H1 Q fun cls d H' => W cls d σ H') : tCallSD sp [] (WE W) t σ H Q := h
/-! ### x not in a tuple of data -/
def rNiT (K : PySem.W.Frag) : R2 := fun x y H Q => ∃ d ds, Dp K H x d ∧ Dp K H y (.tuple ds) ∧ SeqAt.shaped d = true ∧ SeqAt.shaped (.tuple ds) = true ∧ Q (.bl (!ds.any fun z => PyData.eqv z d)) H
theorem op_niT {X : Cx} (hu : X.A.units + 65 < cLine) : OpR X (compareOp .NotIn) (rNiT X.K) := by
  intro pins s σ H x y v u Q I rx ry h
  obtain ⟨d, ds, hd, he, sd, se, q⟩ := h
  obtain ⟨as, r1⟩ := Dp.reads I d x v hd rx
  obtain ⟨bs, r2⟩ := Dp.reads I (.tuple ds) y u he ry
  exact SeqAt.notIn_tuple_reads r2 r1 (SeqAt.canLay_of_shaped se) (SeqAt.canLay_of_shaped sd) (room_in_shaped sd hu) ⟨.bl _, H, I, rfl, q⟩
theorem niTK {X : Cx} {K : PySem.W.Frag} {k : Nat} (h : X.K = K) (hr : Room k X.A) : OpR X (compareOp .NotIn) (rNiT K) := h ▸ op_niT (by have := hr.un; omega)
theorem rd_niT {K : PySem.W.Frag} {x y : V} {H : Hp} {Q : VK} {d : PyData} {ds : List PyData} (hd : Dp K H x d) (he : Dp K H y (.tuple ds)) (sd : SeqAt.shaped d = true) (se : SeqAt.shaped (.tuple ds) = true) (q : Q (.bl (!ds.any fun z => PyData.eqv z d)) H) : rNiT K x y H Q := ⟨d, ds, hd, he, sd, se, q⟩
/-! ### the heap behind C(e) -/
theorem exo_end {H : Hp} {a d C : Addr} {fs : List (Str × V)} (ha : H a = none) (hd : upd H a (exo a C none) d = none) (n : d ≠ a) :
    (upd (upd (upd H a (exo a C none)) d (exd d fs)) a (exo a C (some d))) a = some (exo a C (some d)) ∧ (upd (upd (upd H a (exo a C none)) d (exd d fs)) a (exo a C (some d))) d = some (exd d fs) ∧ H d = none ∧
      Same H (upd (del (upd (upd (upd H a (exo a C none)) d (exd d fs)) a (exo a C (some d))) a) d (.xd fs)) ∧ (upd (del (upd (upd (upd H a (exo a C none)) d (exd d fs)) a (exo a C (some d))) a) d (.xd fs)) d = some (.xd fs) := by
  have hd' : H d = none := by rwa [upd_ne n] at hd
  refine ⟨upd_same, by rw [upd_ne n, upd_same], hd', fun b o e => ?_, upd_same⟩
  have nb : b ≠ a := fun z => by subst z; cases ha.symm.trans e
  have nd : b ≠ d := fun z => by subst z; cases hd'.symm.trans e
  rw [upd_ne nd, del_ne nb, upd_ne nb, upd_ne nd, upd_ne nb]
  exact e
/-- C(e): what the making of it asks and leaves -/
theorem rd_mkO {C : Addr} {sp : Sp} {ta : TA} {σ : L2.St} {H : Hp} {Q : XK} (h : ta σ H fun vs H1 => vs.length ≤ 1000 ∧ ∀ a, H1 a = none → sp (.ref a :: (vs ++ [])) (upd H1 a (exo a C none))
    (fun v H2 => v = .non ∧ ∃ (d : Addr) (fs : List (Str × V)), H2 a = some (exo a C (some d)) ∧ H2 d = some (exd d fs) ∧ H1 d = none ∧ Q (.ref C) (some d) (upd (del H2 a) d (.xd fs))) (fun _ _ _ => False)) : tMkO C sp [] ta σ H Q := h
/-! ### an own error in a suite: isinstance of it; len of an instance; a classmethod that raises; cls() -/
/-- what the written part says of an own class of errors -/
structure ExcI (K : PySem.W.Frag) (C : Addr) : Prop where
  k0 : (PySem.W.clsIn K C).isSome = true
  k4 : PySem.W.findIn K (.ref C) "__getattribute__" = some (some (.builtin "BaseException.__getattribute__"))
  k5 : PySem.W.findIn K (.ref C) "__getattr__" = some none
  k6 : PySem.W.subIn K (.ref C) (.type "BaseException") = some true
  k7 : PySem.W.findIn K (.ref C) "__class__" = some (some (.builtin "object.__class__"))
  k8 : PySem.W.specialIn K (.builtin "object.__class__") "__get__" = some (some (.builtin "getset_descriptor.__get__"))
  k9 : PySem.W.takesIn K (.builtin "object.__class__") = some true
  k10 : PySem.W.mroIn K C (.type "object") = some true
  hd : PySem.W.hasDictIn K C = true
theorem ExcI.xf {K : PySem.W.Frag} {C : Addr} (T : ExcI K C) : XfC K C := ⟨T.k4, T.k5, T.k6, T.hd⟩
def DictX (d : Option Addr) (H : Hp) : Prop := d = none ∨ ∃ dd fs, d = some dd ∧ H dd = some (.xd fs)
/-- isinstance(e, c) and isinstance(e, (c1, c2, ..)) of the caught error -/
def rIsX (K : PySem.W.Frag) (a : Addr) (cls : Value) (d : Option Addr) : List V → Hp → VK → Prop := fun xs H Q => ∃ (C : Addr) (b : Bool), cls = .ref C ∧ ExcI K C ∧ DictX d H ∧
  ((∃ c u, xs = [.ref a, c] ∧ ClsV c u ∧ PySem.W.kitOne K (.ref C) u = some b) ∨ (∃ (tp : Addr) (cs : List V) (us : List Value), xs = [.ref a, .ref tp] ∧ H tp = some (.tup cs) ∧ Paired ClsV cs us ∧ PySem.W.kitAny K (.ref C) us = some b)) ∧ Q (.bl b) H
theorem call_isX {X : Cx} {a : Addr} {oe : Obj} {cls : Value} {d : Option Addr} {pn : List (Addr × Obj)} (hz : Zc cls d oe) (hf : ∃ vs, oe.data = .fields vs) : CallR (X.suite a ((a, oe) :: pn)) (.builtin "isinstance") (rIsX X.K a cls d) := by
  intro pins s σ H xs us Q I r h
  obtain ⟨C, b, rfl, T, hd, hx, q⟩ := h
  obtain ⟨ha, _⟩ := I.pin (a, oe) (List.mem_append_left _ List.mem_cons_self)
  obtain ⟨fvs, hdt⟩ := hf
  have hn : PySem.W.notCls oe = true := by unfold PySem.W.notCls; rw [hdt]
  obtain ⟨od, J⟩ : ∃ od, PySem.W.InstAt s.heap a oe C od := by
    rcases hd with rfl | ⟨dd, fs, rfl, hdd⟩
    · exact ⟨none, ha, hz.1, hn, by rw [hz.2]; trivial⟩
    · have ho : ObjOk X.prog X.w H s.heap dd (.xd fs) := I.hok dd _ hdd
      obtain ⟨mA, hns, hr⟩ := ho
      obtain ⟨od, ho, hl⟩ := lookIn_ns hns
      exact ⟨some od, ha, hz.1, hn, by rw [hz.2]; exact ho⟩
  have Z : PySem.W.KitX X.K (.ref a) (.ref C) (fun h => PySem.W.InstAt h a oe C od) := PySem.W.kitx_exc T.k0 T.k4 T.k5 T.k6 T.k7 T.k8 T.k9 T.k10
  rcases hx with ⟨c, u, rfl, k, e⟩ | ⟨tp, cs, ws, rfl, hT, k, e⟩
  · obtain ⟨u1, u2, rfl, r1, r2⟩ := vals2 r
    cases (show u1 = Value.ref a from r1)
    have e2 := k.eq r2
    subst e2
    exact PySem.W.kia_one Z I.kIn J e (fun z => nomatch z) fun tk => ⟨.bl b, H, I.tok tk, rfl, q⟩
  · obtain ⟨u1, u2, rfl, r1, r2⟩ := vals2 r
    cases (show u1 = Value.ref a from r1)
    cases (show u2 = Value.ref tp from r2)
    obtain ⟨_, its, rv, o, h1, h2, n, h3⟩ := (show ObjOk X.prog X.w H s.heap tp (.tup cs) from I.hok tp _ hT)
    have e3 := ClsV.all k rv
    subst e3
    obtain ⟨oc, od', dt, sl⟩ := o
    simp only at h2 h3
    subst h2 h3
    exact PySem.W.kia_tup Z I.kIn J h1 e (fun z => nomatch z) fun tk => ⟨.bl b, H, I.tok tk, rfl, q⟩
section
variable {X : Cx} {k : Nat} {f C : Addr} {fd : FuncData} {ps : List Str} {sp : Sp} {m x : Str} {o e : Expr} {es : List Expr} {ta : TE} {t : TA} {W : WX} {p1 apos pos : PySem.Pos} {pl : Sem Bool}
end
end Ob
set_option maxHeartbeats 2000000
/-! Own classes of errors with an own __init__ over other built-in bases than ValueError. -/
namespace Ob
open PySem PySem.Spec PyProof.Rows L2
section
variable {X : Cx} {pins : List (Addr × Obj)} {σ : L2.St} {H : Hp} {s : Shared} {a C : Addr} {f : Str} {y : V} {u : Value} {B nid iid : String} {bm : List Value}
end
/-! ### readings and rules -/
section
variable {X : Cx} {o e : Expr} {es : List Expr} {to te : TE} {ta : TA} {f : Str} {p p' p1 p2 pos pos2 : PySem.Pos} {B nid iid : String} {bm : List Value} {x : Str}
end
section
variable {X : Cx} {k : Nat} {C fI : Addr} {fd : FuncData} {ps : List Str} {sp : Sp} {x fl : Str} {e : Expr} {es : List Expr} {t : TA} {W : WX} {p pos pos2 : PySem.Pos} {B nid iid : String} {bm : List Value}
end
section
variable {K : PySem.W.Frag} {σ : L2.St} {H : Hp} {f : Str} {nid : String} {bm : List Value}
end
end Ob
/-! The best cut: where the sets of cuts begin, and the weights of wishes. -/
namespace Ob
open PySem PySem.Spec PyProof.Rows L2
/-- nothing is let out -/
theorem takes_no {X : Cx} : Takes X (fun _ _ _ _ => False) := fun u s' ⟨a, B, sI, pins, σ, H, cls, d, e, I, nb, up, sky, na, os, ag, w⟩ => w.elim
theorem SnsOf.to {g : Nat} : ∀ {ps : List (Nat × Nat)} {ss : List Sn}, SnsOf g ps ss → ∀ r ∈ ps, ∃ s ∈ ss, IsLow (r.1 : Int) (g : Int) s.x s.y
  | _, _, .nil, r, h => by cases h
  | _, _, .cons a b t, r, h => by
    rcases List.mem_cons.mp h with rfl | h
    · exact ⟨_, List.mem_cons_self, a⟩
    · obtain ⟨s, hs, k⟩ := t.to r h
      exact ⟨s, List.mem_cons_of_mem _ hs, k⟩
theorem SnsOf.fro {g : Nat} : ∀ {ps : List (Nat × Nat)} {ss : List Sn}, SnsOf g ps ss → ∀ s ∈ ss, ∃ r ∈ ps, IsLow (r.1 : Int) (g : Int) s.x s.y
  | _, _, .nil, r, h => by cases h
  | _, _, .cons a b t, r, h => by
    rcases List.mem_cons.mp h with rfl | h
    · exact ⟨_, List.mem_cons_self, a⟩
    · obtain ⟨s, hs, k⟩ := t.fro r h
      exact ⟨s, List.mem_cons_of_mem _ hs, k⟩
theorem Asc.lt2 : ∀ {ps : List (Nat × Nat)} {i : Nat}, Asc i ps → ∀ r ∈ ps, r.1 < r.2
  | _, _, .nil, r, h => by cases h
  | _, _, .cons a b t, r, h => by
    rcases List.mem_cons.mp h with rfl | h
    · exact b
    · exact t.lt2 r h
theorem Frm.low {G : Nat} {f : Nat → Bool} {ss : List Sn} (h : Frm G f ss) {v : Nat} (hv : v < G) (fv : f v = true) : ∃ s ∈ ss, ∃ a : Nat, IsLow (a : Int) (G : Int) s.x s.y ∧ a ≤ v ∧ ∀ w, a ≤ w → w ≤ v → f w = true := by
  obtain ⟨r, hr, h1, h2⟩ := (in_rruns f G v).mpr ⟨hv, fv⟩
  obtain ⟨s, hs, lo⟩ := h.2.to r hr
  exact ⟨s, hs, r.1, lo, h1, fun w a b => ((in_rruns f G w).mp ⟨r, hr, a, by omega⟩).2⟩
theorem Frm.start {G : Nat} {f : Nat → Bool} {ss : List Sn} (h : Frm G f ss) {s : Sn} (hs : s ∈ ss) : ∃ a : Nat, a < G ∧ f a = true ∧ IsLow (a : Int) (G : Int) s.x s.y := by
  obtain ⟨r, hr, lo⟩ := h.2.fro s hs
  have lt := (asc_rev (rruns_ok f G)).lt2 r hr
  obtain ⟨a, b⟩ := (in_rruns f G r.1).mp ⟨r, hr, Nat.le_refl _, lt⟩
  exact ⟨r.1, a, b, lo⟩
/-! ### wishes -/
structure Wsh where
  d : Nat
  n : Nat
  num : Int
  wt : Nat
def wF (G : Nat) (es : List Ent) (w : Wsh) (u : Nat) : Bool := tellF G es w.d w.n w.num u
/-! ### in the heap -/
def UAt (K : PySem.W.Frag) (J : Hp) (G : Nat) (v : V) (u : Nat) : Prop := ∃ c x y, v = .ref c ∧ SqT K J c [.int x, .int y] ∧ IsLow (u : Int) (G : Int) x y ∧ u < G
inductive UsAt (K : PySem.W.Frag) (J : Hp) (G : Nat) : List V → List Nat → Prop
  | nil : UsAt K J G [] []
  | cons {r : V} {rs : List V} {u : Nat} {us : List Nat} (h : UAt K J G r u) (t : UsAt K J G rs us) : UsAt K J G (r :: rs) (u :: us)
def TgAt (K : PySem.W.Frag) (D : Addr) (J : Hp) (G : Nat) (es : List Ent) (r : V) (w : Wsh) : Prop := ∃ t L rs ss, r = .ref t ∧ J t = some (.tup [.ref L, .int (w.wt : Int)]) ∧ L ≠ D ∧ J L = some (.lst rs) ∧ SnsAt K J rs ss ∧ Frm G (wF G es w) ss ∧ rs.length ≤ 2
inductive TgsAt (K : PySem.W.Frag) (D : Addr) (J : Hp) (G : Nat) (es : List Ent) : List V → List Wsh → Prop
  | nil : TgsAt K D J G es [] []
  | cons {r : V} {rs : List V} {w : Wsh} {ws : List Wsh} (h : TgAt K D J G es r w) (t : TgsAt K D J G es rs ws) : TgsAt K D J G es (r :: rs) (w :: ws)
def WhAt (J : Hp) (r : V) (w : Wsh) : Prop := ∃ t p, r = .ref t ∧ J t = some (.tup [.ref p, .int w.num, .int (w.wt : Int)]) ∧ J p = some (.tup [.int (w.d : Int), .int (w.n : Int)])
inductive WhsAt (J : Hp) : List V → List Wsh → Prop
  | nil : WhsAt J [] []
  | cons {r : V} {rs : List V} {w : Wsh} {ws : List Wsh} (h : WhAt J r w) (t : WhsAt J rs ws) : WhsAt J (r :: rs) (w :: ws)
def NumAt (J : Hp) (r : V) (x : Nat × Itm) : Prop := ∃ t v, r = .ref t ∧ J t = some (.tup [.int (x.1 : Int), v]) ∧ ItmAt J v x.2
inductive NumsAt (J : Hp) : List V → List (Nat × Itm) → Prop
  | nil : NumsAt J [] []
  | cons {r : V} {rs : List V} {x : Nat × Itm} {xs : List (Nat × Itm)} (h : NumAt J r x) (t : NumsAt J rs xs) : NumsAt J (r :: rs) (x :: xs)
section
variable {K : PySem.W.Frag} {D S : Addr} {J M : Hp} {G : Nat} {es : List Ent}
theorem UsAt.len : ∀ {rs : List V} {us : List Nat}, UsAt K J G rs us → rs.length = us.length
  | _, _, .nil => rfl
  | _, _, .cons _ t => congrArg (· + 1) t.len
theorem UsAt.get : ∀ {rs : List V} {us : List Nat}, UsAt K J G rs us → ∀ {i : Nat} {r : V}, rs[i]? = some r → ∃ u, us[i]? = some u ∧ UAt K J G r u
  | _, _, .nil, _, _, e => by cases e
  | _, _, .cons h _, 0, _, e => by
    obtain rfl := Option.some.inj e
    exact ⟨_, rfl, h⟩
  | _, _, .cons _ t, _ + 1, _, e => t.get e
theorem UsAt.app : ∀ {rs : List V} {us : List Nat} {zs : List V} {vs : List Nat}, UsAt K J G rs us → UsAt K J G zs vs → UsAt K J G (rs ++ zs) (us ++ vs)
  | _, _, _, _, .nil, k => k
  | _, _, _, _, .cons h t, k => .cons h (t.app k)
theorem UAt.mono (m : ∀ p xs, SqT K J p xs → SqT K M p xs) {r : V} {u : Nat} (h : UAt K J G r u) : UAt K M G r u :=
  let ⟨c, x, y, e, a, b⟩ := h; ⟨c, x, y, e, m _ _ a, b⟩
theorem UsAt.mono (m : ∀ p xs, SqT K J p xs → SqT K M p xs) : ∀ {rs : List V} {us : List Nat}, UsAt K J G rs us → UsAt K M G rs us
  | _, _, .nil => .nil
  | _, _, .cons h t => .cons (h.mono m) (t.mono m)
theorem UAt.lt {r : V} {u : Nat} (h : UAt K J G r u) : u < G := by
  obtain ⟨_, _, _, _, _, _, l⟩ := h
  exact l
theorem TgsAt.len : ∀ {rs : List V} {us : List Wsh}, TgsAt K D J G es rs us → rs.length = us.length
  | _, _, .nil => rfl
  | _, _, .cons _ t => congrArg (· + 1) t.len
theorem TgsAt.get : ∀ {rs : List V} {us : List Wsh}, TgsAt K D J G es rs us → ∀ {i : Nat} {r : V}, rs[i]? = some r → ∃ u, us[i]? = some u ∧ TgAt K D J G es r u
  | _, _, .nil, _, _, e => by cases e
  | _, _, .cons h _, 0, _, e => by
    obtain rfl := Option.some.inj e
    exact ⟨_, rfl, h⟩
  | _, _, .cons _ t, _ + 1, _, e => t.get e
theorem TgsAt.app : ∀ {rs : List V} {us : List Wsh} {zs : List V} {vs : List Wsh}, TgsAt K D J G es rs us → TgsAt K D J G es zs vs → TgsAt K D J G es (rs ++ zs) (us ++ vs)
  | _, _, _, _, .nil, k => k
  | _, _, _, _, .cons h t, k => .cons h (t.app k)
theorem TgAt.same (s : Same J M) {r : V} {w : Wsh} (h : TgAt K D J G es r w) : TgAt K D M G es r w :=
  let ⟨t, L, rs, ss, e, a, n, b, c, d⟩ := h; ⟨t, L, rs, ss, e, s _ _ a, n, s _ _ b, c.mono fun p xs h => sqt_same s h, d⟩
theorem TgAt.pu (s : Pu D J M) {r : V} {w : Wsh} (h : TgAt K D J G es r w) : TgAt K D M G es r w :=
  let ⟨t, L, rs, ss, e, a, n, b, c, d⟩ := h; ⟨t, L, rs, ss, e, s.tup a, n, s.1 _ _ n b, c.mono fun p xs h => sqt_pu s h, d⟩
theorem TgsAt.imp {T : Addr} (m : ∀ r w, TgAt K D J G es r w → TgAt K T M G es r w) : ∀ {rs : List V} {us : List Wsh}, TgsAt K D J G es rs us → TgsAt K T M G es rs us
  | _, _, .nil => .nil
  | _, _, .cons h t => .cons (m _ _ h) (t.imp m)
theorem WhsAt.len : ∀ {rs : List V} {us : List Wsh}, WhsAt J rs us → rs.length = us.length
  | _, _, .nil => rfl
  | _, _, .cons _ t => congrArg (· + 1) t.len
theorem WhsAt.get : ∀ {rs : List V} {us : List Wsh}, WhsAt J rs us → ∀ {i : Nat} {r : V}, rs[i]? = some r → ∃ u, us[i]? = some u ∧ WhAt J r u
  | _, _, .nil, _, _, e => by cases e
  | _, _, .cons h _, 0, _, e => by
    obtain rfl := Option.some.inj e
    exact ⟨_, rfl, h⟩
  | _, _, .cons _ t, _ + 1, _, e => t.get e
theorem WhsAt.app : ∀ {rs : List V} {us : List Wsh} {zs : List V} {vs : List Wsh}, WhsAt J rs us → WhsAt J zs vs → WhsAt J (rs ++ zs) (us ++ vs)
  | _, _, _, _, .nil, k => k
  | _, _, _, _, .cons h t, k => .cons h (t.app k)
theorem WhAt.mono (m : ∀ p xs, J p = some (.tup xs) → M p = some (.tup xs)) {r : V} {w : Wsh} (h : WhAt J r w) : WhAt M r w :=
  let ⟨t, p, e, a, b⟩ := h; ⟨t, p, e, m _ _ a, m _ _ b⟩
theorem WhsAt.mono (m : ∀ p xs, J p = some (.tup xs) → M p = some (.tup xs)) : ∀ {rs : List V} {us : List Wsh}, WhsAt J rs us → WhsAt M rs us
  | _, _, .nil => .nil
  | _, _, .cons h t => .cons (h.mono m) (t.mono m)
theorem NumsAt.len : ∀ {rs : List V} {us : List (Nat × Itm)}, NumsAt J rs us → rs.length = us.length
  | _, _, .nil => rfl
  | _, _, .cons _ t => congrArg (· + 1) t.len
theorem NumsAt.get : ∀ {rs : List V} {us : List (Nat × Itm)}, NumsAt J rs us → ∀ {i : Nat} {r : V}, rs[i]? = some r → ∃ u, us[i]? = some u ∧ NumAt J r u
  | _, _, .nil, _, _, e => by cases e
  | _, _, .cons h _, 0, _, e => by
    obtain rfl := Option.some.inj e
    exact ⟨_, rfl, h⟩
  | _, _, .cons _ t, _ + 1, _, e => t.get e
theorem NumsAt.app : ∀ {rs : List V} {us : List (Nat × Itm)} {zs : List V} {vs : List (Nat × Itm)}, NumsAt J rs us → NumsAt J zs vs → NumsAt J (rs ++ zs) (us ++ vs)
  | _, _, _, _, .nil, k => k
  | _, _, _, _, .cons h t, k => .cons h (t.app k)
theorem NumAt.mono (m : ∀ p xs, J p = some (.tup xs) → M p = some (.tup xs)) {r : V} {w : Nat × Itm} (h : NumAt J r w) : NumAt M r w :=
  let ⟨t, p, e, a, b⟩ := h; ⟨t, p, e, m _ _ a, b.mono m⟩
theorem NumsAt.mono (m : ∀ p xs, J p = some (.tup xs) → M p = some (.tup xs)) : ∀ {rs : List V} {us : List (Nat × Itm)}, NumsAt J rs us → NumsAt M rs us
  | _, _, .nil => .nil
  | _, _, .cons h t => .cons (h.mono m) (t.mono m)
/-! ### a comprehension over a list with a test that may call -/
end
end Ob
/-! lcm, enumerate, two fors in a comprehension. -/
namespace Ob
open PySem PySem.Spec PyProof.Rows L2
/-! ### enumerate -/
section
variable {K : PySem.W.Frag} {σ : L2.St} {H : Hp} {g : TG}
theorem piE {X : Cx} (h : X.K = K) {e : Expr} {ta : TA} {p pos tpos : PySem.Pos} {elts : List Expr} {kk : Nat} (hg : Gl X "enumerate") (hm : X.mg "enumerate" = none) (ha : PA X [e] ta) (hs : starEach [e] X.env = [(false, eval e X.env)] := by rfl) :
    PI X (.Tuple elts kk tpos) (.Call (.Name "enumerate" p) [e] [] pos) (iEnum K ta) := h ▸ pi_enum hg hm ha hs
theorem rd_forE {ta : TA} {tb : TS} {E : Ends} (q : ta σ H fun vs H1 => ∃ a xs, vs = [.ref a] ∧ SqL K H1 a xs ∧ Lp (Ite K a) g tb E σ H1) : tFor (iEnum K ta) g tb E σ H := q
/-- for i, x in enumerate(xs): a new pair each turn -/
theorem lp_enum {a : Addr} {xs : List V} {tb : TS} {D : Ends} (Pv : Nat → L2.St → Hp → Prop) (h0 : Pv 0 σ H) (hl : ∀ i σ H, i ≤ xs.length → Pv i σ H → SqL K H a xs)
    (hs : ∀ i x σ H T J, xs[i]? = some x → Pv i σ H → H T = none → Same H J → J T = some (.tup [.int (i : Nat), x]) → g (.ref T) σ J fun σ2 H2 => tb { D with nx := Pv (i + 1), ct := Pv (i + 1), bk := D.nx } σ2 H2) (hd : ∀ σ H, Pv xs.length σ H → D.nx σ H) :
    Lp (Ite K a) g tb D σ H := by
  refine ⟨fun i m σ H => m = xs.length - i ∧ i ≤ xs.length ∧ Pv i σ H, ⟨xs.length, by simp, Nat.zero_le _, h0⟩, ?_⟩
  rintro i m σ H ⟨rfl, hi, p⟩
  have q := hl i σ H hi p
  by_cases hlt : i < xs.length
  · refine .inr ⟨⟨xs, xs[i], q, by simp [hlt]⟩, Pv (i + 1), fun σ' H' p' => ⟨xs.length - (i + 1), by omega, rfl, hlt, p'⟩, fun x H' y => ?_⟩
    obtain ⟨T, w, rfl, nT, rfl, y⟩ := y
    exact hs i w σ H T _ (y xs q) p nT (same_new nT) upd_same
  · have e : i = xs.length := by omega
    subst e
    exact .inl ⟨⟨xs, q, Nat.le_refl _⟩, hd σ H p⟩
/-! ### two fors -/
end
end Ob
/-! Arcs of a ring of W steps, and the fewest of them that cover it. -/
namespace Ob
open PySem PySem.Spec PyProof.Rows L2
abbrev Row := Int × Int
def hol (W : Int) (r : Row) (q : Int) : Prop := (q - r.1) % W < r.2
/-! ### the furthest -/
/-! ### a cover, begun at a place -/
/-! ### none takes fewer -/
/-! ### the fewest -/
end Ob
/-! The arcs that a set of cuts is made of, in units. -/
namespace Ob
open PySem PySem.Spec PyProof.Rows L2
/-! ### no cover is long -/
/-! ### arcs -/
/-! ### the gaps of an arc -/
/-! ### the same in steps of the unders -/
end Ob
/-! set of a tuple of ints; index of a list of ints. -/
namespace Ob
open PySem PySem.Spec PyProof.Rows L2
section
variable {P : Program} {w : World} {A : Around} {E : Value → Shared → Prop} {s : Shared}
end
section
variable {X : Cx}
end
section
variable {w : World} {K : PySem.W.Frag} {H : Hp} {Q : VK}
end
end Ob
set_option maxHeartbeats 2000000
namespace Ob
open PySem PySem.Spec PyProof.Rows L2 LamX NdefX
/-! ### a lambda of one captured name or more, handed over: what is known of it -/
structure LF where
  qual : Str
  params : Arguments
  body : Expr
  scope : Scope
  cl : List (Str × Addr)
  c : Addr
/-- its environment is that of a nested def -/
abbrev LF.nf (F : LF) : NF := ⟨"<lambda>", F.qual, F.params, [], F.scope, F.cl, F.c⟩
section
variable {P : Program} {w : World} {K : PySem.W.Frag} {mg : Str → Option Value} {base : Heap} {A : Around} {outer : List Env} {s : Shared} {H J : Hp} {h h' : Heap} {a b f : Addr} {o : Obj} {F : LF}
end
/-! ### what a lambda promises -/
section
variable {CX : CXT} {P : Program} {w : World} {K : PySem.W.Frag} {mg : Str → Option Value} {base : Heap} {N ps fr : List Str} {F : LF} {f : Addr} {k : Nat} {sp : List (Option V) → Sp}
end
/-! ### the lambda called, its one captured cell standing in the heap -/
section
variable {X : Cx} {pins : List (Addr × Obj)} {σ : L2.St} {H : Hp} {s : Shared} {k i : Nat} {y a : Str} {ps : List Str} {R : LF → Prop} {sp : LF → List (Option V) → Sp} {ta : TA} {e : Expr} {es : List Expr} {p pos : PySem.Pos} {E : XK}
end
/-! ### the lambda made -/
/-- all that was tracked stands as it was, but the tables of code objects -/
theorem ExtN.at {H J : Hp} {a : Addr} {u : HO} (x : ExtN H J) (e : H a = some u) (n : ∀ ps, u ≠ .tbl ps := by (intro ps z; cases z)) : J a = some u := x a u e n
section
variable {X : Cx} {pins : List (Addr × Obj)} {σ : L2.St} {H : Hp} {s : Shared}
end
/-! ### a def called that gets such a lambda: the cell of the captured name stands in its heap -/
section
variable {X : Cx} {k j : Nat} {f : Addr} {fd : FuncData} {ps : List Str} {sp : Sp} {x y : Str} {e : Expr} {es : List Expr} {t : TA} {p pos : PySem.Pos}
end
end Ob
set_option maxHeartbeats 2000000
/-! A lambda without parameters, of any captured names, handed to a def that calls it while its maker's frame stands; it may raise. -/
namespace Ob
open PySem PySem.Spec PyProof.Rows L2 LamX
section
variable {X : Cx} {pins : List (Addr × Obj)} {σ : L2.St} {H : Hp} {s : Shared} {k : Nat}
end
/-! ### a name that holds one of several defs, called -/
theorem FnG.imp {P : Program} {w : World} {K : PySem.W.Frag} {mg : Str → Option Value} {base : Heap} {CX : CXT} {k : Nat} {f : Addr} {fd : FuncData} {ps : List Str} {sp sp' : Sp} (F : FnG P w K mg base CX k f fd ps sp) (h : ∀ vs H Q E, sp' vs H Q E → sp vs H Q E) : FnG P w K mg base CX k f fd ps sp' :=
  ⟨fun vs H Q E z => F.ar vs H Q E (h _ _ _ _ z), fun A outer s H args us vs Q E hg hr e0 hb rv z => F.go A outer s H args us vs Q E hg hr e0 hb rv (h _ _ _ _ z)⟩
def FnV (P : Program) (w : World) (K : PySem.W.Frag) (mg : Str → Option Value) (base : Heap) (n : Nat) (f : Addr) (sp : Sp) : Prop := ∃ (k : Nat) (fd : FuncData) (ps : List Str), k ≤ n ∧ FnG P w K mg base (L2.CX P w) k f fd ps sp ∧ Binds K fd ps [] ∧ PySem.W.keepIn K (.ref f) = true
section
variable {X : Cx} {n i : Nat} {R : Addr → Prop} {sp : Sp} {W : WX} {a : Str} {e : Expr} {es : List Expr} {t : TA} {p pos : PySem.Pos}
end
end Ob
set_option maxHeartbeats 2000000
/-! Defs and lambdas that raise, with what is known of the raised exception's context (it is None): ObD's and ObLg's road over L2N. -/
namespace Ob
open PySem PySem.Spec PyProof.Rows L2 LamX
section
variable {X : Cx} {k : Nat} {f C fI : Addr} {fd : FuncData} {ps : List Str} {sp : Sp} {m x fl : Str} {o e : Expr} {es : List Expr} {ta : TE} {t : TA} {W : WX} {p apos pos pos2 : PySem.Pos} {pl : Sem Bool}
end
section
variable {X : Cx} {pins : List (Addr × Obj)} {σ : L2.St} {H : Hp} {s : Shared} {k : Nat}
end
section
variable {X : Cx} {n i : Nat} {R : Addr → Prop} {sp : Sp} {W : WX} {a : Str} {e : Expr} {es : List Expr} {t : TA} {p pos : PySem.Pos}
end
end Ob
set_option maxHeartbeats 2000000
/-! A comprehension over a list, and sum of a list, within an except suite (the handled exception's context is None). -/
namespace Ob
open PySem PySem.Spec PyProof.Rows L2 HotX
section
variable {prog : Program} {w : World} {A : Around} {E : Value → Shared → Prop} {s : Shared}
end
section
variable {X : Cx}
end
end Ob
set_option maxHeartbeats 1000000
/-! Own classes of errors over ValueError, with an own __init__, raised over L2N (the context is known to be None). -/
namespace Ob
open PySem PySem.Spec PyProof.Rows L2
section
variable {X : Cx} {k : Nat} {C fI : Addr} {fd : FuncData} {ps : List Str} {sp : Sp} {x fl : Str} {e : Expr} {es : List Expr} {t : TA} {W : WX} {p pos pos2 : PySem.Pos}
end
section
variable {X : Cx} {k : Nat} {C fI : Addr} {fd : FuncData} {ps : List Str} {sp : Sp} {x fl : Str} {e : Expr} {es : List Expr} {t : TA} {W : WX} {p pos pos2 : PySem.Pos}
end
/-! a def that does not raise, held by a local name -/
def FnV0 (P : Program) (w : World) (K : PySem.W.Frag) (mg : Str → Option Value) (base : Heap) (n : Nat) (f : Addr) (sp : Sp) : Prop := ∃ (k : Nat) (fd : FuncData) (ps : List Str), k ≤ n ∧ FnG P w K mg base CX0 k f fd ps sp ∧ Binds K fd ps [] ∧ PySem.W.keepIn K (.ref f) = true
def tCallV0 (i : Nat) (R : Addr → Bool → Prop) (sp : Bool → Sp) (t : TA) : TE := fun σ H Q => ∃ f b, σ[i]? = some (some (.ref f)) ∧ R f b ∧ t σ H fun vs J => sp b (vs ++ []) J Q E0
section
variable {X : Cx} {n i : Nat} {R : Addr → Bool → Prop} {sp : Bool → Sp} {a : Str} {e : Expr} {es : List Expr} {t : TA} {p pos : PySem.Pos}
theorem pe_callV0 (F : ∀ f b, R f b → FnV0 X.prog X.w X.K X.mg X.base n f (sp b)) (hg : X.A.guards = some []) (hr : Room n X.A) (hN : X.N[i]? = some a) (hv : Vis X.env.scope a) (ha : PA X (e :: es) t)
    (hd : (a == ("__debug__" : Str)) = false := by decide) (hcd : (a == ("__classdict__" : Str)) = false := by decide) (he : starEach (e :: es) X.env = (false, eval e X.env) :: starEach es X.env := by rfl) (hpl : (backTo pos (starEach es X.env)).any (·.1) = false := by rfl) :
    PE X (.Call (.Name a p) (e :: es) [] pos) (tCallV0 i R sp t) := by
  refine ⟨fun pins s σ H Q I h => ?_⟩
  obtain ⟨f, c, h0, hR, ht⟩ := h
  obtain ⟨k, fd, ps, kn, G, b, kp⟩ := F f c hR
  refine wpAny_Call_Name_kw (thn ((pe_var (pos := p) hN hv hd hcd).run pins s σ H (fun v J => v = .ref f ∧ J = H) I ⟨.ref f, h0, rfl, rfl⟩) fun u s1 ⟨v, J, I1, r1, q1⟩ => ?_)
  obtain ⟨rfl, rfl⟩ := q1
  obtain rfl : u = Value.ref f := r1
  exact PySem.W.callWith_K (h₀ := X.base) I1.ok.mod.kin kp (thn (ha.run pos pins s1 σ J _ I1 ht) fun us s2 ⟨vs, J2, I2, rv, q⟩ => ⟨I2.kIn, run_gS (E := fun _ => E0) G hg (hr.mono kn) b .nil (fun pins H s e s' I z => pass0 pins σ H s e s' I z) I2 rv q⟩) he hpl
theorem rd_callV0 {i : Nat} {R : Addr → Bool → Prop} {sp : Bool → Sp} {t : TA} {σ : L2.St} {H : Hp} {Q : VK} {f : Addr} {b : Bool} (h0 : σ[i]? = some (some (.ref f))) (hR : R f b) (h : t σ H fun vs J => sp b (vs ++ []) J Q E0) : tCallV0 i R sp t σ H Q := ⟨f, b, h0, hR, h⟩
end
end Ob
set_option maxHeartbeats 1000000
/-! Texts: words, numbers written, signs one by one; a, *b = xs. -/
namespace Ob
open PySem PySem.Spec PyProof.Rows L2
section
variable {prog : Program} {w : World} {A : Around} {E : Value → Shared → Prop} {s : Shared}
theorem unpack_star {l : Addr} {items : Array Value} {n i : Nat} {Q : List Value → Shared → Prop} (hh : A.handled = none) (hl : s.heap.IsList l items) (hin : i < n) (hn : n ≤ items.size + 1) (small : items.size ≤ 16384)
    (hQ : ∀ (h' : Heap) (tk : Nat), (∀ b o, s.heap.get? b = some o → h'.get? b = some o) →
      Q (items.toList.take i ++ [.ref h'.objs.size] ++ (items.toList.drop i).drop (items.size + 1 - n)) { s with heap := h'.push { cls := .type "list", data := .seq ((items.toList.drop i).take (items.size + 1 - n)).toArray }, toks := tk }) :
    wpAny (model prog w) A (unpackItems (.ref l) n (some i)) Q E s := by
  have hl0 := hl
  obtain ⟨ol, hol, hcl, hnl, hdl⟩ := hl
  unfold unpackItems
  refine wpAny_bind ?_
  unfold notIterableAtAll
  refine wpAny_bind (wpAny_specialOf (T := "list") ⟨ol, hol, hcl⟩ slot_list_iter.lookup ?_)
  refine wpAny_pure ?_
  simp only [Bool.false_eq_true, if_false]
  refine wpAny_bind (wpAny_holding (wpAny_pyIter_list hl0 ?_))
  have lt : l < s.heap.objs.size := Heap.lt_size hol
  have ne : l ≠ s.heap.objs.size := Nat.ne_of_lt lt
  generalize hI : s.heap.objs.size = I
  rw [hI] at ne
  have st0 : (s.heap.push { cls := .type "list_iterator", data := .fields #[.ref l, .int 0 0] }).IsListIter I l 0 := by
    rw [← hI]
    exact ⟨_, Heap.get?_push_size _ rfl, rfl, rfl⟩
  have hl1 : (s.heap.push { cls := .type "list_iterator", data := .fields #[.ref l, .int 0 0] }).IsList l items := ⟨ol, Heap.get?_push_of_some _ hol, hcl, hnl, hdl⟩
  refine wpAny_bind (wpAny_holding (W.kun_draw (items := items) ne i 0 _ _ st0 hl1 (by omega) fun h1 it1 sb => ?_))
  rw [Nat.zero_add] at it1
  rw [List.drop_zero]
  have len1 : (items.toList.take i).length = i := by rw [List.length_take, Array.length_toList]; omega
  rw [if_neg (by rw [len1]; omega)]
  have hl2 : h1.IsList l items := ⟨ol, (sb.2 l ne).trans (Heap.get?_push_of_some _ hol), hcl, hnl, hdl⟩
  refine wpAny_bind (wpAny_holding (W.kun_collect (T := "list_iterator") (k := i) (items := items) (.inr (.inr (.inl rfl))) (Walks.list (by exact hh) I l ne items) (fun j u z => z.1.typeIs) (by omega) ⟨it1, hl2⟩ (Heap.lt_size it1.choose_spec.1) (Heap.lt_size hl2.choose_spec.1) (fun h2 tk2 k2 => ?_) (by have := sizeLine_eq; omega)))
  have len2 : (items.toList.drop i).length = items.size - i := by rw [List.length_drop, Array.length_toList]
  rw [if_neg (by rw [len2]; omega)]
  refine wpAny_bind (wpAny_newList ?_ (by rw [List.length_take]; have := sizeLine_eq; omega))
  refine wpAny_pure ?_
  rw [len2, show items.size - i - (n - 1 - i) = items.size + 1 - n by omega]
  have kk : ∀ b o, s.heap.get? b = some o → h2.get? b = some o := fun b o e => by
    have nb : b ≠ I := Nat.ne_of_lt (hI ▸ Heap.lt_size e)
    exact k2 b o nb ((sb.2 b nb).trans (Heap.get?_push_of_some _ e))
  exact hQ h2 tk2 kk
end
def gUnS (K : PySem.W.Frag) (n i : Nat) (t : TGs) : TG := fun v σ H Q => ∃ a xs, v = .ref a ∧ SqL K H a xs ∧ n ≤ xs.length + 1 ∧ xs.length ≤ 16384 ∧
  ∀ D, H D = none → t (xs.take i ++ [.ref D] ++ (xs.drop i).drop (xs.length + 1 - n)) σ (upd H D (.lst ((xs.drop i).take (xs.length + 1 - n)))) Q
theorem paired_take {xs : List V} {us : List Value} (h : Vals xs us) : ∀ n, Vals (xs.take n) (us.take n) ∧ Vals (xs.drop n) (us.drop n) := by
  induction h with
  | nil => intro n; rw [List.take_nil, List.take_nil, List.drop_nil, List.drop_nil]; exact ⟨.nil, .nil⟩
  | cons a h ih =>
    intro n
    cases n with
    | zero => exact ⟨.nil, .cons a h⟩
    | succ n => exact ⟨.cons a (ih n).1, (ih n).2⟩
theorem pgs_star {X : Cx} {e : Expr} {es : List Expr} {t : TG} {u : TGs} {p : PySem.Pos} (h : PG X e t) (hs : PGs X es u) (he : List.map (fun x => x.2) (assignEach (e :: es) X.env) = assign e X.env :: List.map (fun x => x.2) (assignEach es X.env) := by rfl) : PGs X (.Starred e p :: es) (gCons t u) := by
  refine ⟨fun pins s σ H vs us Q I r q => ?_⟩
  have := (pgs_cons h hs he).run pins s σ H vs us Q I r q
  rw [he] at this
  rw [arm_assignEach_Starred]
  exact this
/-- a, b, *c = xs (xs a list) -/
theorem pg_unlS {X : Cx} {pos : PySem.Pos} {es : List Expr} {k : Nat} {t : TGs} {n i : Nat} (hc : X.calm = true) (h : PGs X es t) (hn : (assignEach es X.env).length = n := by rfl) (hi : List.findIdx? (fun x => x.1) (assignEach es X.env) = some i := by rfl) (lt : i < n := by decide) :
    PG X (.Tuple es k pos) (gUnS X.K n i t) := by
  refine ⟨fun pins s σ H v u Q I r q => ?_⟩
  obtain ⟨a, xs, rfl, hs, hx, small, q⟩ := q
  cases r
  obtain ⟨its, rv, p0, _⟩ := I.list hs
  have len : its.length = xs.length := rv.length.symm
  rw [PyProof.Rows.assign_Tuple]
  refine wpAny_bind (wpAny_standAt ?_)
  show wpAny _ _ (holding _ (unpackItems _ _ _) >>= _) _ _ _
  rw [hi, hn]
  refine wpAny_bind (wpAny_holding (unpack_star (items := its.toArray) (I.ok.hd hc) p0.isList lt (by simpa [len] using hx) (by simpa [len] using small) fun h' tk kk => ?_))
  have e1 : its.toArray.size + 1 - n = xs.length + 1 - n := by simp [len]
  rw [e1]
  have I1 : Inv X pins σ (upd H h'.objs.size (.lst ((xs.drop i).take (xs.length + 1 - n)))) { s with heap := h'.push { cls := .type "list", data := .seq ((its.toArray.toList.drop i).take (xs.length + 1 - n)).toArray }, toks := tk } :=
    (I.kept (t' := tk) kk).laid (t' := tk) (fun b o e => Heap.get?_push_of_some _ e) (Nat.le_refl _) ⟨by have := sizeLine_eq; rw [List.length_take, List.length_drop]; omega, _, 0, (paired_take (paired_take rv i).2 _).1, Heap.get?_push_size _ rfl⟩
  have rD : Vals [V.ref h'.objs.size] [Value.ref h'.objs.size] := .cons rfl .nil
  exact h.run pins _ σ _ _ _ Q I1 (((paired_take rv i).1.append rD).append (paired_take (paired_take rv i).2 _).2) (q _ ((I.kept (t' := tk) kk).hok.fresh (Nat.le_refl _)))
/-! ### numbers written -/
/-- the number from 0 on that a word writes: at most a hundred signs, no zero ahead of others -/
def natR (w : Str) : Option Nat := if (1 ≤ w.length ∧ w.length ≤ 100) ∧ (TL.tl w).all (fun c => decide (48 ≤ c ∧ c ≤ 57)) = true ∧ ¬ ((TL.tl w).head? = some 48 ∧ 1 < w.length) then some (NumText.digitsVal (TL.tl w)) else none
def tailS (w : Str) : Str := cutS w (some 1) none
def minus (w : Str) : Bool := decide ((TL.tl w).head? = some 45)
def intR (w : Str) : Option Int := if minus w = true then (match natR (tailS w) with | some n => if n = 0 then none else some (-(n : Int)) | none => none) else (natR w).map Int.ofNat
theorem natR_no {w : Str} (h : ¬ ((1 ≤ w.length ∧ w.length ≤ 100) ∧ (TL.tl w).all (fun c => decide (48 ≤ c ∧ c ≤ 57)) = true ∧ ¬ ((TL.tl w).head? = some 48 ∧ 1 < w.length))) : natR w = none := by
  unfold natR
  rw [if_neg h]
theorem dig_mem (c : Nat) : c ∈ TL.tl ("0123456789" : Str) ↔ 48 ≤ c ∧ c ≤ 57 := by
  have e : TL.tl ("0123456789" : Str) = [48, 49, 50, 51, 52, 53, 54, 55, 56, 57] := by decide +kernel
  rw [e]
  simp only [List.mem_cons, List.not_mem_nil, or_false]
  omega
theorem all_dig {l : List Nat} : (l.map fun c => decide (c ∈ TL.tl ("0123456789" : Str))).all id = l.all fun c => decide (48 ≤ c ∧ c ≤ 57) := by
  rw [List.all_map]
  congr 1
  funext c
  exact decide_eq_decide.mpr (dig_mem c)
theorem natR_yes {w : Str} (h : (1 ≤ w.length ∧ w.length ≤ 100) ∧ (TL.tl w).all (fun c => decide (48 ≤ c ∧ c ≤ 57)) = true ∧ ¬ ((TL.tl w).head? = some 48 ∧ 1 < w.length)) : natR w = some (NumText.digitsVal (TL.tl w)) := by
  unfold natR
  rw [if_pos h]
theorem numL_head : ∀ n : Nat, 0 < n → (TL.numL n).head? ≠ some 48 := by
  intro n
  induction n using Nat.strongRecOn with
  | ind n ih =>
    intro p
    rcases Nat.lt_or_ge n 10 with h | h
    · rw [TL.numL_lt h]
      simp
      try omega
    · rw [TL.numL_step h]
      have hd : 0 < n / 10 := Nat.div_pos h (by decide)
      have := ih (n / 10) (Nat.div_lt_self p (by decide)) hd
      cases e : TL.numL (n / 10) with
      | nil => exact absurd e (TL.numL_ne _)
      | cons a l =>
        rw [e] at this
        simpa using this
theorem all_digits {l : List Nat} (h : NumText.AllDigits l) : l.all (fun c => decide (48 ≤ c ∧ c ≤ 57)) = true := List.all_eq_true.mpr fun c hc => decide_eq_true (h c hc)
theorem natR_of {w : Str} {n : Nat} (h : TL.tl w = TL.numL n) (hn : n < 10 ^ 100) : natR w = some n := by
  have l1 : w.length = (TL.numL n).length := by rw [TL.len_tl, h]
  have l2 : (TL.numL n).length ≤ 100 := TL.numL_len (by decide) hn
  have l3 : 0 < (TL.numL n).length := List.length_pos_iff.mpr (TL.numL_ne n)
  have hh : ¬ ((TL.tl w).head? = some 48 ∧ 1 < w.length) := by
    rintro ⟨h1, h2⟩
    rw [h] at h1
    rcases Nat.eq_zero_or_pos n with rfl | p
    · have : (TL.numL 0).length = 1 := by rw [TL.numL_lt (by decide)]; rfl
      omega
    · exact numL_head n p h1
  unfold natR
  rw [if_pos ⟨⟨by omega, by omega⟩, by rw [h]; exact all_digits (TL.numL_digits n), hh⟩, h, TL.numL_val]
/-- a number as text -/
abbrev txI (i : Int) : Str := Str.ofString (toString i)
theorem txI_nat (n : Nat) : TL.tl (txI (n : Int)) = TL.numL n := TL.tl_num n
theorem natR_nat {n : Nat} (h : n < 10 ^ 100) : natR (txI (n : Int)) = some n := natR_of (txI_nat n) h
theorem txI_neg {n : Nat} (h : 0 < n) : TL.tl (txI (-(n : Int))) = 45 :: TL.numL n := by
  cases n with
  | zero => omega
  | succ m =>
    have e : toString (-((m + 1 : Nat) : Int)) = "-" ++ toString ((m + 1 : Nat) : Int) := rfl
    show TL.tl (Str.ofString (toString (-((m + 1 : Nat) : Int)))) = _
    rw [e, TL.tl_ofString, String.toList_append, List.map_append, ← TL.tl_ofString (toString ((m + 1 : Nat) : Int)), TL.tl_num]
    rfl
theorem tl_tail (w : Str) : TL.tl (tailS w) = (TL.tl w).drop 1 := by
  unfold tailS cutS
  rw [TL.tl_mk]
  have l := TL.len_tl w
  show List.take (w.length - min (1 : Int).toNat w.length) (List.drop (min (1 : Int).toNat w.length) (TL.tl w)) = _
  rw [show (1 : Int).toNat = 1 from rfl]
  rcases Nat.eq_zero_or_pos w.length with e | p
  · have : TL.tl w = [] := List.length_eq_zero_iff.mp (by omega)
    rw [this]
    simp
  · rw [show min 1 w.length = 1 by omega]
    exact List.take_of_length_le (by rw [List.length_drop]; omega)
theorem intR_of {i : Int} (h : i.natAbs < 10 ^ 100) : intR (txI i) = some i := by
  rcases Int.lt_or_le i 0 with c | c
  · obtain ⟨n, rfl⟩ : ∃ n : Nat, i = -(n : Int) := ⟨i.natAbs, by omega⟩
    have p : 0 < n := by omega
    unfold intR minus
    rw [if_pos (by rw [txI_neg p]; rfl), natR_of (n := n) (by rw [tl_tail, txI_neg p]; rfl) (by omega)]
    dsimp only
    rw [if_neg (by omega)]
  · obtain ⟨n, rfl⟩ : ∃ n : Nat, i = (n : Int) := ⟨i.natAbs, by omega⟩
    have e : minus (txI (n : Int)) = false := by
      unfold minus
      rw [txI_nat]
      refine decide_eq_false fun z => ?_
      exact TL.numL_free (n := n) (s := 45) (.inl (by decide)) (List.mem_of_mem_head? z)
    unfold intR
    rw [if_neg (by rw [e]; decide), natR_nat (by omega)]
    rfl
theorem minus_eq (w : Str) : Txt.startswith w "-" = minus w := by
  have h := TL.at_iff (x := w) (y := "-") (by decide) 0
  have e : Txt.startswith w "-" = true ↔ StrLaws.At w "-" w.length 0 := by
    unfold Txt.startswith StrLaws.At
    rw [Bool.and_eq_true, decide_eq_true_iff]
  have m : minus w = true ↔ (TL.tl w).head? = some 45 := decide_eq_true_iff
  have f : TL.pre (TL.tl ("-" : Str)) (List.drop 0 (TL.tl w)) = true ↔ (TL.tl w).head? = some 45 := by
    rw [List.drop_zero]
    show ((TL.tl w).take 1 == [45]) = true ↔ _
    cases TL.tl w with
    | nil => simp
    | cons a l => simp
  exact Bool.eq_iff_iff.mpr (e.trans (h.trans (f.trans m.symm)))
theorem int_text {w : Str} {n : Nat} (h : natR w = some n) : PySem.intText? w = some (n : Int) := by
  unfold natR at h
  split at h
  · rename_i c
    obtain rfl := Option.some.inj h
    have hd : NumText.AllDigits (TL.tl w) := fun x hx => by simpa using List.all_eq_true.mp c.2.1 x hx
    have l := TL.len_tl w
    exact intText_digits hd (fun z => by rw [show TL.tl w = [] from z, List.length_nil] at l; omega) (by omega)
  · cases h
theorem natR_len {w : Str} {n : Nat} (h : natR w = some n) : 1 ≤ w.length ∧ w.length ≤ 100 := by
  unfold natR at h
  split at h
  · rename_i c
    exact c.1
  · cases h
/-- no blank within -/
theorem txI_free {i : Int} {s : Nat} (h : s < 48 ∨ 57 < s) (h2 : s ≠ 45) : ¬ s ∈ TL.tl (txI i) := by
  rcases Int.lt_or_le i 0 with c | c
  · obtain ⟨n, rfl⟩ : ∃ n : Nat, i = -(n : Int) := ⟨i.natAbs, by omega⟩
    rw [txI_neg (by omega), List.mem_cons]
    rintro (e | e)
    · exact h2 e
    · exact TL.numL_free h e
  · obtain ⟨n, rfl⟩ : ∃ n : Nat, i = (n : Int) := ⟨i.natAbs, by omega⟩
    rw [txI_nat]
    exact TL.numL_free h
theorem txI_len {i : Int} (h : i.natAbs < 10 ^ 100) : (txI i).length ≤ 101 := by
  rw [TL.len_tl]
  rcases Int.lt_or_le i 0 with c | c
  · obtain ⟨n, rfl⟩ : ∃ n : Nat, i = -(n : Int) := ⟨i.natAbs, by omega⟩
    rw [txI_neg (by omega), List.length_cons]
    have := TL.numL_len (n := n) (k := 100) (by decide) (by omega)
    omega
  · obtain ⟨n, rfl⟩ : ∃ n : Nat, i = (n : Int) := ⟨i.natAbs, by omega⟩
    rw [txI_nat]
    have := TL.numL_len (n := n) (k := 100) (by decide) (by omega)
    omega
/-! ### ratios written -/
theorem empty_app (a : Str) : Str.empty ++ a = a := by
  have h : TL.tl (Str.empty ++ a) = TL.tl a := by rw [TL.tl_append]; rfl
  rw [← TL.mk_tl (Str.empty ++ a), h, TL.mk_tl]
def amW (x y : Int) : Str := if y = 1 then txI x else txI x ++ "/" ++ txI y
def amQ (w : Str) : Option (Int × Nat) := match intR (Txt.partition w "/").1, (if (Txt.partition w "/").2.1.length = 0 then some 1 else natR (Txt.partition w "/").2.2) with
  | some x, some y => if (Txt.partition w "/").2.1.length ≠ 0 ∧ y = 1 then none else some (x, y)
  | _, _ => none
theorem amQ_of {x : Int} {y : Nat} (hx : x.natAbs < 10 ^ 100) (hy : y < 10 ^ 100) : amQ (amW x (y : Int)) = some (x, y) := by
  have n47 : ¬ 47 ∈ TL.tl (txI x) := txI_free (.inl (by decide)) (by decide)
  by_cases c : y = 1
  · subst c
    have e : Txt.partition (txI x) "/" = (txI x, Str.empty, Str.empty) := TL.partition_none (y := "/") (s := 47) (S := []) (by decide) n47
    unfold amQ amW
    rw [if_pos (by decide), e]
    dsimp only
    rw [if_pos (by decide), intR_of hx]
    dsimp only
    rw [if_neg (by rintro ⟨z, _⟩; exact z (by decide))]
  · have e : Txt.partition (txI x ++ "/" ++ txI (y : Int)) "/" = (txI x, ("/" : Str), txI (y : Int)) := TL.partition_app (y := "/") (s := 47) (S := []) (by decide) n47
    unfold amQ amW
    rw [if_neg (by omega), e]
    dsimp only
    rw [if_neg (by decide), intR_of hx, natR_nat hy]
    dsimp only
    rw [if_neg (by rintro ⟨_, z⟩; exact c z)]
theorem amW_free {x : Int} {y : Int} : ¬ 32 ∈ TL.tl (amW x y) := by
  unfold amW
  split
  · exact txI_free (.inl (by decide)) (by decide)
  · rw [TL.tl_append, TL.tl_append, List.mem_append, List.mem_append]
    rintro ((h | h) | h)
    · exact txI_free (.inl (by decide)) (by decide) h
    · revert h; decide
    · exact txI_free (.inl (by decide)) (by decide) h
theorem amW_len {x y : Int} (hx : x.natAbs < 10 ^ 100) (hy : y.natAbs < 10 ^ 100) : (amW x y).length ≤ 203 := by
  unfold amW
  have h1 := txI_len hx
  have h2 := txI_len hy
  have h3 : ("/" : Str).length = 1 := by decide
  split
  · omega
  · rw [Str.length_append, Str.length_append]
    omega
/-! ### words joined -/
theorem joinL_len (S : List Nat) : ∀ ls : List (List Nat), (TL.joinL S ls).length ≤ (ls.map List.length).sum + ls.length * S.length
  | [] => Nat.zero_le _
  | [x] => by show x.length ≤ _; simp
  | x :: y :: r => by
    have ih := joinL_len S (y :: r)
    show (x ++ (S ++ TL.joinL S (y :: r))).length ≤ _
    rw [List.length_append, List.length_append]
    simp only [List.map_cons, List.sum_cons, List.length_cons, Nat.add_mul, Nat.one_mul] at ih ⊢
    omega
theorem join_len (y : Str) (ws : List Str) : (Txt.join y ws).length ≤ (ws.map (·.length)).sum + ws.length * y.length := by
  rw [TL.join_eq, TL.len_tl, TL.tl_join]
  have := joinL_len (TL.tl y) (ws.map TL.tl)
  rw [List.map_map, List.length_map] at this
  rw [show (fun x : Str => x.length) = (List.length ∘ TL.tl) from funext fun x => TL.len_tl x, TL.len_tl y]
  exact this
theorem sum_lens {c : Nat} : ∀ {ws : List Str}, (∀ w ∈ ws, w.length ≤ c) → (ws.map (·.length)).sum ≤ ws.length * c
  | [], _ => Nat.zero_le _
  | x :: r, h => by
    have ih := sum_lens (ws := r) fun w hw => h w (List.mem_cons_of_mem _ hw)
    have := h x (List.mem_cons_self ..)
    simp only [List.map_cons, List.sum_cons, List.length_cons, Nat.add_mul, Nat.one_mul]
    omega
theorem split_words {ws : List Str} (hn : ws ≠ []) (h : ∀ w ∈ ws, ¬ 32 ∈ TL.tl w) : Txt.split (Txt.join " " ws) " " = ws := TL.split_join (y := " ") (s := 32) (S := []) (by decide +kernel) (by decide +kernel) hn h
def wAt (ws : List Str) (n : Nat) : Str := (ws[n]?).getD ("" : Str)
/-! ### readings -/
section
variable {K : PySem.W.Frag} {H : Hp} {σ : L2.St} {te to : TE} {Q : VK}
theorem rd_iStr {R : It → Hp → Prop} (q : te σ H fun x H1 => ∃ y, x = .str y ∧ R (Its y) H1) : iStr te σ H R := q
theorem lc_mapS {D : Addr} {x : Str} (f : Nat → V) {i0 : Nat} {Qd : Hp → Prop} (hl : x.length ≤ 1000) (hD : H D = none)
    (he : ∀ c, c ∈ TL.tl x → ∀ (l : List V) (R : VK), R (f c) (upd H D (.lst l)) → te ((σ.set i0 none).set i0 (some (.str ⟨#[c]⟩))) (upd H D (.lst l)) R) (hd : Qd (upd H D (.lst ((TL.tl x).map f)))) : Lc (Its x) (gName i0) tYes te [i0] σ Qd H D := by
  refine ⟨fun i m J => i ≤ x.cps.size ∧ m = x.cps.size - i ∧ J = upd H D (.lst (((TL.tl x).take i).map f)), ⟨_, Nat.zero_le _, rfl, by rw [List.take_zero]; rfl⟩, ?_⟩
  rintro i m J ⟨le, rfl, rfl⟩
  have lz : x.cps.size ≤ 1000 := hl
  by_cases lt : i < x.cps.size
  · have hx : x.cps[i]? = some x.cps[i] := Array.getElem?_eq_getElem lt
    refine .inr ⟨lt, fun J' => J' = upd H D (.lst (((TL.tl x).take (i + 1)).map f)), fun J' w => ⟨x.cps.size - (i + 1), by omega, lt, rfl, w⟩, fun v J' y => ?_⟩
    obtain ⟨rfl, c, hc, rfl⟩ := y
    have hc' : (TL.tl x)[i]? = some c := by rw [← Array.getElem?_toList] at hc; exact hc
    refine ⟨?_, ?_⟩
    · show ((σ.set i0 none).set i0 _).set i0 none = σ.set i0 none
      rw [List.set_set, List.set_set]
    · show te _ _ _
      refine he c (List.mem_of_getElem? hc') _ _ ⟨_, upd_same, ?_, ?_⟩
      · rw [List.length_map, List.length_take]
        exact small1000 (by omega)
      · rw [upd_upd]
        have e : ((TL.tl x).take (i + 1)).map f = ((TL.tl x).take i).map f ++ [f c] := by rw [List.take_add_one, hc', List.map_append]; rfl
        rw [e]
  · have ei : i = (TL.tl x).length := by
      rw [← TL.len_tl]
      show i = x.cps.size
      omega
    refine .inl ⟨by show x.cps.size ≤ i; omega, ?_⟩
    rw [ei, List.take_length]
    exact hd
theorem rd_m1 {r : V → List V → Hp → VK → Prop} (q : to σ H fun x H1 => (∃ a, x = .str a) ∧ te σ H1 fun y H2 => r x [y] H2 Q) : tM1 r to te σ H Q := q
theorem rd_join {a : Str} {p : Addr} {ys : List Str} (h : SqL K H p (ys.map V.str)) (n : (ys.map (·.length)).sum + ys.length * a.length ≤ 16777216) (q : Q (.str (Txt.join a ys)) H) :
    ∃ a' p', ∃ zs : List Str, V.str a = .str a' ∧ [V.ref p] = [.ref p'] ∧ (SqL K H p' (zs.map V.str) ∨ SqT K H p' (zs.map V.str)) ∧ (zs.map (·.length)).sum + zs.length * a'.length ≤ 16777216 ∧ Q (.str (Txt.join a' zs)) H := ⟨a, p, ys, rfl, rfl, .inl h, n, q⟩
theorem log_ok {i : Int} (h : i.natAbs < 10 ^ 100) : i.natAbs.log2 < 1920 := by
  by_cases c : i.natAbs = 0
  · rw [c]; decide
  · exact (Nat.log2_lt c).mpr (Nat.lt_trans h (by decide))
theorem wAt_in {ws : List Str} {n : Nat} (h : n < ws.length) : (ws.map V.str)[n]? = some (.str (wAt ws n)) := by
  rw [List.getElem?_map, List.getElem?_eq_getElem h]
  simp [wAt, List.getElem?_eq_getElem h]
theorem wAt_out {ws : List Str} {n : Nat} (h : ws.length ≤ n) : wAt ws n = "" := by
  rw [wAt, List.getElem?_eq_none h]
  rfl
theorem rd_intS {a : Str} {n : Nat} (h : natR a = some n) (q : Q (.int (n : Int)) H) : ∃ a' m, [V.str a] = [.str a'] ∧ PySem.intText? a' = some m ∧ a'.length ≤ 640 ∧ Q (.int m) H := ⟨a, _, rfl, int_text h, by have := natR_len h; omega, q⟩
def vO : Option Nat → V
  | none => .non
  | some n => .int (n : Int)
def vI : Option Int → V
  | none => .non
  | some n => .int n
end
theorem fold_lt : ∀ (l : List Nat) (a : Nat), NumText.AllDigits l → l.foldl (fun acc c => acc * 10 + (c - 48)) a < (a + 1) * 10 ^ l.length
  | [], a, _ => by simp
  | c :: l, a, h => by
    have ih := fold_lt l (a * 10 + (c - 48)) fun x hx => h x (List.mem_cons_of_mem _ hx)
    have hc := h c (List.mem_cons_self ..)
    rw [List.foldl_cons, List.length_cons, Nat.pow_succ]
    refine Nat.lt_of_lt_of_le ih ?_
    rw [Nat.mul_comm (10 ^ l.length) 10, ← Nat.mul_assoc]
    exact Nat.mul_le_mul_right _ (by omega)
theorem natR_lt {w : Str} {n : Nat} (h : natR w = some n) : n < 10 ^ 100 := by
  unfold natR at h
  split at h
  · rename_i c
    obtain rfl := Option.some.inj h
    have hd : NumText.AllDigits (TL.tl w) := fun x hx => by simpa using List.all_eq_true.mp c.2.1 x hx
    have := fold_lt (TL.tl w) 0 hd
    have l := TL.len_tl w
    refine Nat.lt_of_lt_of_le this ?_
    rw [Nat.zero_add, Nat.one_mul]
    exact Nat.pow_le_pow_right (by decide) (by omega)
  · cases h
theorem intR_lt {w : Str} {i : Int} (h : intR w = some i) : i.natAbs < 10 ^ 100 := by
  unfold intR at h
  split at h
  · split at h
    · rename_i n e
      have := natR_lt e
      split at h
      · cases h
      · obtain rfl := Option.some.inj h
        omega
    · cases h
  · cases e : natR w with
    | none => rw [e] at h; cases h
    | some n =>
      rw [e] at h
      have := natR_lt e
      obtain rfl := Option.some.inj h
      show ((n : Int)).natAbs < _
      omega
theorem wAt_len {ws : List Str} {c : Nat} (h : ∀ w ∈ ws, w.length ≤ c) (n : Nat) : (wAt ws n).length ≤ c := by
  unfold wAt
  cases e : ws[n]? with
  | none => exact Nat.zero_le _
  | some w => exact h w (List.mem_of_getElem? e)
theorem rd_isN1 {R : Bool → Prop} (q : R true) : ∃ k, V.bl (decide (V.non = V.non)) = V.bl k ∧ R k := ⟨true, congrArg V.bl (decide_eq_true rfl), q⟩
theorem rd_isN0 {R : Bool → Prop} {i : Int} (q : R false) : ∃ k, V.bl (decide (V.int i = V.non)) = V.bl k ∧ R k := ⟨false, congrArg V.bl (decide_eq_false fun z => by cases z), q⟩
theorem sql_sameT {K : PySem.W.Frag} {H J : Hp} {a : Addr} {xs : List V} (s : Same H J) (h : SqL K H a xs) : SqL K J a xs := by
  rcases h with (e | ⟨u, e⟩) | e
  · exact .inl (.inl (s _ _ e))
  · exact .inl (.inr ⟨u, s _ _ e⟩)
  · exact .inr e
theorem part_cases (y : Str) : (Txt.partition y "/" = (y, Str.empty, Str.empty)) ∨ ∃ a b : Str, Txt.partition y "/" = (a, ("/" : Str), b) ∧ a.length ≤ y.length ∧ b.length ≤ y.length := by
  by_cases c : 47 ∈ TL.tl y
  · obtain ⟨l1, l2, e, hn⟩ := List.eq_append_cons_of_mem c
    have ey : y = ({ cps := l1.toArray } : Str) ++ "/" ++ ({ cps := l2.toArray } : Str) := by
      rw [← TL.mk_tl y, e, ← TL.mk_tl (_ ++ _ ++ _), TL.tl_append, TL.tl_append, TL.tl_mk, TL.tl_mk, List.append_assoc]
      rfl
    have hp := TL.partition_app (y := "/") (s := 47) (S := []) (by decide) (a := ({ cps := l1.toArray } : Str)) (b := ({ cps := l2.toArray } : Str)) (by rw [TL.tl_mk]; exact hn)
    have ly : y.length = ({ cps := l1.toArray } : Str).length + 1 + ({ cps := l2.toArray } : Str).length := by
      rw [congrArg Str.length ey, Str.length_append, Str.length_append]
      rfl
    refine .inr ⟨_, _, by rw [ey]; exact hp, by omega, by omega⟩
  · exact .inl (TL.partition_none (y := "/") (s := 47) (S := []) (by decide) c)
theorem amQ_A {y : Str} (h : Txt.partition y "/" = (y, Str.empty, Str.empty)) : amQ y = match intR y with
    | some x => some (x, 1)
    | none => none := by
  unfold amQ
  rw [h]
  dsimp only
  rw [if_pos (show Str.empty.length = 0 from rfl)]
  cases intR y with
  | none => rfl
  | some x =>
    dsimp only
    rw [if_neg (by rintro ⟨z, _⟩; exact z rfl)]
theorem amQ_B {y o be : Str} (h : Txt.partition y "/" = (o, ("/" : Str), be)) : amQ y = match intR o, natR be with
    | some x, some n => if n = 1 then none else some (x, n)
    | _, _ => none := by
  unfold amQ
  rw [h]
  dsimp only
  rw [if_neg (by decide)]
  cases intR o with
  | none => rfl
  | some x =>
    cases natR be with
    | none => rfl
    | some n =>
      dsimp only
      by_cases c : n = 1
      · rw [if_pos ⟨by decide, c⟩, if_pos c]
      · rw [if_neg (fun z => c z.2), if_neg c]
theorem wAt_ok {ws : List Str} (h : ∀ w ∈ ws, PyData.strOk w = true) (n : Nat) : PyData.strOk (wAt ws n) = true := by
  unfold wAt
  cases e : ws[n]? with
  | none => decide +kernel
  | some w => exact h w (List.mem_of_getElem? e)
theorem rd_for2 {ta : TA} {g : TG} {tb : TS} {D : Ends} {σ : L2.St} {H : Hp} (q : ta σ H fun vs H1 => ∃ i j : Int, vs = [.int i, .int j] ∧ (-(2 ^ 62) ≤ i ∧ i < 2 ^ 62 ∧ -(2 ^ 62) ≤ j ∧ j < 2 ^ 62) ∧ Lp (Itr i (j - i).toNat) g tb D σ H1) : tFor (iRng2 ta) g tb D σ H := q
theorem strOk_of {w : Str} (h : ∀ c ∈ TL.tl w, c < 1114112) : PyData.strOk w = true := by
  unfold PyData.strOk
  rw [Array.all_eq_true_iff_forall_mem]
  exact fun c hc => decide_eq_true (h c (Array.mem_toList_iff.mpr hc))
theorem strOk_lt {w : Str} (h : PyData.strOk w = true) {c : Nat} (hc : c ∈ TL.tl w) : c < 1114112 := by
  unfold PyData.strOk at h
  rw [Array.all_eq_true_iff_forall_mem] at h
  exact of_decide_eq_true (h c (Array.mem_toList_iff.mp hc))
theorem int_textI {w : Str} {z : Int} (h : intR w = some z) : PySem.intText? w = some z ∧ w.length ≤ 101 := by
  unfold intR at h
  split at h
  · rename_i m
    have hm : (TL.tl w).head? = some 45 := of_decide_eq_true m
    cases e : TL.tl w with
    | nil => rw [e] at hm; cases hm
    | cons a cs =>
      rw [e] at hm
      obtain rfl : a = 45 := by simpa using hm
      have et : TL.tl (tailS w) = cs := by rw [tl_tail, e]; rfl
      split at h
      · rename_i n en
        split at h
        · cases h
        · obtain rfl := Option.some.inj h
          have ln := natR_len en
          have lt := TL.len_tl (tailS w)
          have lw := TL.len_tl w
          rw [et] at lt
          rw [e, List.length_cons] at lw
          unfold natR at en
          split at en
          · rename_i c
            obtain rfl := Option.some.inj en
            have hd : NumText.AllDigits cs := fun x hx => by simpa using List.all_eq_true.mp c.2.1 x (by rw [et]; exact hx)
            rw [et]
            exact ⟨intText_neg e hd (fun z => by rw [z, List.length_nil] at lt; omega) (by omega), by omega⟩
          · cases en
      · cases h
  · cases e : natR w with
    | none => rw [e] at h; cases h
    | some n =>
      rw [e] at h
      obtain rfl := Option.some.inj h
      exact ⟨int_text e, by have := natR_len e; omega⟩
theorem rd_unS {K : PySem.W.Frag} {a : Addr} {u v w : V} {rest : List V} {t : TGs} {σ : L2.St} {H : Hp} {Q : L2.St → Hp → Prop} (h : SqL K H a (u :: v :: w :: rest)) (hl : rest.length ≤ 1000) (q : ∀ D J, H D = none → Same H J → J D = some (.lst rest) → t [u, v, w, .ref D] σ J Q) : gUnS K 4 3 t (.ref a) σ H Q := by
  refine ⟨a, _, rfl, h, by simp only [List.length_cons]; omega, by simp only [List.length_cons]; omega, fun D nD => ?_⟩
  have e1 : (u :: v :: w :: rest).length + 1 - 4 = rest.length := by simp only [List.length_cons]; omega
  rw [e1]
  show t ([u, v, w, .ref D] ++ rest.drop rest.length) σ (upd H D (.lst (rest.take rest.length))) Q
  rw [List.drop_length, List.take_length, List.append_nil]
  exact q D _ nD (same_new nD) upd_same
section
variable {K : PySem.W.Frag} {H : Hp} {σ : L2.St} {te : TE} {a D : Addr} {xs : List V}
/-- [f(x) for x in t], t a tuple, told by the place -/
theorem lc_mapTI {i0 : Nat} {Qd : Hp → Prop} (ys : List V) (hy : ys.length = xs.length) (hT : H a = some (.tup xs)) (hl : xs.length ≤ 1000) (hD : H D = none)
    (he : ∀ (i : Nat) x y, xs[i]? = some x → ys[i]? = some y → ∀ (l : List V) (R : VK), R y (upd H D (.lst l)) → te ((σ.set i0 none).set i0 (some x)) (upd H D (.lst l)) R) (hd : Qd (upd H D (.lst ys))) : Lc (Itt K a) (gName i0) tYes te [i0] σ Qd H D := by
  have ne : a ≠ D := ne_of_none hT hD
  refine lc_tup (xs := xs) (fun i J => i ≤ xs.length ∧ J = upd H D (.lst (ys.take i))) ⟨Nat.zero_le _, by rw [List.take_zero]⟩ (fun i J _ w => by
    rw [w.2]
    exact SqT.of (by rw [upd_ne ne]; exact hT)) (fun i x J hx w => ?_) fun J w => ?_
  · obtain ⟨hi, rfl⟩ := w
    have lt : i < xs.length := (List.getElem?_eq_some_iff.mp hx).1
    have hyi : ys[i]? = some ys[i] := List.getElem?_eq_getElem (by omega)
    refine ⟨?_, ?_⟩
    · show ((σ.set i0 none).set i0 (some x)).set i0 none = σ.set i0 none
      rw [List.set_set, List.set_set]
    · show te _ _ _
      refine he i x _ hx hyi _ _ ⟨_, upd_same, ?_, ?_, ?_⟩
      · rw [List.length_take]
        exact small1000 (by omega)
      · omega
      · rw [upd_upd, List.take_add_one, hyi]
        rfl
  · rw [← hy, List.take_length] at w
    rw [w.2]
    exact hd
end
theorem ams_get {H : Hp} : ∀ {rs : List V} {l : List (Int × Int)}, AmsAt H rs l → ∀ {i : Nat} {x : V}, rs[i]? = some x → ∃ p r, x = .ref p ∧ l[i]? = some r ∧ H p = some (.tup [.int r.1, .int r.2])
  | _, _, .nil, i, x, h => by simp at h
  | _, _, .cons h y0 g bx bu t, 0, x, e => ⟨_, _, (Option.some.inj e).symm, rfl, h⟩
  | _, _, .cons h y0 g bx bu t, i + 1, x, e => ams_get t (i := i) e
theorem joinL_mem {S : List Nat} {c : Nat} : ∀ {ls : List (List Nat)}, c ∈ TL.joinL S ls → c ∈ S ∨ ∃ l ∈ ls, c ∈ l
  | [], h => by cases h
  | [x], h => .inr ⟨x, List.mem_singleton.mpr rfl, h⟩
  | x :: y :: r, h => by
    have h : c ∈ x ++ (S ++ TL.joinL S (y :: r)) := h
    rw [List.mem_append, List.mem_append] at h
    rcases h with h | h | h
    · exact .inr ⟨x, List.mem_cons_self .., h⟩
    · exact .inl h
    · rcases joinL_mem h with k | ⟨l, hl, k⟩
      · exact .inl k
      · exact .inr ⟨l, List.mem_cons_of_mem _ hl, k⟩
theorem join_ok {ws : List Str} (h : ∀ w ∈ ws, PyData.strOk w = true) : PyData.strOk (Txt.join " " ws) = true := strOk_of fun c hc => by
  rw [TL.join_eq, TL.tl_join] at hc
  rcases joinL_mem hc with k | ⟨l, hl, k⟩
  · rw [show TL.tl (" " : Str) = [32] by decide +kernel, List.mem_singleton] at k
    subst k
    decide
  · obtain ⟨w, hw, rfl⟩ := List.mem_map.mp hl
    exact strOk_lt (h w hw) k
end Ob
set_option maxHeartbeats 1000000
/-! Texts: what is read is what was written; a text cut at its blanks. -/
namespace Ob
open PySem PySem.Spec PyProof.Rows L2
/-! ### what is read is what was written -/
theorem dv_snoc (l : List Nat) (c : Nat) : NumText.digitsVal (l ++ [c]) = NumText.digitsVal l * 10 + (c - 48) := by
  unfold NumText.digitsVal
  rw [List.foldl_append]
  rfl
theorem dv_pos {l : List Nat} (h : NumText.AllDigits l) (ne : l ≠ []) (h0 : l.head? ≠ some 48) : 0 < NumText.digitsVal l := by
  have go : ∀ (l : List Nat) (a : Nat), 0 < a → 0 < l.foldl (fun acc c => acc * 10 + (c - 48)) a := by
    intro l
    induction l with
    | nil => intro a h; exact h
    | cons c l ih => intro a h; exact ih _ (show 0 < a * 10 + (c - 48) by omega)
  cases l with
  | nil => exact absurd rfl ne
  | cons c l =>
    have hc := h c (List.mem_cons_self ..)
    have c48 : c ≠ 48 := fun z => h0 (by rw [z]; rfl)
    exact go l _ (show 0 < 0 * 10 + (c - 48) by omega)
theorem numL_inv : ∀ (n : Nat) (l : List Nat), l.length = n → NumText.AllDigits l → l ≠ [] → (l.head? ≠ some 48 ∨ l.length = 1) → TL.numL (NumText.digitsVal l) = l := by
  intro n
  induction n with
  | zero => intro l h _ ne _; exact absurd (List.length_eq_zero_iff.mp h) ne
  | succ n ih =>
    intro l hl hd ne h0
    obtain ⟨l', c, rfl⟩ : ∃ l' c, l = l' ++ [c] := ⟨l.dropLast, l.getLast ne, (List.dropLast_concat_getLast ne).symm⟩
    have hc := hd c (by simp)
    rw [dv_snoc]
    cases l' with
    | nil =>
      rw [show NumText.digitsVal [] = 0 from rfl, TL.numL_lt (by omega)]
      show [48 + (0 * 10 + (c - 48))] = [c]
      congr 1
      omega
    | cons a r =>
      have h1 : (a :: r).head? ≠ some 48 := by
        rcases h0 with h0 | h0
        · simpa using h0
        · simp at h0
      have hd' : NumText.AllDigits (a :: r) := fun x hx => hd x (List.mem_append_left _ hx)
      have p := dv_pos hd' (by simp) h1
      have e1 : (NumText.digitsVal (a :: r) * 10 + (c - 48)) / 10 = NumText.digitsVal (a :: r) := by omega
      have e2 : (NumText.digitsVal (a :: r) * 10 + (c - 48)) % 10 = c - 48 := by omega
      rw [TL.numL_step (by omega), e1, e2, ih (a :: r) (by simpa using hl) hd' (by simp) (.inl h1)]
      congr 2
      omega
theorem str_ext {a b : Str} (h : TL.tl a = TL.tl b) : a = b := by rw [← TL.mk_tl a, h, TL.mk_tl]
theorem natR_txt {w : Str} {n : Nat} (h : natR w = some n) : w = txI (n : Int) := by
  unfold natR at h
  split at h
  · rename_i c
    obtain rfl := Option.some.inj h
    have hd : NumText.AllDigits (TL.tl w) := fun x hx => by simpa using List.all_eq_true.mp c.2.1 x hx
    have l := TL.len_tl w
    refine str_ext ?_
    rw [txI_nat]
    refine (numL_inv _ _ rfl hd (fun z => by rw [z, List.length_nil] at l; omega) ?_).symm
    by_cases z : (TL.tl w).head? = some 48
    · exact .inr (by have : ¬ 1 < w.length := fun k => c.2.2 ⟨z, k⟩; omega)
    · exact .inl z
  · cases h
theorem intR_txt {w : Str} {i : Int} (h : intR w = some i) : w = txI i := by
  unfold intR at h
  split at h
  · rename_i m
    have hm : (TL.tl w).head? = some 45 := of_decide_eq_true m
    cases e : TL.tl w with
    | nil => rw [e] at hm; cases hm
    | cons a cs =>
      rw [e] at hm
      obtain rfl : a = 45 := by simpa using hm
      have et : TL.tl (tailS w) = cs := by rw [tl_tail, e]; rfl
      split at h
      · rename_i n en
        split at h
        · cases h
        · rename_i n0
          obtain rfl := Option.some.inj h
          refine str_ext ?_
          rw [txI_neg (by omega), e, ← et, natR_txt en, txI_nat]
      · cases h
  · cases e : natR w with
    | none => rw [e] at h; cases h
    | some n =>
      rw [e] at h
      obtain rfl := Option.some.inj h
      exact natR_txt e
theorem part_whole (y : Str) : (Txt.partition y "/" = (y, Str.empty, Str.empty)) ∨ ∃ a b : Str, Txt.partition y "/" = (a, ("/" : Str), b) ∧ y = a ++ "/" ++ b := by
  by_cases c : 47 ∈ TL.tl y
  · obtain ⟨l1, l2, e, hn⟩ := List.eq_append_cons_of_mem c
    have ey : y = ({ cps := l1.toArray } : Str) ++ "/" ++ ({ cps := l2.toArray } : Str) := by
      refine str_ext ?_
      rw [e, TL.tl_append, TL.tl_append, TL.tl_mk, TL.tl_mk, List.append_assoc]
      rfl
    have hp := TL.partition_app (y := "/") (s := 47) (S := []) (by decide) (a := ({ cps := l1.toArray } : Str)) (b := ({ cps := l2.toArray } : Str)) (by rw [TL.tl_mk]; exact hn)
    exact .inr ⟨_, _, by rw [← hp, ← ey], ey⟩
  · exact .inl (TL.partition_none (y := "/") (s := 47) (S := []) (by decide) c)
theorem amQ_txt {w : Str} {x : Int} {n : Nat} (h : amQ w = some (x, n)) : w = amW x (n : Int) := by
  rcases part_whole w with e | ⟨o, be, e, ew⟩
  · rw [amQ_A e] at h
    cases eo : intR w with
    | none => rw [eo] at h; cases h
    | some z =>
      rw [eo] at h
      cases h
      unfold amW
      rw [if_pos (show ((1 : Nat) : Int) = 1 from rfl)]
      exact intR_txt eo
  · rw [amQ_B e] at h
    cases eo : intR o with
    | none => rw [eo] at h; cases h
    | some z =>
      cases eb : natR be with
      | none => rw [eo, eb] at h; cases h
      | some k =>
        rw [eo, eb] at h
        dsimp only at h
        split at h
        · cases h
        · rename_i k1
          cases h
          unfold amW
          rw [if_neg (by omega), ew, intR_txt eo, natR_txt eb]
/-! ### a text cut at its blanks -/
theorem spl_facts : ∀ (xs acc : List Nat), (∀ l ∈ TL.spl [32] 0 acc xs, l.length ≤ acc.length + xs.length ∧ ∀ c ∈ l, c ∈ acc ∨ c ∈ xs) ∧ (TL.spl [32] 0 acc xs).length ≤ xs.length + 1 ∧ TL.spl [32] 0 acc xs ≠ []
  | [], acc => by
    rw [TL.spl_nil]
    exact ⟨fun l hl => by rw [List.mem_singleton] at hl; subst hl; exact ⟨by simp, fun c hc => .inl hc⟩, by simp, by simp⟩
  | c :: r, acc => by
    by_cases h : c = 32
    · subst h
      have hp : TL.pre [32] (32 :: r) = true := by simp [TL.pre]
      rw [TL.spl_hit hp, show ([32] : List Nat).length - 1 = 0 from rfl]
      obtain ⟨a, b, _⟩ := spl_facts r []
      refine ⟨fun l hl => ?_, by simp only [List.length_cons]; omega, by simp⟩
      rcases List.mem_cons.mp hl with rfl | hl
      · exact ⟨by omega, fun c hc => .inl hc⟩
      · obtain ⟨p, q⟩ := a l hl
        exact ⟨by simp only [List.length_nil, List.length_cons] at *; omega, fun c hc => .inr (List.mem_cons_of_mem _ ((q c hc).resolve_left (by simp)))⟩
    · have hp : TL.pre [32] (c :: r) = false := by simp [TL.pre, h]
      rw [TL.spl_miss hp]
      obtain ⟨a, b, d⟩ := spl_facts r (acc ++ [c])
      refine ⟨fun l hl => ?_, by simp only [List.length_cons]; omega, d⟩
      obtain ⟨p, q⟩ := a l hl
      refine ⟨by simp only [List.length_append, List.length_cons, List.length_nil] at *; omega, fun k hk => ?_⟩
      rcases q k hk with z | z
      · rcases List.mem_append.mp z with z | z
        · exact .inl z
        · rw [List.mem_singleton] at z
          subst z
          exact .inr (List.mem_cons_self ..)
      · exact .inr (List.mem_cons_of_mem _ z)
theorem split_tl (x : Str) : (Txt.split x " ").map TL.tl = TL.spl [32] 0 [] (TL.tl x) := TL.split_spl x " " (by decide) (TL.kind_ok (by decide +kernel))
theorem split_facts {x : Str} (hx : PyData.strOk x = true) : (∀ w ∈ Txt.split x " ", w.length ≤ x.length ∧ PyData.strOk w = true) ∧ (Txt.split x " ").length ≤ x.length + 1 ∧ Txt.split x " " ≠ [] := by
  obtain ⟨a, b, c⟩ := spl_facts (TL.tl x) []
  rw [← split_tl] at a b c
  refine ⟨fun w hw => ?_, ?_, fun z => c (by rw [z]; rfl)⟩
  · obtain ⟨p, q⟩ := a _ (List.mem_map_of_mem hw)
    refine ⟨by rw [TL.len_tl w, TL.len_tl x]; simpa using p, strOk_of fun k hk => ?_⟩
    exact strOk_lt hx ((q k hk).resolve_left (by simp))
  · rw [List.length_map] at b
    rw [TL.len_tl x]
    exact b
theorem join_split' (x : Str) : Txt.join " " (Txt.split x " ") = x := by rw [TL.join_eq]; exact PySem.StrLaws.join_split x " "
theorem rd_neStr {H : Hp} {Q : VK} {i j : Str} (q : Q (.bl (!decide (i = j))) H) : rNe (.str i) (.str j) H Q := ⟨rfl, by
  rw [show decide (V.str i = V.str j) = decide (i = j) from decide_eq_decide.mpr ⟨fun h => by injection h, fun h => by rw [h]⟩]
  exact q⟩
theorem strs_lay {ws : List Str} (h : ∀ w ∈ ws, PyData.strOk w = true) : PyData.depthAll (ws.map PyData.str) = 0 ∧ PyData.canLayAll0 (ws.map PyData.str) = true := by
  induction ws with
  | nil => exact ⟨by simp [PyData.depthAll], by simp [PyData.canLayAll0]⟩
  | cons w r ih =>
    obtain ⟨a, b⟩ := ih fun x hx => h x (List.mem_cons_of_mem _ hx)
    have c := h w (List.mem_cons_self ..)
    exact ⟨by simp [PyData.depthAll, PyData.depth, a], by simp [PyData.canLayAll0, PyData.canLay0, b, c]⟩
theorem strs_dp {K : PySem.W.Frag} {H : Hp} : ∀ ws : List Str, DpAll K H (ws.map V.str) (ws.map PyData.str)
  | [] => .nil
  | _ :: r => .cons (.str _) (strs_dp r)
theorem rd_eqNilS {K : PySem.W.Frag} {H : Hp} {Q : VK} {a b : Addr} {ws : List Str} (h : SqL K H a (ws.map V.str)) (ok : ∀ w ∈ ws, PyData.strOk w = true) (k : H b = some (.lst [])) (q : Q (.bl (decide (ws = []))) H) : rEqD K (.ref a) (.ref b) H Q := by
  obtain ⟨d, c⟩ := strs_lay ok
  refine ⟨.list (ws.map .str), .list [], Dp.lst h (strs_dp ws), Dp.lst (SqL.of k) .nil, by simp [SeqAt.shaped, PyData.canLay0, PyData.depth, c, d], by simp [SeqAt.shaped, PyData.canLay0, PyData.canLayAll0, PyData.depth, PyData.depthAll], ?_⟩
  have e2 : PyData.eqv (.list (ws.map .str)) (.list []) = decide (ws = []) := by
    cases ws with
    | nil => simp [PyData.eqv, PyData.eqvAll]
    | cons h t => simp [PyData.eqv, PyData.eqvAll]
  rw [e2]
  exact q
theorem rd_neNilT {K : PySem.W.Frag} {H : Hp} {Q : VK} {a b : Addr} {ws : List Str} (h : SqL K H a (ws.map V.str)) (ok : ∀ w ∈ ws, PyData.strOk w = true) (k : H b = some (.lst [])) (q : Q (.bl (!decide (ws = []))) H) : rNeD K (.ref a) (.ref b) H Q := by
  obtain ⟨d, c⟩ := strs_lay ok
  refine ⟨.list (ws.map .str), .list [], Dp.lst h (strs_dp ws), Dp.lst (SqL.of k) .nil, by simp [SeqAt.shaped, PyData.canLay0, PyData.depth, c, d], by simp [SeqAt.shaped, PyData.canLay0, PyData.canLayAll0, PyData.depth, PyData.depthAll], ?_⟩
  have e2 : PyData.eqv (.list (ws.map .str)) (.list []) = decide (ws = []) := by
    cases ws with
    | nil => simp [PyData.eqv, PyData.eqvAll]
    | cons h t => simp [PyData.eqv, PyData.eqvAll]
  rw [e2]
  exact q
theorem cutV_fromS (xs : List V) (k : Nat) : cutV xs (some (k : Int)) none = xs.drop k := by
  have e : HT.sIx xs.length 0 (some (k : Int)) = min k xs.length := by
    show (if (k : Int) < 0 then ((k : Int) + (xs.length : Int)).toNat else min (k : Int).toNat xs.length) = _
    rw [if_neg (by omega), Int.toNat_natCast]
  have e2 : HT.sIx xs.length xs.length none = xs.length := rfl
  show List.take (HT.sIx xs.length xs.length none - HT.sIx xs.length 0 (some (k : Int))) (List.drop (HT.sIx xs.length 0 (some (k : Int))) xs) = _
  rw [e, e2]
  rcases Nat.le_total k xs.length with h | h
  · rw [Nat.min_eq_left h]
    exact List.take_of_length_le (by rw [List.length_drop]; omega)
  · rw [Nat.min_eq_right h, List.drop_of_length_le (Nat.le_refl _), List.drop_of_length_le h, List.take_nil]
theorem cutV_toS (xs : List V) (k : Nat) : cutV xs none (some (k : Int)) = xs.take k := by
  have e : HT.sIx xs.length xs.length (some (k : Int)) = min k xs.length := by
    show (if (k : Int) < 0 then ((k : Int) + (xs.length : Int)).toNat else min (k : Int).toNat xs.length) = _
    rw [if_neg (by omega), Int.toNat_natCast]
  have e2 : HT.sIx xs.length 0 none = 0 := rfl
  show List.take (HT.sIx xs.length xs.length (some (k : Int)) - HT.sIx xs.length 0 none) (List.drop (HT.sIx xs.length 0 none) xs) = _
  rw [e, e2, Nat.sub_zero, List.drop_zero]
  rcases Nat.le_total k xs.length with h | h
  · rw [Nat.min_eq_left h]
  · rw [Nat.min_eq_right h, List.take_length, List.take_of_length_le h]
end Ob
set_option maxHeartbeats 1000000
/-! Texts: one replaced, capitals. -/
namespace Ob
open PySem PySem.Spec PyProof.Rows L2
open PySem.Builtin PySem.Builtin.Str
/-! ### str.replace with a count of one -/
theorem gives_repl1 (x y z : Str) (t u v c : Tok) (h0 : (u == 0 || v == 0) = false) (huv : (u == v) = false) (hyz : (y == z) = false) (hl : tooLong (x.length + (occurrences x y 0 x.length 1).length * z.length) = false) :
    Gives («str.replace» ⟨[.str x t, .str y u, .str z v, .int 1 c], []⟩) (if ((occurrences x y 0 x.length 1).isEmpty || (y.length == 0 && z.length == 0)) = true then .val (.str x t) else .str (glued z (partsBetween x (occurrences x y 0 x.length 1) y.length))) := by
  show Gives (if ((occurrences x y 0 x.length 1).isEmpty || (y.length == 0 && z.length == 0)) = true then (do rule "str.replace.nothing"; ret (.str x t)) else
          (do let same ← isSame (.str y u) (.str z v)
              if same = true then (do rule "str.replace.old-is-new"; ret (.str x t)) else
              if tooLong (x.length + (occurrences x y 0 x.length 1).length * z.length) = true then unsupported "str.replace:memory" else
              retStr (glued z (partsBetween x (occurrences x y 0 x.length 1) y.length)))) _
  cases hc : ((occurrences x y 0 x.length 1).isEmpty || (y.length == 0 && z.length == 0))
  · rw [isSame_str_other y z u v h0 huv hyz, hl]
    exact .of_eq rfl
  · exact .rule (.of_eq rfl)
theorem sub_ok {x : Str} (h : PyData.strOk x = true) (i j : Nat) : PyData.strOk (strSub x i j) = true := strOk_of fun c hc => by
  have : c ∈ (x.cps.extract i j).toList := hc
  rw [Array.toList_extract, List.extract] at this
  exact strOk_lt h (List.mem_of_mem_drop (List.mem_of_mem_take this))
theorem glued_ok {x z : Str} (hx : PyData.strOk x = true) (hz : PyData.strOk z = true) (cuts : List Nat) (n : Nat) : PyData.strOk (glued z (partsBetween x cuts n)) = true := strOk_of fun c hc => by
  rw [StrLaws.glued_eq_join] at hc
  have hp : ∀ w ∈ partsBetween x cuts n, PyData.strOk w = true := fun w hw => by
    unfold partsBetween at hw
    obtain ⟨⟨i, j⟩, _, rfl⟩ := List.mem_map.mp hw
    exact sub_ok hx i j
  generalize partsBetween x cuts n = ps at hc hp
  rw [show Str.join z ps = Txt.join z ps from (TL.join_eq z ps).symm, TL.join_eq, TL.tl_join] at hc
  rcases joinL_mem hc with k | ⟨l, hl, k⟩
  · exact strOk_lt hz k
  · obtain ⟨w, hw, rfl⟩ := List.mem_map.mp hl
    exact strOk_lt (hp w hw) k
theorem glued_len (x y z : Str) : (glued z (partsBetween x (occurrences x y 0 x.length 1) y.length)).length ≤ x.length + z.length := by
  have h1 := StrLaws.occ_length_le x y 0 x.length 1
  have hy : (glued y (partsBetween x (occurrences x y 0 x.length 1) y.length)).length = x.length := by rw [StrLaws.glued_between_self]
  rw [size_glued, length_partsBetween, Nat.add_sub_cancel] at hy
  rw [size_glued, length_partsBetween, Nat.add_sub_cancel]
  have h2 : (occurrences x y 0 x.length 1).length * z.length ≤ 1 * z.length := Nat.mul_le_mul_right _ h1
  omega

def tRepl1 (to : TE) : TE := fun σ H Q => to σ H fun v H1 => ∃ x, v = .str x ∧ x.length ≤ 100000 ∧ PyData.strOk x = true ∧ ∀ z : Str, z.length ≤ x.length + 2 → PyData.strOk z = true → Q (.str z) H1
theorem call3 {prog : Program} {w : PySem.World} {A : Around} {E : Value → Shared → Prop} {s : Shared} {env : Env} {o e1 e2 e3 : Expr} {name : Str} {apos pos : PySem.Pos} {Q : Value → Shared → Prop}
    (hbase : attributeBase o name env (eval o env) = eval o env) (hs : starEach [e1, e2, e3] env = [(false, eval e1 env), (false, eval e2 env), (false, eval e3 env)]) (hline : (apos.endLine == pos.line) = true)
    (h : wpAny (model prog w) A (eval o env) (fun ov s1 => MethodOnS prog w A E name ov pos [(false, eval e1 env), (false, eval e2 env), (false, eval e3 env)] Q s1) E s) :
    wpAny (model prog w) A (eval (.Call (.Attribute o name apos) [e1, e2, e3] [] pos) env) Q E s := by
  refine wpAny_Call_method_lateS hbase (by rw [hs]; rfl) hline ?_
  rw [hs]
  exact h
section
variable {X : Cx} {o e : Expr} {te : TE} {to : TE} {y z : Str} {j k l : Nat} {c0 c1 c2 apos pos p : PySem.Pos}
theorem pet_repl1 (ho : PE X o to) (hyz : (y == z) = false := by decide) (zl : z.length ≤ 2 := by decide) (zk : PyData.strOk z = true := by decide +kernel)
    (hst : starEach [.Constant (.str y) j c0, .Constant (.str z) k c1, .Constant (.int 1) l c2] X.env = [(false, eval (.Constant (.str y) j c0) X.env), (false, eval (.Constant (.str z) k c1) X.env), (false, eval (.Constant (.int 1) l c2) X.env)] := by rfl)
    (hbase : attributeBase o "replace" X.env (eval o X.env) = eval o X.env := by rfl) (hline : (apos.endLine == pos.line) = true := by rfl) :
    PET X (.Call (.Attribute o "replace" apos) [.Constant (.str y) j c0, .Constant (.str z) k c1, .Constant (.int 1) l c2] [] pos) (tRepl1 to) := by
  intro pins s σ H Q h0 I h
  refine call3 hbase hst hline (wpAny_mono (PySem.wpAny_toks (ho.run pins s σ H _ I h)) (fun v s1 q => ?_) fun _ _ z => z.2)
  obtain ⟨hk, v', H1, I1, r1, x, e1, hb, xk, q⟩ := q
  subst e1
  obtain ⟨tx, e2⟩ := r1
  subst e2
  refine ⟨"str", _, PySem.F.plainAttrs_str, PySem.F.slot_str_replace, PySem.F.type_str_replace, typeIs_str _ _ _, (fun _ e => nomatch e), Calls.callWith_builtin rfl (Calls.evalArgs_plain (Calls.spliced_cons ?_))⟩
  refine Calls.Constant_str (Calls.spliced_cons (Calls.Constant_str (Calls.spliced_cons ?_)))
  refine wpAny_Constant_int (Calls.spliced_nil ?_)
  have h1 := StrLaws.occ_length_le x y 0 x.length 1
  have h2 : (occurrences x y 0 x.length 1).length * z.length ≤ 1 * z.length := Nat.mul_le_mul_right _ h1
  have gl := glued_len x y z
  have sl := sizeLine_eq
  refine call_gives F.slot_str_replace (typeIs_str _ _ _) F.entry_str_replace (F.args_str_replace_4 _ _ _ _)
    (gives_repl1 x y z tx s1.toks (s1.toks + 1) _ ?_ ?_ hyz ?_) ?_
  · have a : ¬ s1.toks = 0 := by omega
    simp [a]
  · simp
  · unfold tooLong
    exact decide_eq_false (by omega)
  · split
    · exact ⟨.str x, H1, I1.tok _, ⟨_, rfl⟩, q x (by omega) xk⟩
    · exact ⟨by omega, .str _, H1, I1.tok _, ⟨_, rfl⟩, q _ (by omega) (glued_ok xk zk _ _)⟩
theorem pet_pe (h : PE X e te) : PET X e te := fun pins s σ H Q _ I q => h.run pins s σ H Q I q
/-- behind a written text a token is out -/
theorem pa_strT {x : Str} {es : List Expr} {ta : TA} (h : PAT X es ta) (hs : starEach (.Constant (.str x) j p :: es) X.env = (false, eval (.Constant (.str x) j p) X.env) :: starEach es X.env := by rfl) : PA X (.Constant (.str x) j p :: es) (tCons (tC (.str x)) ta) := by
  refine ⟨fun pos pins s σ H Q I hq => ?_⟩
  rw [hs]
  show wpAny _ _ (spliced ((false, eval (.Constant (.str x) j p) X.env) :: backTo pos (starEach es X.env))) _ _ s
  refine Calls.spliced_cons (Calls.Constant_str ?_)
  exact thn (h pos pins { s with toks := s.toks + 1 } σ H _ (by show 1 ≤ s.toks + 1; omega) (I.tok _) hq) fun us s2 ⟨xs, H2, I2, r2, q2⟩ => ⟨.str x :: xs, H2, I2, .cons ⟨s.toks, rfl⟩ r2, q2⟩
end
theorem rd_repl1 {to : TE} {σ : L2.St} {H : Hp} {Q : VK} (h : to σ H fun v H1 => ∃ x, v = .str x ∧ x.length ≤ 100000 ∧ PyData.strOk x = true ∧ ∀ z : Str, z.length ≤ x.length + 2 → PyData.strOk z = true → Q (.str z) H1) : tRepl1 to σ H Q := h
theorem rd_m0 {r : V → List V → Hp → VK → Prop} {to : TE} {σ : L2.St} {H : Hp} {Q : VK} (q : to σ H fun x H1 => (∃ a, x = .str a) ∧ r x [] H1 Q) : tM0 r to σ H Q := q
/-! ### capitals -/
theorem up_len {x : Str} (h : ∀ c ∈ TL.tl x, c < 128) : (Txt.upper x).length = x.length ∧ PyData.strOk (Txt.upper x) = true := by
  rw [PyProof.Rows.upper_ascii h]
  refine ⟨by simp [Str.length], strOk_of fun c hc => ?_⟩
  have : c ∈ (x.cps.map PyProof.Rows.up1).toList := hc
  rw [Array.toList_map] at this
  obtain ⟨d, hd, rfl⟩ := List.mem_map.mp this
  have := h d hd
  unfold PyProof.Rows.up1
  split <;> omega
end Ob
namespace Ob
open PySem PySem.Spec PyProof.Rows L2
local macro_rules | `(tactic| walk_at "hp") => `(tactic| (first
  | assumption
  | exact L2.upd_same
  | ((with_reducible refine SqT.of ?h); (case h => walk_at "hp"))
  | ((with_reducible refine SqL.of ?h); (case h => walk_at "hp"))
  | ((with_reducible refine Scr.sq ?h); (case h => walk_at "hp"))
  | ((with_reducible refine Bag.new ?h ?k); (case h => walk_at "hp"); (case k => assumption))
  | ((with_reducible refine Scr.new ?k ?h); (case k => assumption); (case h => walk_at "hp"))
  | ((with_reducible refine Scr.kp (b := ?bb) (H := ?hh) ?k ?g ?h); (case k => assumption); (case g => walk_at "hp"); (case h => walk_at "hp"))
  | ((with_reducible refine Bag.same (H := ?hh) ?k ?h); (case k => assumption); (case h => walk_at "hp"))
  | ((with_reducible refine Scr.same (H := ?hh) ?k ?h); (case k => assumption); (case h => walk_at "hp"))
  | ((with_reducible refine same_any (H := ?hh) ?k ?h); (case k => assumption); (case h => walk_at "hp"))
  | ((with_reducible refine new_any ?k ?h); (case k => assumption); (case h => walk_at "hp"))
  | ((with_reducible refine set_tup (ys := ?ys) ?k ?h); (case k => assumption); (case h => walk_at "hp"))
  | ((with_reducible refine Bag.put ?k ?h); (case k => assumption); (case h => walk_at "hp"))
  | ((with_reducible refine Kp.tup (b := ?bb) (H := ?hh) ?k ?g ?h); (case k => assumption); (case g => walk_at "hp"); (case h => walk_at "hp"))
  | ((with_reducible refine Kp.lst (b := ?bb) (H := ?hh) ?k ?g ?h); (case k => assumption); (case g => walk_at "hp"); (case h => walk_at "hp"))
  | ((with_reducible refine Bag.off (H := ?hh) ?h ?g); (case h => assumption); (case g => walk_at "hp"))
  | (with_reducible exact Kp.refl)
  | (with_reducible exact Kp.new (by assumption))))
local macro_rules | `(tactic| walk_at "dp") => `(tactic| (first
  | exact Dp.int _
  | exact Dp.bl _
  | exact Dp.non
  | exact Dp.str _
  | exact DpAll.nil
  | ((refine DpAll.cons (d := ?d) (ds := ?ds) ?h ?k); (case h => walk_at "dp"); (case k => walk_at "dp"))
  | ((refine Dp.lst (xs := ?xs) (ds := ?ds) ?h ?k); (case h => walk_at "hp"); (case k => walk_at "dp"))
  | ((refine Dp.tup (xs := ?xs) (ds := ?ds) ?h ?k); (case h => walk_at "hp"); (case k => walk_at "dp"))))
local macro_rules | `(tactic| walk_at "small") => `(tactic| first | decide +kernel | (simp only [sm, sms, sz, szs, Bool.and_true, Bool.and_eq_true, decide_eq_true_eq, and_true, true_and]; (first | done | omega | (repeat' constructor) <;> first | omega | decide +kernel)))
local macro_rules | `(tactic| walk_at "side") => `(tactic| (first
  | ((with_reducible show IntMulOk _ _); first | exact rd_mulB (by assumption) (by assumption) | (refine rd_mulok ?_; omega))
  | ((with_reducible show CDv _ _); exact rd_dvB _ (Int.ne_of_gt (by assumption)) (by assumption))
  | ((with_reducible show CDv _ _); refine rd_dvI _ ?_ ?_ <;> first | assumption | omega | decide)
  | ((with_reducible show CPow _ _); exact ⟨by decide, by decide, by first | decide | omega⟩)
  | omega
  | assumption
  | decide
  | (refine rd_mulB (m := 400) (n := 400) (Bd.lit ?_) (Bd.lit ?_) <;> decide +kernel)))
local macro_rules | `(tactic| walk_at "rd1") => `(tactic| (first
  | ((with_reducible refine rd_var (v := ?v) ?h ?_); (case h => exact rfl))
  | (with_reducible refine rd_c ?_)
  | (with_reducible refine rd_op ?_)
  | (with_reducible refine rd_cons ?_)
  | (with_reducible refine rd_nil ?_)
  | ((with_reducible refine rd_sxT (xs := ?xs) (v := ?v) ?h ?a ?_); (case h => walk_at "hp"); (case a => exact rfl))
  | ((with_reducible refine rd_sxL (xs := ?xs) (v := ?v) ?h ?a ?_); (case h => walk_at "hp"); (case a => exact rfl))
  | (with_reducible refine rd_I0 ?_)
  | ((with_reducible refine rd_I ?c ?_); (case c => walk_at "side"))
  | ((with_reducible refine rd_name (τ := ?t) ?e ?_); (case e => exact rfl))
  | (with_reducible refine rd_seq ?_)
  | (with_reducible refine rd_asg ?_)
  | (with_reducible refine rd_call ?_)
  | (with_reducible refine rd_CB ?_)
  | (with_reducible refine rd_tup ?_)
  | ((with_reducible refine rd_new ?h ?_); (case h => exact rfl))
  | (with_reducible refine rd_test ?_)
  | (with_reducible refine rd_bl ?_)
  | (with_reducible refine rd_U ?_)
  | (with_reducible refine rd_un ?_)
  | (with_reducible refine rd_neI ?_)
  | (with_reducible refine rd_eqI ?_)
  | (with_reducible refine rd_tpar ?_)
  | (with_reducible refine rd_lc ?_)
  | (with_reducible refine rd_iTup ?_)
  | (with_reducible refine rd_iLst ?_)
  | (with_reducible refine rd_iR1 ?_)
  | (with_reducible refine rd_BM ?_)
  | ((with_reducible refine rd_iTupA (xs := ?xs) ?h ?_); (case h => walk_at "hp"))
  | ((with_reducible refine rd_iLstA (xs := ?xs) ?h ?_); (case h => walk_at "hp"))
  | ((with_reducible refine rd_tyl (xs := ?xs) ?h ?_); (case h => walk_at "hp"))
  | ((with_reducible refine rd_app (xs := ?xs) ?h ?a ?_); (case h => walk_at "hp"); (case a => exact Nat.le_of_ble_eq_true rfl))
  | ((with_reducible refine rd_cat (xs := ?xs) (zs := ?zs) ?h ?k ?a ?_); (case h => walk_at "hp"); (case k => walk_at "hp"); (case a => exact Nat.le_of_ble_eq_true rfl))
  | ((with_reducible refine rd_rep (xs := ?xs) (ys := ?ys) ?h ?a ?b ?c ?_); (case h => walk_at "hp"); (case a => decide); (case b => exact Nat.le_of_ble_eq_true rfl); (case c => exact rfl))
  | (with_reducible refine rd_ret ?_)
  | (with_reducible refine rd_next ?_)
  | (with_reducible refine rd_drop ?_)
  | (with_reducible refine rd_ifS ?_)
  | (with_reducible refine rd_B ?_)
  | (with_reducible refine rd_not ?_)
  | (with_reducible refine rd_and ?_)
  | (with_reducible refine rd_or ?_)
  | (with_reducible refine rd_andV ?_)
  | (with_reducible refine rd_orV ?_)
  | (with_reducible refine rd_notV ?_)
  | (with_reducible refine rd_ifE ?_)
  | (with_reducible refine rd_lst ?_)
  | ((with_reducible refine rd_for1b ?h ?_); (case h => constructor <;> (repeat' split) <;> omega))
  | (with_reducible refine rd_one ?_)
  | (with_reducible refine rd_two ?_)
  | (with_reducible refine rd_int ?_)
  | (with_reducible refine rd_intB ?_)
  | (with_reducible refine rd_gcd ?_)
  | ((with_reducible refine rd_par (τ := ?t) ?e ?_); (case e => exact rfl))
  | (with_reducible refine rd_sub ?_)
  | (with_reducible refine rd_for1 ?_)
  | ((with_reducible refine rd_len (ys := ?ys) ?h ?_); (case h => walk_at "hp"))
  | ((with_reducible refine rd_lenTu (ys := ?ys) ?h ?_); (case h => walk_at "hp"))
  | ((with_reducible refine rd_repr (d := ?d) ?h ?a ?b ?c ?_); (case h => walk_at "dp"); (case a => walk_at "small"); (case b => walk_at "small"); (case c => simp only [PyData.depth, PyData.depthAll]; omega))
  | ((with_reducible refine rd_nsame ?h ?_); (case h => exact rfl))
  | ((with_reducible refine rd_same ?h ?_); (case h => exact rfl))
  | ((with_reducible refine rd_gtup (xs := ?xs) ?h ?a ?_); (case h => walk_at "hp"); (case a => exact rfl))
  | (with_reducible refine rd_gcons ?_)
  | (with_reducible refine rd_gnil ?_)
  | ((with_reducible refine rd_isiI (b := true) ?a ?_); (case a => decide +kernel))
  | ((with_reducible refine rd_isiI (b := false) ?a ?_); (case a => decide +kernel))
  | ((with_reducible refine rd_isiB (b := true) ?a ?_); (case a => decide +kernel))
  | ((with_reducible refine rd_isiB (b := false) ?a ?_); (case a => decide +kernel))
  | ((with_reducible refine rd_isiN (b := true) ?a ?_); (case a => decide +kernel))
  | ((with_reducible refine rd_isiN (b := false) ?a ?_); (case a => decide +kernel))
  | ((with_reducible refine rd_isiS (b := true) ?a ?_); (case a => decide +kernel))
  | ((with_reducible refine rd_isiS (b := false) ?a ?_); (case a => decide +kernel))
  | ((with_reducible refine rd_isiT (b := true) (xs := ?xs) ?h ?a ?_); (case a => decide +kernel); (case h => walk_at "hp"))
  | ((with_reducible refine rd_isiT (b := false) (xs := ?xs) ?h ?a ?_); (case a => decide +kernel); (case h => walk_at "hp"))
  | ((with_reducible refine rd_isiL (b := true) (xs := ?xs) ?h ?a ?_); (case a => decide +kernel); (case h => walk_at "hp"))
  | ((with_reducible refine rd_isiL (b := false) (xs := ?xs) ?h ?a ?_); (case a => decide +kernel); (case h => walk_at "hp"))
  | ((with_reducible refine rd_isi (t := ?t) (b := true) ?h ?a ?_); (case h => assumption); (case a => decide +kernel))
  | ((with_reducible refine rd_isi (t := ?t) (b := false) ?h ?a ?_); (case h => assumption); (case a => decide +kernel))
  | (with_reducible refine rd_chain ?_)
  | ((with_reducible refine rd_eqDs (d := ?d) ?h ?k ?s ?_); (case h => walk_at "dp"); (case k => walk_at "dp"); (case s => first | rfl | decide | simp [SeqAt.shaped]))
  | ((with_reducible refine rd_neDs (d := ?d) ?h ?k ?s ?_); (case h => walk_at "dp"); (case k => walk_at "dp"); (case s => first | rfl | decide | simp [SeqAt.shaped]))
  | ((with_reducible refine rd_setL (xs := ?xs) (ys := ?ys) (j := ?j) ?h ?a ?e ?_); (case h => walk_at "hp"); (case a => exact rfl); (case e => exact rfl))))
local macro_rules | `(tactic| walk_at "rdm1") => `(tactic| (first
  | ((with_reducible refine rd_md ?c ?_); (case c => first | omega | decide); intro r r0 r1)
  | walk_at "rd1"))
local macro_rules | `(tactic| walk_at "rdm") => `(tactic| (repeat walk_at "rdm1"))
local macro_rules | `(tactic| walk_at "rd") => `(tactic| (repeat walk_at "rd1"))


local macro_rules | `(tactic| walk_at "hp") => `(tactic| (first
  | assumption
  | exact L2.upd_same
  | ((with_reducible refine SqT.of ?h); (case h => walk_at "hp"))
  | ((with_reducible refine SqL.of ?h); (case h => walk_at "hp"))
  | ((with_reducible refine Scr.sq ?h); (case h => walk_at "hp"))
  | ((with_reducible refine Bag.new ?h ?k); (case h => walk_at "hp"); (case k => assumption))
  | ((with_reducible refine Scr.new ?k ?h); (case k => assumption); (case h => walk_at "hp"))
  | ((with_reducible refine Scr.kp (b := ?bb) (H := ?hh) ?k ?g ?h); (case k => assumption); (case g => walk_at "hp"); (case h => walk_at "hp"))
  | ((with_reducible refine Bag.same (H := ?hh) ?k ?h); (case k => assumption); (case h => walk_at "hp"))
  | ((with_reducible refine Scr.same (H := ?hh) ?k ?h); (case k => assumption); (case h => walk_at "hp"))
  | ((with_reducible refine same_any (H := ?hh) ?k ?h); (case k => assumption); (case h => walk_at "hp"))
  | ((with_reducible refine new_any ?k ?h); (case k => assumption); (case h => walk_at "hp"))
  | ((with_reducible refine set_tup (ys := ?ys) ?k ?h); (case k => assumption); (case h => walk_at "hp"))
  | ((with_reducible refine Bag.put ?k ?h); (case k => assumption); (case h => walk_at "hp"))
  | ((with_reducible refine Kp.tup (b := ?bb) (H := ?hh) ?k ?g ?h); (case k => assumption); (case g => walk_at "hp"); (case h => walk_at "hp"))
  | ((with_reducible refine Kp.lst (b := ?bb) (H := ?hh) ?k ?g ?h); (case k => assumption); (case g => walk_at "hp"); (case h => walk_at "hp"))
  | ((with_reducible refine Bag.off (H := ?hh) ?h ?g); (case h => assumption); (case g => walk_at "hp"))
  | (with_reducible exact Kp.refl)
  | (with_reducible exact Kp.new (by assumption))))
local macro_rules | `(tactic| walk_at "dp") => `(tactic| (first
  | exact Dp.int _
  | exact Dp.bl _
  | exact Dp.non
  | exact Dp.str _
  | exact DpAll.nil
  | ((refine DpAll.cons (d := ?d) (ds := ?ds) ?h ?k); (case h => walk_at "dp"); (case k => walk_at "dp"))
  | ((refine Dp.lst (xs := ?xs) (ds := ?ds) ?h ?k); (case h => walk_at "hp"); (case k => walk_at "dp"))
  | ((refine Dp.tup (xs := ?xs) (ds := ?ds) ?h ?k); (case h => walk_at "hp"); (case k => walk_at "dp"))))
local macro_rules | `(tactic| walk_at "small") => `(tactic| first | decide +kernel | (simp only [sm, sms, sz, szs, Bool.and_true, Bool.and_eq_true, decide_eq_true_eq, and_true, true_and]; (first | done | omega | (repeat' constructor) <;> first | omega | decide +kernel)))
local macro_rules | `(tactic| walk_at "side") => `(tactic| (first
  | ((with_reducible show IntMulOk _ _); first | exact rd_mulB (by assumption) (by assumption) | (refine rd_mulok ?_; omega))
  | ((with_reducible show CDv _ _); exact rd_dvB _ (Int.ne_of_gt (by assumption)) (by assumption))
  | ((with_reducible show CDv _ _); refine rd_dvI _ ?_ ?_ <;> first | assumption | omega | decide)
  | ((with_reducible show CPow _ _); exact ⟨by decide, by decide, by first | decide | omega⟩)
  | omega
  | assumption
  | decide
  | (refine rd_mulB (m := 400) (n := 400) (Bd.lit ?_) (Bd.lit ?_) <;> decide +kernel)))
local macro_rules | `(tactic| walk_at "rd1") => `(tactic| (first
  | ((with_reducible refine rd_var (v := ?v) ?h ?_); (case h => exact rfl))
  | (with_reducible refine rd_c ?_)
  | (with_reducible refine rd_op ?_)
  | (with_reducible refine rd_cons ?_)
  | (with_reducible refine rd_nil ?_)
  | ((with_reducible refine rd_sxT (xs := ?xs) (v := ?v) ?h ?a ?_); (case h => walk_at "hp"); (case a => exact rfl))
  | ((with_reducible refine rd_sxL (xs := ?xs) (v := ?v) ?h ?a ?_); (case h => walk_at "hp"); (case a => exact rfl))
  | (with_reducible refine rd_I0 ?_)
  | ((with_reducible refine rd_I ?c ?_); (case c => walk_at "side"))
  | ((with_reducible refine rd_name (τ := ?t) ?e ?_); (case e => exact rfl))
  | (with_reducible refine rd_seq ?_)
  | (with_reducible refine rd_asg ?_)
  | (with_reducible refine rd_call ?_)
  | (with_reducible refine rd_CB ?_)
  | (with_reducible refine rd_tup ?_)
  | ((with_reducible refine rd_new ?h ?_); (case h => exact rfl))
  | (with_reducible refine rd_test ?_)
  | (with_reducible refine rd_bl ?_)
  | (with_reducible refine rd_U ?_)
  | (with_reducible refine rd_un ?_)
  | (with_reducible refine rd_neI ?_)
  | (with_reducible refine rd_eqI ?_)
  | (with_reducible refine rd_tpar ?_)
  | (with_reducible refine rd_lc ?_)
  | (with_reducible refine rd_iTup ?_)
  | (with_reducible refine rd_iLst ?_)
  | (with_reducible refine rd_iR1 ?_)
  | (with_reducible refine rd_BM ?_)
  | ((with_reducible refine rd_iTupA (xs := ?xs) ?h ?_); (case h => walk_at "hp"))
  | ((with_reducible refine rd_iLstA (xs := ?xs) ?h ?_); (case h => walk_at "hp"))
  | ((with_reducible refine rd_tyl (xs := ?xs) ?h ?_); (case h => walk_at "hp"))
  | ((with_reducible refine rd_app (xs := ?xs) ?h ?a ?_); (case h => walk_at "hp"); (case a => exact Nat.le_of_ble_eq_true rfl))
  | ((with_reducible refine rd_cat (xs := ?xs) (zs := ?zs) ?h ?k ?a ?_); (case h => walk_at "hp"); (case k => walk_at "hp"); (case a => exact Nat.le_of_ble_eq_true rfl))
  | ((with_reducible refine rd_rep (xs := ?xs) (ys := ?ys) ?h ?a ?b ?c ?_); (case h => walk_at "hp"); (case a => decide); (case b => exact Nat.le_of_ble_eq_true rfl); (case c => exact rfl))
  | (with_reducible refine rd_ret ?_)
  | (with_reducible refine rd_next ?_)
  | (with_reducible refine rd_drop ?_)
  | (with_reducible refine rd_ifS ?_)
  | (with_reducible refine rd_B ?_)
  | (with_reducible refine rd_not ?_)
  | (with_reducible refine rd_and ?_)
  | (with_reducible refine rd_or ?_)
  | (with_reducible refine rd_andV ?_)
  | (with_reducible refine rd_orV ?_)
  | (with_reducible refine rd_notV ?_)
  | (with_reducible refine rd_ifE ?_)
  | (with_reducible refine rd_lst ?_)
  | ((with_reducible refine rd_for1b ?h ?_); (case h => constructor <;> (repeat' split) <;> omega))
  | (with_reducible refine rd_one ?_)
  | (with_reducible refine rd_two ?_)
  | (with_reducible refine rd_int ?_)
  | (with_reducible refine rd_intB ?_)
  | (with_reducible refine rd_gcd ?_)
  | ((with_reducible refine rd_par (τ := ?t) ?e ?_); (case e => exact rfl))
  | (with_reducible refine rd_sub ?_)
  | (with_reducible refine rd_for1 ?_)
  | ((with_reducible refine rd_len (ys := ?ys) ?h ?_); (case h => walk_at "hp"))
  | ((with_reducible refine rd_lenTu (ys := ?ys) ?h ?_); (case h => walk_at "hp"))
  | ((with_reducible refine rd_repr (d := ?d) ?h ?a ?b ?c ?_); (case h => walk_at "dp"); (case a => walk_at "small"); (case b => walk_at "small"); (case c => simp only [PyData.depth, PyData.depthAll]; omega))
  | ((with_reducible refine rd_nsame ?h ?_); (case h => exact rfl))
  | ((with_reducible refine rd_same ?h ?_); (case h => exact rfl))
  | ((with_reducible refine rd_gtup (xs := ?xs) ?h ?a ?_); (case h => walk_at "hp"); (case a => exact rfl))
  | (with_reducible refine rd_gcons ?_)
  | (with_reducible refine rd_gnil ?_)
  | ((with_reducible refine rd_isiI (b := true) ?a ?_); (case a => decide +kernel))
  | ((with_reducible refine rd_isiI (b := false) ?a ?_); (case a => decide +kernel))
  | ((with_reducible refine rd_isiB (b := true) ?a ?_); (case a => decide +kernel))
  | ((with_reducible refine rd_isiB (b := false) ?a ?_); (case a => decide +kernel))
  | ((with_reducible refine rd_isiN (b := true) ?a ?_); (case a => decide +kernel))
  | ((with_reducible refine rd_isiN (b := false) ?a ?_); (case a => decide +kernel))
  | ((with_reducible refine rd_isiS (b := true) ?a ?_); (case a => decide +kernel))
  | ((with_reducible refine rd_isiS (b := false) ?a ?_); (case a => decide +kernel))
  | ((with_reducible refine rd_isiT (b := true) (xs := ?xs) ?h ?a ?_); (case a => decide +kernel); (case h => walk_at "hp"))
  | ((with_reducible refine rd_isiT (b := false) (xs := ?xs) ?h ?a ?_); (case a => decide +kernel); (case h => walk_at "hp"))
  | ((with_reducible refine rd_isiL (b := true) (xs := ?xs) ?h ?a ?_); (case a => decide +kernel); (case h => walk_at "hp"))
  | ((with_reducible refine rd_isiL (b := false) (xs := ?xs) ?h ?a ?_); (case a => decide +kernel); (case h => walk_at "hp"))
  | ((with_reducible refine rd_isi (t := ?t) (b := true) ?h ?a ?_); (case h => assumption); (case a => decide +kernel))
  | ((with_reducible refine rd_isi (t := ?t) (b := false) ?h ?a ?_); (case h => assumption); (case a => decide +kernel))
  | (with_reducible refine rd_chain ?_)
  | ((with_reducible refine rd_eqDs (d := ?d) ?h ?k ?s ?_); (case h => walk_at "dp"); (case k => walk_at "dp"); (case s => first | rfl | decide | simp [SeqAt.shaped]))
  | ((with_reducible refine rd_neDs (d := ?d) ?h ?k ?s ?_); (case h => walk_at "dp"); (case k => walk_at "dp"); (case s => first | rfl | decide | simp [SeqAt.shaped]))
  | ((with_reducible refine rd_setL (xs := ?xs) (ys := ?ys) (j := ?j) ?h ?a ?e ?_); (case h => walk_at "hp"); (case a => exact rfl); (case e => exact rfl))))
local macro_rules | `(tactic| walk_at "rdm1") => `(tactic| (first
  | ((with_reducible refine rd_md ?c ?_); (case c => first | omega | decide); intro r r0 r1)
  | walk_at "rd1"))
local macro_rules | `(tactic| walk_at "rdm") => `(tactic| (repeat walk_at "rdm1"))
local macro_rules | `(tactic| walk_at "rd") => `(tactic| (repeat walk_at "rd1"))

/-! ### the drawing -/
theorem prime_at {n : Int} (h0 : 0 ≤ n) (h : n < 7) : ∃ p, atI [V.int 2147483647, V.int 2147483629, V.int 2147483587, V.int 2147483579, V.int 2147483563, V.int 2147483549, V.int 2147483543] n = some (.int p) ∧ 0 < p ∧ p ≤ 2147483647 := by
  obtain ⟨p, e, m⟩ := pick_int (ns := [2147483647, 2147483629, 2147483587, 2147483579, 2147483563, 2147483549, 2147483543]) h0 h
  refine ⟨p, e, ?_⟩
  simp only [List.mem_cons, List.not_mem_nil, or_false] at m
  omega
theorem rd_prime {K : PySem.W.Frag} {H : Hp} {t : Addr} {i : Int} {Q : VK} (h : H t = some (.tup [V.int 2147483647, V.int 2147483629, V.int 2147483587, V.int 2147483579, V.int 2147483563, V.int 2147483549, V.int 2147483543]))
    (h0 : 0 ≤ i) (h1 : i < 7) (q : ∀ p : Int, 0 < p → p ≤ 2147483647 → Q (.int p) H) : rIx K (.ref t) (.int i) H Q := by
  obtain ⟨p, e, p0, p1⟩ := prime_at h0 h1
  exact rd_sxT (SqT.of h) e (q p p0 p1)
def sp__law_bag (K : PySem.W.Frag) : Sp := fun vs H Q _ => ∃ (a : Addr) (ns : List Int) (n : Int), vs = [.ref a, .int n] ∧ Scr K H a (ns.map V.int) ∧ ns.length ≤ 63 ∧ 0 ≤ n ∧ n ≤ 62 ∧
  ∀ b J, H b = none → Same H J → Bag b J → Q (.ref b) J
theorem ar__law_bag (K : PySem.W.Frag) : ∀ vs H Q E, sp__law_bag K vs H Q E → vs.length = 2 := by
  intro vs H Q E h
  obtain ⟨a, ns, n, rfl, _⟩ := h
  rfl
abbrev N__law_bag : List Str := ["_law_script", "_law_at", "_law_primes", "_law_cell", "_law_large", "_law_mixed"]
theorem sc__law_bag : FnScope N__law_bag ["_law_script", "_law_at"] (defScope S__law_bag) := ⟨rfl, rfl, rfl, by decide +kernel, rfl, by decide +kernel, by decide +kernel⟩
theorem ok__law_bag {P : Program} {w : World} {K : PySem.W.Frag} {mg : Str → Option Value} {base : Heap} {f : Addr} {fd : FuncData} (F : Fun K "_law_bag" "_law_bag" S__law_bag f fd) (m_abs : mg "abs" = none) (m_len : mg "len" = none) :
    FnG P w K mg base CX0 1 f fd ["_law_script", "_law_at"] (sp__law_bag K) := by
  refine Fun_okG F sc__law_bag (ar__law_bag K) (fun cdv A outer s H vs Q E hg hr h => ?_)
  obtain ⟨a, ns, n, rfl, hS, hl, n0, n1, q⟩ := h
  refine ⟨_, (pss_cons (ps_set (i := 2) sc__law_bag.nd rfl (Or.inl rfl) (pe_tup (pa_cons pe_int (pa_cons pe_int (pa_cons pe_int (pa_cons pe_int (pa_cons pe_int (pa_cons pe_int (pa_cons pe_int pa_nil)))))))))
    (pss_cons (ps_set (i := 3) sc__law_bag.nd rfl (Or.inl rfl) (pe_ifExp (pt_cmpR op_lt (pv 1) (pe_callB (id := "len") (lenK (K := K) rfl) (by rfl) m_len (by decide +kernel) (pa_cons (pv 0) pa_nil)) (nomark _)) (pe_ix (ixK (K := K) rfl) (pv 0) (pv 1) (fun _ _ => rfl)) pe_int))
    (pss_cons (ps_set (i := 4) sc__law_bag.nd rfl (Or.inl rfl) (pe_ifExp (pt_cmpR op_ge (pe_callB (id := "abs") call_abs (by rfl) m_abs (by decide +kernel) (pa_cons (pv 3) pa_nil)) (pe_op op_pow pe_int pe_int) (nomark _)) (pe_callB (id := "abs") call_abs (by rfl) m_abs (by decide +kernel) (pa_cons (pv 3) pa_nil)) pe_int))
    (pss_cons (ps_set (i := 5) sc__law_bag.nd rfl (Or.inl rfl) (pe_op op_modN (pe_op op_pow (pe_op op_add (pe_op op_add (pe_op op_modN (pv 3) pe_int) (pe_op op_ml pe_int (pv 1))) pe_int) pe_int) (pe_ix (ixK (K := K) rfl) (pv 2) (pe_op op_modN (pv 1) pe_int) (fun _ _ => rfl))))
    (pss_one (ps_ret (pe_lst (pa_cons (pv 4) (pa_cons (pe_op op_add (pe_op op_modN (pe_op op_ml (pv 5) (pe_op op_add (pe_op op_add (pe_op op_dv (pv 5) pe_int) (pe_op op_ml pe_int (pv 1))) pe_int)) (pe_ix (ixK (K := K) rfl) (pv 2) (pe_op op_modN (pe_op op_add (pv 1) pe_int) pe_int) (fun _ _ => rfl))) pe_int) pa_nil))))))))), ?_⟩
  walk_at "rd"
  intro t nt
  have hS2 : Scr K (upd H t (.tup [V.int 2147483647, V.int 2147483629, V.int 2147483587, V.int 2147483579, V.int 2147483563, V.int 2147483549, V.int 2147483543])) a (ns.map V.int) := by walk_at "hp"
  walk_at "rd"
  refine rd_if (fun c => ?_) (fun c => ?_)
  · rw [List.length_map] at c
    obtain ⟨v, hv, _⟩ := pick_int (ns := ns) n0 c
    walk_at "rd"
    refine rd_sxL hS2.sq hv ?_
    walk_at "rd"
    refine rd_if (fun c2 => ?_) (fun c2 => ?_)
    all_goals walk_at "rdm"
    all_goals refine rd_prime (by walk_at "hp") (by omega) (by omega) (fun p1 p1a p1b => ?_)
    all_goals walk_at "rdm"
    all_goals refine rd_prime (by walk_at "hp") (by omega) (by omega) (fun p2 p2a p2b => ?_)
    all_goals walk_at "rdm"
    all_goals intro p np
    all_goals exact q _ _ ((same_new nt).free np) ((same_new nt).trans (same_new np)) ⟨_, _, upd_same⟩
  · walk_at "rd"
    refine rd_if (fun c2 => ?_) (fun c2 => ?_)
    all_goals walk_at "rdm"
    all_goals refine rd_prime (by walk_at "hp") (by omega) (by omega) (fun p1 p1a p1b => ?_)
    all_goals walk_at "rdm"
    all_goals refine rd_prime (by walk_at "hp") (by omega) (by omega) (fun p2 p2a p2b => ?_)
    all_goals walk_at "rdm"
    all_goals intro p np
    all_goals exact q _ _ ((same_new nt).free np) ((same_new nt).trans (same_new np)) ⟨_, _, upd_same⟩
def sp__law_take (K : PySem.W.Frag) : Sp := fun vs H Q _ => ∃ (b : Addr) (n : Int), vs = [.ref b, .int n] ∧ Bag b H ∧ 0 < n ∧ n.natAbs < 2 ^ 400 ∧ ∀ (r : Int) J, 0 ≤ r → r < n → Kp b H J → Bag b J → Q (.int r) J
theorem ar__law_take (K : PySem.W.Frag) : ∀ vs H Q E, sp__law_take K vs H Q E → vs.length = 2 := by
  intro vs H Q E h
  obtain ⟨b, n, rfl, _⟩ := h
  rfl
abbrev N__law_take : List Str := ["_law_bag_here", "_law_size", "_law_digit"]
theorem sc__law_take : FnScope N__law_take ["_law_bag_here", "_law_size"] (defScope S__law_take) := ⟨rfl, rfl, rfl, by decide +kernel, rfl, by decide +kernel, by decide +kernel⟩
theorem ok__law_take {P : Program} {w : World} {K : PySem.W.Frag} {mg : Str → Option Value} {base : Heap} {f : Addr} {fd : FuncData} (F : Fun K "_law_take" "_law_take" S__law_take f fd) :
    FnG P w K mg base CX0 1 f fd ["_law_bag_here", "_law_size"] (sp__law_take K) := by
  refine Fun_okG F sc__law_take (ar__law_take K) (fun cdv A outer s H vs Q E hg hr h => ?_)
  obtain ⟨b, n, rfl, ⟨x, y, hb⟩, n0, n1, q⟩ := h
  refine ⟨_, (pss_cons (ps_if (pt_cmpR op_gt (pe_ix (ixK (K := K) rfl) (pv 0) pe_int (fun _ _ => rfl)) pe_int (nomark _)) (pss_cons (ps_set (i := 2) sc__law_take.nd rfl (Or.inl rfl) (pe_op op_modN (pe_ix (ixK (K := K) rfl) (pv 0) pe_int (fun _ _ => rfl)) (pv 1)))
    (pss_cons (ps_asg (pe_op op_dv (pe_ix (ixK (K := K) rfl) (pv 0) pe_int (fun _ _ => rfl)) (pv 1)) (pg_sub (pv 0) pe_int set_list))
    (pss_one (ps_ret (pv 2))))) pss_nil)
    (pss_cons (ps_asg (pe_op op_modN (pe_op op_ml (pe_ix (ixK (K := K) rfl) (pv 0) pe_int (fun _ _ => rfl)) pe_int) pe_int) (pg_sub (pv 0) pe_int set_list))
    (pss_one (ps_ret (pe_op op_modN (pe_op op_dv (pe_op op_modN (pe_op op_ml (pe_ix (ixK (K := K) rfl) (pv 0) pe_int (fun _ _ => rfl)) pe_int) pe_int) (pe_op op_pow pe_int pe_int)) (pv 1)))))), ?_⟩
  walk_at "rd"
  refine rd_if (fun c => ?_) (fun c => ?_)
  · walk_at "rd"
    exact q _ _ (fmod_rng n0).1 (fmod_rng n0).2 Kp.at ⟨_, _, upd_same⟩
  · walk_at "rd"
    exact q _ _ (fmod_rng n0).1 (fmod_rng n0).2 Kp.at ⟨_, _, upd_same⟩
def sp__law_part (K : PySem.W.Frag) : Sp := fun vs H Q _ => ∃ m n : Int, vs = [.int m, .int n] ∧ Q (.int (Int.gcd m n)) H
theorem ar__law_part (K : PySem.W.Frag) : ∀ vs H Q E, sp__law_part K vs H Q E → vs.length = 2 := by
  intro vs H Q E h
  obtain ⟨b, n, rfl, _⟩ := h
  rfl
abbrev N__law_part : List Str := ["_law_one", "_law_other"]
theorem sc__law_part : FnScope N__law_part ["_law_one", "_law_other"] (defScope S__law_part) := ⟨rfl, rfl, rfl, by decide +kernel, rfl, by decide +kernel, by decide +kernel⟩
theorem ok__law_part {P : Program} {w : World} {K : PySem.W.Frag} {mg : Str → Option Value} {base : Heap} {f : Addr} {fd : FuncData} (F : Fun K "_law_part" "_law_part" S__law_part f fd) (m_abs : mg "abs" = none) :
    FnG P w K mg base CX0 1 f fd ["_law_one", "_law_other"] (sp__law_part K) := by
  refine Fun_okG F sc__law_part (ar__law_part K) (fun cdv A outer s H vs Q E hg hr h => ?_)
  obtain ⟨m, n, rfl, q⟩ := h
  refine ⟨_, (pss_cons (ps_while PassesOwn.never (pt_cmpR op_ne (pv 1) pe_int (nomark _)) (pss_one (ps_par (i := 0) (j := 1) rfl sc__law_part.nd rfl rfl (by decide) rfl rfl (pa_cons (pv 1) (pa_cons (pe_op op_modN (pv 0) (pv 1)) pa_nil)) (by rfl))))
    (pss_one (ps_ret (pe_callB (id := "abs") call_abs (by rfl) m_abs (by decide +kernel) (pa_cons (pv 0) pa_nil))))), ?_⟩
  walk_at "rd"
  refine while_by (fun σ' H' => ∃ x y : Int, σ' = [some (.int x), some (.int y)] ∧ H' = H ∧ Int.gcd x y = Int.gcd m n) (fun σ' _ => msr σ') ⟨m, n, rfl, rfl, rfl⟩ (fun σ' H' w => ?_) fun σ' H' R R' f h => ?_
  · obtain ⟨x, y, rfl, rfl, e⟩ := w
    walk_at "rd"
    refine rd_ifn (fun c => ?_) (fun c => ?_)
    · walk_at "rd"
      exact ⟨⟨_, _, rfl, rfl, by rw [gcd_turn]; exact e⟩, fmod_abs c⟩
    · subst c
      walk_at "rd"
      have e2 : (if x < 0 then -x else x) = ((Int.gcd m n : Nat) : Int) := by
        rw [← e, Int.gcd_zero_right]
        split <;> omega
      rw [e2]
      exact q
  · obtain ⟨v, h1, h2, k, h3, h4⟩ := h
    exact ⟨v, h1, h2, k, h3, f _ _ h4⟩

def sp__law_lowest (K : PySem.W.Frag) : Sp := fun vs H Q _ => ∃ t u : Int, vs = [.int t, .int u] ∧ u ≠ 0 ∧ Bd 8000 u ∧ ∀ x y p J, IsLow t u x y → H p = none → Same H J → J p = some (.tup [.int x, .int y]) → Q (.ref p) J
theorem ar__law_lowest (K : PySem.W.Frag) : ∀ vs H Q E, sp__law_lowest K vs H Q E → vs.length = 2 := by
  intro vs H Q E h
  obtain ⟨b, n, rfl, _⟩ := h
  rfl
abbrev N__law_lowest : List Str := ["_law_top", "_law_under", "_law_part_here"]
theorem sc__law_lowest : FnScope N__law_lowest ["_law_top", "_law_under"] (defScope S__law_lowest) := ⟨rfl, rfl, rfl, by decide +kernel, rfl, by decide +kernel, by decide +kernel⟩
theorem ok__law_lowest {P : Program} {w : World} {K : PySem.W.Frag} {mg : Str → Option Value} {base : Heap} {f : Addr} {fd : FuncData} (F : Fun K "_law_lowest" "_law_lowest" S__law_lowest f fd) {f__law_part : Addr} {fd__law_part : FuncData} (C__law_part : Cal P w K mg base "_law_part" 1 f__law_part fd__law_part ["_law_one", "_law_other"] (sp__law_part K)) :
    FnG P w K mg base CX0 2 f fd ["_law_top", "_law_under"] (sp__law_lowest K) := by
  refine Fun_okG F sc__law_lowest (ar__law_lowest K) (fun cdv A outer s H vs Q E hg hr h => ?_)
  obtain ⟨t, u, rfl, u0, hu, q⟩ := h
  refine ⟨_, (pss_cons (ps_set (i := 2) sc__law_lowest.nd rfl (Or.inl rfl) (pe_c C__law_part hg (hr.mono (by decide)) rfl (pa_cons (pv 0) (pa_cons (pv 1) pa_nil))))
    (pss_cons (ps_if (pt_cmpR op_lt (pv 1) pe_int (nomark _)) (pss_one (ps_set (i := 2) sc__law_lowest.nd rfl (Or.inl rfl) (pe_un un_neg (pv 2)))) pss_nil)
    (pss_one (ps_ret (pe_tup (pa_cons (pe_op op_dv (pv 0) (pv 2)) (pa_cons (pe_op op_dv (pv 1) (pv 2)) pa_nil))))))), ?_⟩
  walk_at "rd"
  refine ⟨t, u, rfl, ?_⟩
  walk_at "rd"
  refine rd_if (fun c => ?_) (fun c => ?_)
  · walk_at "rd"
    obtain ⟨h1, h2, h3⟩ := low_at (t := t) u0 (s := -((Int.gcd t u : Nat) : Int)) (by rw [if_pos c])
    refine rd_I (rd_dvB _ h2 (hu.le h3)) ?_
    walk_at "rd"
    refine rd_I (rd_dvB _ h2 (hu.le h3)) ?_
    walk_at "rd"
    intro p np
    exact q _ _ _ _ h1 np (same_new np) upd_same
  · walk_at "rd"
    obtain ⟨h1, h2, h3⟩ := low_at (t := t) u0 (s := ((Int.gcd t u : Nat) : Int)) (by rw [if_neg c])
    refine rd_I (rd_dvB _ h2 (hu.le h3)) ?_
    walk_at "rd"
    refine rd_I (rd_dvB _ h2 (hu.le h3)) ?_
    walk_at "rd"
    intro p np
    exact q _ _ _ _ h1 np (same_new np) upd_same

local macro_rules | `(tactic| walk_at "hp_6") => `(tactic| (first
  | assumption
  | exact L2.upd_same
  | (with_reducible exact TupC.sq (by assumption) _)
  | ((with_reducible refine SqT.of ?h); (case h => walk_at "hp_6"))
  | ((with_reducible refine sqt_same (H := ?hh) ?k ?h); (case k => assumption); (case h => walk_at "hp_6"))
  | ((with_reducible refine sqt_bag (b := ?bb) (H := ?hh) ?k ?g ?h); (case k => assumption); (case g => walk_at "hp_6"); (case h => walk_at "hp_6"))
  | ((with_reducible refine sqt_pu (l := ?ll) (H := ?hh) ?k ?h); (case k => assumption); (case h => walk_at "hp_6"))
  | ((with_reducible refine sqt_new ?k ?h); (case k => assumption); (case h => walk_at "hp_6"))
  | ((with_reducible refine SqL.of ?h); (case h => walk_at "hp_6"))
  | ((with_reducible refine Scr.sq ?h); (case h => walk_at "hp_6"))
  | ((with_reducible refine Bag.new ?h ?k); (case h => walk_at "hp_6"); (case k => assumption))
  | ((with_reducible refine Scr.new ?k ?h); (case k => assumption); (case h => walk_at "hp_6"))
  | ((with_reducible refine Scr.kp (b := ?bb) (H := ?hh) ?k ?g ?h); (case k => assumption); (case g => walk_at "hp_6"); (case h => walk_at "hp_6"))
  | ((with_reducible refine Bag.same (H := ?hh) ?k ?h); (case k => assumption); (case h => walk_at "hp_6"))
  | ((with_reducible refine Scr.same (H := ?hh) ?k ?h); (case k => assumption); (case h => walk_at "hp_6"))
  | ((with_reducible refine same_any (H := ?hh) ?k ?h); (case k => assumption); (case h => walk_at "hp_6"))
  | ((with_reducible refine new_any ?k ?h); (case k => assumption); (case h => walk_at "hp_6"))
  | ((with_reducible refine set_tup (ys := ?ys) ?k ?h); (case k => assumption); (case h => walk_at "hp_6"))
  | ((with_reducible refine Bag.put ?k ?h); (case k => assumption); (case h => walk_at "hp_6"))
  | ((with_reducible refine Kp.tup (b := ?bb) (H := ?hh) ?k ?g ?h); (case k => assumption); (case g => walk_at "hp_6"); (case h => walk_at "hp_6"))
  | ((with_reducible refine Pu.bag (l := ?ll) (H := ?hh) ?k ?n ?h); (case k => assumption); (case n => walk_at "hp_6"); (case h => walk_at "hp_6"))
  | ((with_reducible refine Pu.scr (l := ?ll) (H := ?hh) ?k ?h); (case k => assumption); (case h => walk_at "hp_6"))
  | ((with_reducible refine Pu.tup (l := ?ll) (H := ?hh) ?k ?h); (case k => assumption); (case h => walk_at "hp_6"))
  | ((with_reducible refine Pu.lst (l := ?ll) (H := ?hh) ?k ?n ?h); (case k => assumption); (case n => walk_at "hp_6"); (case h => walk_at "hp_6"))
  | ((with_reducible refine Kp.lst (b := ?bb) (H := ?hh) ?k ?g ?h); (case k => assumption); (case g => walk_at "hp_6"); (case h => walk_at "hp_6"))
  | ((with_reducible refine Bag.off (H := ?hh) ?h ?g); (case h => assumption); (case g => walk_at "hp_6"))
  | (with_reducible exact Kp.refl)
  | (with_reducible exact Kp.new (by assumption))))
local macro_rules | `(tactic| walk_at "dp_6") => `(tactic| (first
  | exact Dp.int _
  | exact Dp.bl _
  | exact Dp.non
  | exact Dp.str _
  | exact DpAll.nil
  | ((refine DpAll.cons (d := ?d) (ds := ?ds) ?h ?k); (case h => walk_at "dp_6"); (case k => walk_at "dp_6"))
  | ((refine Dp.lst (xs := ?xs) (ds := ?ds) ?h ?k); (case h => walk_at "hp_6"); (case k => walk_at "dp_6"))
  | ((refine Dp.tup (xs := ?xs) (ds := ?ds) ?h ?k); (case h => walk_at "hp_6"); (case k => walk_at "dp_6"))))
local macro_rules | `(tactic| walk_at "small_6") => `(tactic| first | decide +kernel | (simp only [sm, sms, sz, szs, Bool.and_true, Bool.and_eq_true, decide_eq_true_eq, and_true, true_and]; (first | done | omega | (repeat' constructor) <;> first | omega | decide +kernel)))
local macro_rules | `(tactic| walk_at "side_6") => `(tactic| (first
  | ((with_reducible show IntMulOk _ _); first | exact rd_mulB (by assumption) (by assumption) | (refine rd_mulok ?_; omega))
  | ((with_reducible show CDv _ _); exact rd_dvB _ (Int.ne_of_gt (by assumption)) (by assumption))
  | ((with_reducible show CDv _ _); refine rd_dvI _ ?_ ?_ <;> first | assumption | omega | decide)
  | ((with_reducible show CPow _ _); exact ⟨by decide, by decide, by first | decide | omega⟩)
  | omega
  | assumption
  | decide
  | (refine rd_mulB (m := 400) (n := 400) (Bd.lit ?_) (Bd.lit ?_) <;> decide +kernel)))
local macro_rules | `(tactic| walk_at "rd1_6") => `(tactic| (first
  | ((with_reducible refine rd_var (v := ?v) ?h ?_); (case h => exact rfl))
  | (with_reducible refine rd_c ?_)
  | (with_reducible refine rd_op ?_)
  | (with_reducible refine rd_cons ?_)
  | (with_reducible refine rd_nil ?_)
  | ((with_reducible refine rd_sxT (xs := ?xs) (v := ?v) ?h ?a ?_); (case h => walk_at "hp_6"); (case a => exact rfl))
  | ((with_reducible refine rd_sxL (xs := ?xs) (v := ?v) ?h ?a ?_); (case h => walk_at "hp_6"); (case a => exact rfl))
  | (with_reducible refine rd_I0 ?_)
  | ((with_reducible refine rd_I ?c ?_); (case c => walk_at "side_6"))
  | ((with_reducible refine rd_name (τ := ?t) ?e ?_); (case e => exact rfl))
  | (with_reducible refine rd_seq ?_)
  | (with_reducible refine rd_asg ?_)
  | (with_reducible refine rd_asg2 ?_)
  | ((with_reducible refine rd_aug (a := ?a) ?h ?_); (case h => exact rfl))
  | ((with_reducible refine rd_ipI (a := ?a) (b := ?b) ?_))
  | (with_reducible refine rd_call ?_)
  | (with_reducible refine rd_callK ?_)
  | ((with_reducible refine rd_kwl ?h ?_); (case h => exact rfl))
  | (with_reducible refine rd_CB ?_)
  | (with_reducible refine rd_tupK ?_)
  | ((with_reducible refine rd_kT ?h ?_); (case h => exact rfl); intro p J np sJ eJ)
  | ((with_reducible refine rd_new ?h ?_); (case h => exact rfl))
  | (with_reducible refine rd_test ?_)
  | (with_reducible refine rd_bl ?_)
  | (with_reducible refine rd_U ?_)
  | (with_reducible refine rd_un ?_)
  | (with_reducible refine rd_neI ?_)
  | (with_reducible refine rd_eqI ?_)
  | (with_reducible refine rd_tpar ?_)
  | (with_reducible refine rd_tpar3 ?_)
  | (with_reducible refine rd_forL ?_)
  | ((with_reducible refine rd_par3 (τ := ?t) ?e ?_); (case e => exact rfl))
  | (with_reducible refine rd_sl ?_)
  | (with_reducible refine rd_part ?_)
  | (with_reducible refine rd_partI ?_)
  | (with_reducible refine rd_nopart ?_)
  | ((with_reducible refine rd_slL (xs := ?xs) (ys := ?ys) ?h ?e ?_); (case h => walk_at "hp_6"); (case e => exact rfl); intro p J np sJ eJ)
  | (with_reducible refine rd_zip ?_)
  | ((with_reducible refine rd_zipA (xs := ?xs) (ys := ?ys) ?h ?k ?_); (case h => walk_at "hp_6"); (case k => walk_at "hp_6"))
  | ((with_reducible refine rd_isiQ (b := true) (xs := ?xs) ?h ?a ?_); (case a => decide +kernel); (case h => walk_at "hp_6"))
  | ((with_reducible refine rd_isiQ (b := false) (xs := ?xs) ?h ?a ?_); (case a => decide +kernel); (case h => walk_at "hp_6"))
  | (with_reducible refine rd_lc ?_)
  | (with_reducible refine rd_iTup ?_)
  | (with_reducible refine rd_iLst ?_)
  | (with_reducible refine rd_iR1 ?_)
  | (with_reducible refine rd_BM ?_)
  | ((with_reducible refine rd_iTupA (xs := ?xs) ?h ?_); (case h => walk_at "hp_6"))
  | ((with_reducible refine rd_iLstA (xs := ?xs) ?h ?_); (case h => walk_at "hp_6"))
  | ((with_reducible refine rd_tyl (xs := ?xs) ?h ?_); (case h => walk_at "hp_6"))
  | ((with_reducible refine rd_appK (xs := ?xs) ?h ?a ?_); (case h => walk_at "hp_6"); (case a => exact Nat.le_of_ble_eq_true rfl); intro J pJ eJ)
  | ((with_reducible refine rd_catK (xs := ?xs) (zs := ?zs) ?h ?k ?a ?_); (case h => walk_at "hp_6"); (case k => walk_at "hp_6"); (case a => exact Nat.le_of_ble_eq_true rfl); intro p J np sJ eJ)
  | ((with_reducible refine rd_repK (xs := ?xs) (ys := ?ys) ?h ?a ?b ?c ?_); (case h => walk_at "hp_6"); (case a => decide); (case b => exact Nat.le_of_ble_eq_true rfl); (case c => exact rfl); intro p J np sJ eJ)
  | (with_reducible refine rd_ret ?_)
  | (with_reducible refine rd_next ?_)
  | (with_reducible refine rd_drop ?_)
  | (with_reducible refine rd_ifS ?_)
  | (with_reducible refine rd_B ?_)
  | (with_reducible refine rd_not ?_)
  | (with_reducible refine rd_and ?_)
  | (with_reducible refine rd_or ?_)
  | (with_reducible refine rd_andV ?_)
  | (with_reducible refine rd_orV ?_)
  | (with_reducible refine rd_notV ?_)
  | (with_reducible refine rd_ifE ?_)
  | (with_reducible refine rd_lstK ?_)
  | ((with_reducible refine rd_kL ?h ?_); (case h => exact rfl); intro p J np sJ eJ)
  | ((with_reducible refine rd_for1b ?h ?_); (case h => constructor <;> (repeat' split) <;> omega))
  | (with_reducible refine rd_one ?_)
  | (with_reducible refine rd_two ?_)
  | (with_reducible refine rd_int ?_)
  | (with_reducible refine rd_intB ?_)
  | (with_reducible refine rd_gcd ?_)
  | ((with_reducible refine rd_par (τ := ?t) ?e ?_); (case e => exact rfl))
  | (with_reducible refine rd_sub ?_)
  | (with_reducible refine rd_for1 ?_)
  | ((with_reducible refine rd_len (ys := ?ys) ?h ?_); (case h => walk_at "hp_6"))
  | ((with_reducible refine rd_lenTu (ys := ?ys) ?h ?_); (case h => walk_at "hp_6"))
  | ((with_reducible refine rd_repr (d := ?d) ?h ?a ?b ?c ?_); (case h => walk_at "dp_6"); (case a => walk_at "small_6"); (case b => walk_at "small_6"); (case c => simp only [PyData.depth, PyData.depthAll]; omega))
  | ((with_reducible refine rd_nsame ?h ?_); (case h => exact rfl))
  | ((with_reducible refine rd_same ?h ?_); (case h => exact rfl))
  | ((with_reducible refine rd_gtup (xs := ?xs) ?h ?a ?_); (case h => walk_at "hp_6"); (case a => exact rfl))
  | (with_reducible refine rd_gcons ?_)
  | (with_reducible refine rd_gnil ?_)
  | ((with_reducible refine rd_isiI (b := true) ?a ?_); (case a => decide +kernel))
  | ((with_reducible refine rd_isiI (b := false) ?a ?_); (case a => decide +kernel))
  | ((with_reducible refine rd_isiB (b := true) ?a ?_); (case a => decide +kernel))
  | ((with_reducible refine rd_isiB (b := false) ?a ?_); (case a => decide +kernel))
  | ((with_reducible refine rd_isiN (b := true) ?a ?_); (case a => decide +kernel))
  | ((with_reducible refine rd_isiN (b := false) ?a ?_); (case a => decide +kernel))
  | ((with_reducible refine rd_isiS (b := true) ?a ?_); (case a => decide +kernel))
  | ((with_reducible refine rd_isiS (b := false) ?a ?_); (case a => decide +kernel))
  | ((with_reducible refine rd_isiT (b := true) (xs := ?xs) ?h ?a ?_); (case a => decide +kernel); (case h => walk_at "hp_6"))
  | ((with_reducible refine rd_isiT (b := false) (xs := ?xs) ?h ?a ?_); (case a => decide +kernel); (case h => walk_at "hp_6"))
  | ((with_reducible refine rd_isiL (b := true) (xs := ?xs) ?h ?a ?_); (case a => decide +kernel); (case h => walk_at "hp_6"))
  | ((with_reducible refine rd_isiL (b := false) (xs := ?xs) ?h ?a ?_); (case a => decide +kernel); (case h => walk_at "hp_6"))
  | ((with_reducible refine rd_isi (t := ?t) (b := true) ?h ?a ?_); (case h => assumption); (case a => decide +kernel))
  | ((with_reducible refine rd_isi (t := ?t) (b := false) ?h ?a ?_); (case h => assumption); (case a => decide +kernel))
  | (with_reducible refine rd_chain ?_)
  | ((with_reducible refine rd_eqR (x := ?x) (y := ?y) (u := ?u) (v := ?v) ?h ?k ?_); (case h => walk_at "hp_6"); (case k => walk_at "hp_6"))
  | ((with_reducible refine rd_eqDs (d := ?d) ?h ?k ?s ?_); (case h => walk_at "dp_6"); (case k => walk_at "dp_6"); (case s => first | rfl | decide | simp [SeqAt.shaped]))
  | ((with_reducible refine rd_neDs (d := ?d) ?h ?k ?s ?_); (case h => walk_at "dp_6"); (case k => walk_at "dp_6"); (case s => first | rfl | decide | simp [SeqAt.shaped]))
  | ((with_reducible refine rd_setL (xs := ?xs) (ys := ?ys) (j := ?j) ?h ?a ?e ?_); (case h => walk_at "hp_6"); (case a => exact rfl); (case e => exact rfl))))
local macro_rules | `(tactic| walk_at "rdm1_6") => `(tactic| (first
  | ((with_reducible refine rd_md ?c ?_); (case c => first | omega | decide); intro r r0 r1)
  | walk_at "rd1_6"))
local macro_rules | `(tactic| walk_at "rdm_6") => `(tactic| (repeat walk_at "rdm1_6"))
local macro_rules | `(tactic| walk_at "rd_6") => `(tactic| (repeat walk_at "rd1_6"))
local macro_rules | `(tactic| walk_at "kp_6") => `(tactic| (first
  | exact Kp.refl
  | assumption
  | ((refine Kp.trans (J := ?m) ?a ?b); (case b => first | assumption | exact Kp.of (by assumption)); (case a => walk_at "kp_6"))))

/-! ### BadText -/
def sp_BadText___init__ (K : PySem.W.Frag) : Sp := fun vs H Q _ => ∃ (a C : Addr) (n : Int), vs = [.ref a, .int n] ∧ OexC K C ∧ PySem.W.findIn K (.ref C) "place" = some none ∧ 0 ≤ n ∧ n ≤ 9 ∧ H a = some (exo a C none) ∧
  ∀ d, H d = none → d ≠ a → Q .non (upd (upd H d (exd d [("place", .int n)])) a (exo a C (some d)))
theorem ar_BadText___init__ (K : PySem.W.Frag) : ∀ vs H Q E, sp_BadText___init__ K vs H Q E → vs.length = 2 := by
  intro vs H Q E h
  obtain ⟨a, C, n, rfl, _⟩ := h
  rfl
abbrev N_BadText___init__ : List Str := ["self", "place"]
theorem sc_BadText___init__ : FnScope N_BadText___init__ ["self", "place"] (defScope S_BadText___init__) := ⟨rfl, rfl, rfl, by decide +kernel, rfl, by decide +kernel, by decide +kernel⟩
theorem ok_BadText___init__ {P : Program} {w : World} {K : PySem.W.Frag} {mg : Str → Option Value} {base : Heap} {f : Addr} {fd : FuncData} (F : Fun K "__init__" "BadText.__init__" S_BadText___init__ f fd) {D_CutError : Addr} (G_CutError : ExcB0 K mg "CutError" D_CutError) :
    FnOk P w K mg base CX0 1 f fd ["self", "place"] (sp_BadText___init__ K) := by
  refine F.ok sc_BadText___init__ (ar_BadText___init__ K) (fun cdv A outer s H vs Q E hr h => ?_)
  obtain ⟨a, C, n, rfl, hO, hp, n0, n9, ha, q⟩ := h
  refine ⟨_, (pss_cons (ps_expr (pe_cinit G_CutError.i rfl G_CutError.gC (pa_cons (pv 0) (pa_cons (pe_joined (.cons pe_str (.cons (pe_fmt (pv 1)) (.cons pe_str .nil)))) pa_nil))))
    (pss_one (ps_ost (pv 0) (pv 1)))), ?_⟩
  have ln : ((toString n : Str)).length ≤ 30 := by
    have h : ∀ m : Nat, m ≤ 9 → ((toString (m : Int) : Str)).length ≤ 30 := by decide +kernel
    have := h n.toNat (by omega)
    rwa [Int.toNat_of_nonneg n0] at this
  have sl := sizeLine_eq
  walk_at "rd_6"
  refine rd_veI ?_
  walk_at "rd_6"
  have l1 : (Str.empty ++ ("no text of an item: word " : Str)).length ≤ 30 := by decide +kernel
  have l3 : (" is wrong" : Str).length ≤ 30 := by decide +kernel
  have l2 : (Str.empty ++ ("no text of an item: word " : Str) ++ (toString n : Str)).length ≤ 60 := by rw [Str.length_append]; omega
  have l4 : (Str.empty ++ ("no text of an item: word " : Str) ++ (toString n : Str) ++ (" is wrong" : Str)).length ≤ 90 := by rw [Str.length_append]; omega
  refine rd_js ?_
  walk_at "rd_6"
  refine ⟨_, rfl, by omega, ?_⟩
  refine rd_js ?_
  refine rd_fmtI ?_ (mono := var_mono)
  walk_at "rd_6"
  refine ⟨?_, ?_⟩
  · have : n.natAbs ≤ 9 := by omega
    exact Nat.lt_of_le_of_lt (Nat.log2_le_self _) (by omega)
  refine ⟨_, rfl, by omega, ?_⟩
  refine rd_js ?_
  walk_at "rd_6"
  refine ⟨_, rfl, by omega, ?_⟩
  refine rd_js0 ?_
  walk_at "rd_6"
  refine ⟨a, C, _, rfl, (by show 1 ≤ 1000; decide), hO, ha, ?_⟩
  refine rd_ost0 ?_ var_mono var_mono
  walk_at "rd_6"
  exact ⟨a, C, rfl, hO, hp, ha, q⟩

/-! ### is_int, is_ratio -/
def IsTy (K : PySem.W.Frag) (H : Hp) (v : V) (t : String) : Prop := TyX K H v (.type t) ∧ (t = "NoneType" ∨ t = "bool" ∨ t = "int" ∨ t = "str" ∨ t = "list" ∨ t = "tuple")
def sp_is_int (K : PySem.W.Frag) : Sp := fun vs H Q _ => ∃ v t, vs = [v] ∧ IsTy K H v t ∧ Q (.bl (decide (t = "int"))) H
theorem ar_is_int (K : PySem.W.Frag) : ∀ vs H Q E, sp_is_int K vs H Q E → vs.length = 1 := by
  intro vs H Q E h
  obtain ⟨v, t, rfl, _⟩ := h
  rfl
abbrev N_is_int : List Str := ["thing"]
theorem sc_is_int : FnScope N_is_int ["thing"] (defScope S_is_int) := ⟨rfl, rfl, rfl, by decide +kernel, rfl, by decide +kernel, by decide +kernel⟩
theorem ok_is_int {P : Program} {w : World} {K : PySem.W.Frag} {mg : Str → Option Value} {base : Heap} {f : Addr} {fd : FuncData} (F : Fun K "is_int" "is_int" S_is_int f fd) (m_isinstance : mg "isinstance" = none) (m_bool : mg "bool" = none) (m_int : mg "int" = none) :
    FnG P w K mg base CX0 1 f fd ["thing"] (sp_is_int K) := by
  refine Fun_okG F sc_is_int (ar_is_int K) (fun cdv A outer s H vs Q E hg hr h => ?_)
  obtain ⟨v, t, rfl, ⟨ty, ht⟩, q⟩ := h
  refine ⟨_, (pss_one (ps_ret (pe_and (pe_callB (id := "isinstance") (isiK (K := K) rfl) (by rfl) m_isinstance (by decide +kernel) (pa_cons (pv 0) (pa_cons (pe_bltn (v := V.ty "int") (u := Value.type "int") (by rfl) m_int (by decide +kernel) rfl) pa_nil))) (pe_one (pe_not (pe_callB (id := "isinstance") (isiK (K := K) rfl) (by rfl) m_isinstance (by decide +kernel) (pa_cons (pv 0) (pa_cons (pe_bltn (v := V.ty "bool") (u := Value.type "bool") (by rfl) m_bool (by decide +kernel) rfl) pa_nil)))))))), ?_⟩
  rcases ht with rfl | rfl | rfl | rfl | rfl | rfl
  · walk_at "rd_6"
    refine iteF ?_
    exact q
  · walk_at "rd_6"
    refine iteT ?_
    walk_at "rd_6"
    exact q
  · walk_at "rd_6"
    refine iteT ?_
    walk_at "rd_6"
    exact q
  · walk_at "rd_6"
    refine iteF ?_
    exact q
  · walk_at "rd_6"
    refine iteF ?_
    exact q
  · walk_at "rd_6"
    refine iteF ?_
    exact q

def sp_is_ratio (K : PySem.W.Frag) : Sp := fun vs H Q _ => ∃ v t b, vs = [v] ∧ ThAt K b H v t ∧ Q (.bl (isRat t)) H
theorem ar_is_ratio (K : PySem.W.Frag) : ∀ vs H Q E, sp_is_ratio K vs H Q E → vs.length = 1 := by
  intro vs H Q E h
  obtain ⟨v, t, b, rfl, _⟩ := h
  rfl
abbrev N_is_ratio : List Str := ["thing", "top", "under"]
theorem sc_is_ratio : FnScope N_is_ratio ["thing"] (defScope S_is_ratio) := ⟨rfl, rfl, rfl, by decide +kernel, rfl, by decide +kernel, by decide +kernel⟩
theorem ok_is_ratio {P : Program} {w : World} {K : PySem.W.Frag} {mg : Str → Option Value} {base : Heap} {f : Addr} {fd : FuncData} (F : Fun K "is_ratio" "is_ratio" S_is_ratio f fd) {f_is_int : Addr} {fd_is_int : FuncData} (C_is_int : Cal P w K mg base "is_int" 1 f_is_int fd_is_int ["thing"] (sp_is_int K)) (c_gcd : mg "gcd" = some (.builtin "math.gcd")) (m_len : mg "len" = none) (m_isinstance : mg "isinstance" = none) (m_tuple : mg "tuple" = none) :
    FnG P w K mg base CX0 2 f fd ["thing"] (sp_is_ratio K) := by
  refine Fun_okG F sc_is_ratio (ar_is_ratio K) (fun cdv A outer s H vs Q E hg hr h => ?_)
  obtain ⟨v, t, b, rfl, hv, q⟩ := h
  refine ⟨_, (pss_cons (ps_if (pt_not (PW.pt (pw_and (pt_val (pe_callB (id := "isinstance") (isiK (K := K) rfl) (by rfl) m_isinstance (by decide +kernel) (pa_cons (pv 0) (pa_cons (pe_bltn (v := V.ty "tuple") (u := Value.type "tuple") (by rfl) m_tuple (by decide +kernel) rfl) pa_nil)))) (pw_and1 (pt_cmpR op_eq (pe_callB (id := "len") (lenK (K := K) rfl) (by rfl) m_len (by decide +kernel) (pa_cons (pv 0) pa_nil)) pe_int (nomark _)))))) (pss_one (ps_ret pe_bl)) pss_nil)
    (pss_cons (ps_asg (pv 0) (pg_tup rfl (pgs_cons (pg_name (i := 1) sc_is_ratio.nd rfl (Or.inl rfl)) (pgs_cons (pg_name (i := 2) sc_is_ratio.nd rfl (Or.inl rfl)) pgs_nil))))
    (pss_cons (ps_if (pt_not (PW.pt (pw_and (pt_val (pe_c C_is_int hg (hr.mono (by decide)) rfl (pa_cons (pv 1) pa_nil))) (pw_and1 (pt_val (pe_c C_is_int hg (hr.mono (by decide)) rfl (pa_cons (pv 2) pa_nil))))))) (pss_one (ps_ret pe_bl)) pss_nil)
    (pss_one (ps_ret (pe_and (pe_cmpR op_gt (pv 2) pe_int (nomark _)) (pe_one (pe_cmpR op_eq (pe_callBfun cr_gcd rfl c_gcd (pa_cons (pv 1) (pa_cons (pv 2) pa_nil))) pe_int (nomark _))))))))), ?_⟩
  cases hv with
  | non =>
    walk_at "rd_6"
    refine iteF ?_
    refine iteT ?_
    walk_at "rd_6"
    exact q
  | bl c =>
    walk_at "rd_6"
    refine iteF ?_
    refine iteT ?_
    walk_at "rd_6"
    exact q
  | int i hi =>
    walk_at "rd_6"
    refine iteF ?_
    refine iteT ?_
    walk_at "rd_6"
    exact q
  | str x =>
    walk_at "rd_6"
    refine iteF ?_
    refine iteT ?_
    walk_at "rd_6"
    exact q
  | lst n e k =>
    walk_at "rd_6"
    refine iteF ?_
    refine iteT ?_
    walk_at "rd_6"
    exact q
  | @tup a xs ts e k =>
    by_cases c : xs.length = 2
    · cases k with
      | nil => simp at c
      | @cons u us t1 _ h1 k =>
        cases k with
        | nil => simp at c
        | @cons w ws t2 _ h2 k =>
          cases k with
          | cons _ _ => simp at c
          | nil =>
            walk_at "rd_6"
            refine iteT ?_
            walk_at "rd_6"
            refine iteF ?_
            walk_at "rd_6"
            refine ⟨u, tyN t1, rfl, ⟨h1.ty, tyN_in t1⟩, ?_⟩
            walk_at "rd_6"
            by_cases i1 : tyN t1 = "int"
            · rw [decide_eq_true i1]
              refine iteT ?_
              walk_at "rd_6"
              refine ⟨w, tyN t2, rfl, ⟨h2.ty, tyN_in t2⟩, ?_⟩
              walk_at "rd_6"
              by_cases i2 : tyN t2 = "int"
              · rw [decide_eq_true i2]
                obtain ⟨x, rfl⟩ := tyN_int.mp i1
                obtain ⟨y, rfl⟩ := tyN_int.mp i2
                cases h1
                cases h2
                refine iteF ?_
                rw [isRat_int] at q
                walk_at "rd_6"
                refine rd_if (fun c => ?_) (fun c => ?_)
                · walk_at "rd_6"
                  have e : (decide (((Nat.gcd x.natAbs y.natAbs : Nat) : Int) = 1)) = (decide (0 < y) && decide (Int.gcd x y = 1)) := by
                    rw [decide_eq_true c, Bool.true_and]
                    exact decide_eq_decide.mpr (by show ((Int.gcd x y : Nat) : Int) = 1 ↔ _; omega)
                  rw [e]
                  exact q
                · rw [decide_eq_false c, Bool.false_and] at q
                  exact q
              · rw [decide_eq_false i2]
                rw [isRat_two fun z => i2 z.2] at q
                refine iteT ?_
                walk_at "rd_6"
                exact q
            · rw [decide_eq_false i1]
              rw [isRat_two fun z => i1 z.1] at q
              refine iteF ?_
              refine iteT ?_
              walk_at "rd_6"
              exact q
    · have lk := k.len
      rw [isRat_len (by omega)] at q
      walk_at "rd_6"
      refine iteT ?_
      walk_at "rd_6"
      rw [decide_eq_false (show ¬ ((xs.length : Int) = 2) by omega)]
      refine iteT ?_
      walk_at "rd_6"
      exact q

/-! ### any thing looked at as an item -/
def dayT : Th → Bool
  | .int d => decide (0 ≤ d ∧ d ≤ 10 ^ 30)
  | _ => false
def manyT (f : Int) : Th → Bool
  | .int n => decide (1 ≤ n ∧ n ≤ 10 ^ 30 - f)
  | _ => false
def amT (t : Th) : Bool := match asRat t with
  | some (x, y) => decide (-1000000 ≤ x ∧ x ≤ 1000000 ∧ y ≤ 1000000)
  | none => false
def amsT : Th → Bool
  | .tup ts => decide (1 ≤ ts.length ∧ ts.length ≤ 4) && ts.all amT
  | _ => false
def lastT (en : Bool) (t : Th) : Bool := if en then amsT t else decide (tyN t = "int")
def restT (en : Bool) (f m l : Th) : Option Nat := match f with
  | .int d => if dayT (.int d) then (if manyT d m then (if lastT en l then none else some 3) else some 2) else some 1
  | _ => some 1
def wrongT : Th → Option Nat
  | .tup [.str s, f, m, l] => if s = "entry" then restT true f m l else if s = "statement" then restT false f m l else some 0
  | _ => some 0
def sp_is_day (K : PySem.W.Frag) : Sp := fun vs H Q _ => ∃ v t b, vs = [v] ∧ ThAt K b H v t ∧ Q (.bl (dayT t)) H
theorem ar_is_day (K : PySem.W.Frag) : ∀ vs H Q E, sp_is_day K vs H Q E → vs.length = 1 := by
  intro vs H Q E h
  obtain ⟨d, _, _, rfl, _⟩ := h
  rfl
abbrev N_is_day : List Str := ["thing"]
theorem sc_is_day : FnScope N_is_day ["thing"] (defScope S_is_day) := ⟨rfl, rfl, rfl, by decide +kernel, rfl, by decide +kernel, by decide +kernel⟩
theorem ok_is_day {P : Program} {w : World} {K : PySem.W.Frag} {mg : Str → Option Value} {base : Heap} {f : Addr} {fd : FuncData} (F : Fun K "is_day" "is_day" S_is_day f fd) {f_is_int : Addr} {fd_is_int : FuncData} (C_is_int : Cal P w K mg base "is_int" 1 f_is_int fd_is_int ["thing"] (sp_is_int K)) {t_LAST_DAY : Nat} (c_LAST_DAY : mg "LAST_DAY" = some (.int 1000000000000000000000000000000 t_LAST_DAY)) :
    FnG P w K mg base CX0 2 f fd ["thing"] (sp_is_day K) := by
  refine Fun_okG F sc_is_day (ar_is_day K) (fun cdv A outer s H vs Q E hg hr h => ?_)
  obtain ⟨v, t, b, rfl, hv, q⟩ := h
  refine ⟨_, (pss_one (ps_ret (pe_and (pe_c C_is_int hg (hr.mono (by decide)) rfl (pa_cons (pv 0) pa_nil)) (pe_one (pe_chain op_le op_le pe_int (pv 0) (pe_glob (v := V.int 1000000000000000000000000000000) rfl c_LAST_DAY ⟨_, rfl⟩)))))), ?_⟩
  walk_at "rd_6"
  refine ⟨v, tyN t, rfl, ⟨hv.ty, tyN_in t⟩, ?_⟩
  walk_at "rd_6"
  by_cases c : tyN t = "int"
  · obtain ⟨d, rfl⟩ := tyN_int.mp c
    cases hv
    refine iteT ?_
    walk_at "rd_6"
    refine rd_if (fun c => ?_) (fun c => ?_)
    · walk_at "rd_6"
      have e : dayT (.int d) = decide (d ≤ 10 ^ 30) := by simp [dayT, c]
      rw [e] at q
      exact q
    · have e : dayT (.int d) = false := by simp [dayT]; omega
      rw [e] at q
      exact q
  · rw [decide_eq_false c]
    refine iteF ?_
    have e : dayT t = false := by
      cases t <;> first | rfl | exact absurd rfl c
    rw [e] at q
    exact q
def sp__is_many (K : PySem.W.Frag) : Sp := fun vs H Q _ => ∃ v t b d, vs = [v, .int d] ∧ ThAt K b H v t ∧ Q (.bl (manyT d t)) H
theorem ar__is_many (K : PySem.W.Frag) : ∀ vs H Q E, sp__is_many K vs H Q E → vs.length = 2 := by
  intro vs H Q E h
  obtain ⟨v, _, _, _, rfl, _⟩ := h
  rfl
abbrev N__is_many : List Str := ["thing", "first"]
theorem sc__is_many : FnScope N__is_many ["thing", "first"] (defScope S__is_many) := ⟨rfl, rfl, rfl, by decide +kernel, rfl, by decide +kernel, by decide +kernel⟩
theorem ok__is_many {P : Program} {w : World} {K : PySem.W.Frag} {mg : Str → Option Value} {base : Heap} {f : Addr} {fd : FuncData} (F : Fun K "_is_many" "_is_many" S__is_many f fd) {f_is_int : Addr} {fd_is_int : FuncData} (C_is_int : Cal P w K mg base "is_int" 1 f_is_int fd_is_int ["thing"] (sp_is_int K)) {t_LAST_DAY : Nat} (c_LAST_DAY : mg "LAST_DAY" = some (.int 1000000000000000000000000000000 t_LAST_DAY)) :
    FnG P w K mg base CX0 2 f fd ["thing", "first"] (sp__is_many K) := by
  refine Fun_okG F sc__is_many (ar__is_many K) (fun cdv A outer s H vs Q E hg hr h => ?_)
  obtain ⟨v, t, b, d, rfl, hv, q⟩ := h
  refine ⟨_, (pss_one (ps_ret (pe_and (pe_c C_is_int hg (hr.mono (by decide)) rfl (pa_cons (pv 0) pa_nil)) (pe_one (pe_chain op_le op_le pe_int (pv 0) (pe_op op_sub (pe_glob (v := V.int 1000000000000000000000000000000) rfl c_LAST_DAY ⟨_, rfl⟩) (pv 1))))))), ?_⟩
  walk_at "rd_6"
  refine ⟨v, tyN t, rfl, ⟨hv.ty, tyN_in t⟩, ?_⟩
  walk_at "rd_6"
  by_cases c : tyN t = "int"
  · obtain ⟨n, rfl⟩ := tyN_int.mp c
    cases hv
    refine iteT ?_
    walk_at "rd_6"
    refine rd_if (fun c => ?_) (fun c => ?_)
    · walk_at "rd_6"
      have e : manyT d (.int n) = decide (n ≤ 10 ^ 30 - d) := by simp [manyT, c]
      rw [e] at q
      exact q
    · have e : manyT d (.int n) = false := by simp [manyT]; omega
      rw [e] at q
      exact q
  · rw [decide_eq_false c]
    refine iteF ?_
    have e : manyT d t = false := by
      cases t <;> first | rfl | exact absurd rfl c
    rw [e] at q
    exact q

def sp_is_amount (K : PySem.W.Frag) : Sp := fun vs H Q _ => ∃ v t b, vs = [v] ∧ ThAt K b H v t ∧ Q (.bl (amT t)) H
theorem ar_is_amount (K : PySem.W.Frag) : ∀ vs H Q E, sp_is_amount K vs H Q E → vs.length = 1 := by
  intro vs H Q E h
  obtain ⟨d, _, _, rfl, _⟩ := h
  rfl
abbrev N_is_amount : List Str := ["thing"]
theorem sc_is_amount : FnScope N_is_amount ["thing"] (defScope S_is_amount) := ⟨rfl, rfl, rfl, by decide +kernel, rfl, by decide +kernel, by decide +kernel⟩
theorem ok_is_amount {P : Program} {w : World} {K : PySem.W.Frag} {mg : Str → Option Value} {base : Heap} {f : Addr} {fd : FuncData} (F : Fun K "is_amount" "is_amount" S_is_amount f fd) {f_is_ratio : Addr} {fd_is_ratio : FuncData} (C_is_ratio : Cal P w K mg base "is_ratio" 2 f_is_ratio fd_is_ratio ["thing"] (sp_is_ratio K)) {t_AMOUNT_BOUND : Nat} (c_AMOUNT_BOUND : mg "AMOUNT_BOUND" = some (.int 1000000 t_AMOUNT_BOUND)) :
    FnG P w K mg base CX0 3 f fd ["thing"] (sp_is_amount K) := by
  refine Fun_okG F sc_is_amount (ar_is_amount K) (fun cdv A outer s H vs Q E hg hr h => ?_)
  obtain ⟨v, t, b, rfl, hv, q⟩ := h
  refine ⟨_, (pss_one (ps_ret (pe_and (pe_c C_is_ratio hg (hr.mono (by decide)) rfl (pa_cons (pv 0) pa_nil)) (pe_and (pe_chain op_le op_le (pe_un un_neg (pe_glob (v := V.int 1000000) rfl c_AMOUNT_BOUND ⟨_, rfl⟩)) (pe_ix (ixK (K := K) rfl) (pv 0) pe_int (fun _ _ => rfl)) (pe_glob (v := V.int 1000000) rfl c_AMOUNT_BOUND ⟨_, rfl⟩)) (pe_one (pe_cmpR op_le (pe_ix (ixK (K := K) rfl) (pv 0) pe_int (fun _ _ => rfl)) (pe_glob (v := V.int 1000000) rfl c_AMOUNT_BOUND ⟨_, rfl⟩) (nomark _))))))), ?_⟩
  walk_at "rd_6"
  refine ⟨v, t, b, rfl, hv, ?_⟩
  walk_at "rd_6"
  cases er : asRat t with
  | none =>
    rw [show isRat t = false by simp [isRat, er]]
    refine iteF ?_
    rw [show amT t = false by simp [amT, er]] at q
    exact q
  | some r =>
    obtain ⟨x, y⟩ := r
    obtain ⟨p, rfl, rfl, hra⟩ := rat_at hv er
    rw [show isRat _ = true by simp [isRat, er]]
    have ea : amT (.tup [.int x, .int y]) = decide (-1000000 ≤ x ∧ x ≤ 1000000 ∧ y ≤ 1000000) := by simp [amT, er]
    rw [ea] at q
    have es := hra.sq
    refine iteT ?_
    walk_at "rd_6"
    dsimp only
    refine rd_if (fun c => ?_) (fun c => ?_)
    · walk_at "rd_6"
      refine rd_if (fun c2 => ?_) (fun c2 => ?_)
      · walk_at "rd_6"
        rw [show decide (-1000000 ≤ x ∧ x ≤ 1000000 ∧ y ≤ 1000000) = decide (y ≤ 1000000) by simp [c, c2]] at q
        exact q
      · walk_at "rd_6"
        rw [show decide (-1000000 ≤ x ∧ x ≤ 1000000 ∧ y ≤ 1000000) = false by simp; omega] at q
        exact q
    · walk_at "rd_6"
      rw [show decide (-1000000 ≤ x ∧ x ≤ 1000000 ∧ y ≤ 1000000) = false by simp; omega] at q
      exact q
def sp__is_amounts (K : PySem.W.Frag) : Sp := fun vs H Q _ => ∃ v t b, vs = [v] ∧ ThAt K b H v t ∧ ∀ J, Same H J → Q (.bl (amsT t)) J
theorem ar__is_amounts (K : PySem.W.Frag) : ∀ vs H Q E, sp__is_amounts K vs H Q E → vs.length = 1 := by
  intro vs H Q E h
  obtain ⟨d, _, _, rfl, _⟩ := h
  rfl
abbrev N__is_amounts : List Str := ["thing", "part"]
theorem sc__is_amounts : FnScope N__is_amounts ["thing"] (defScope S__is_amounts) := ⟨rfl, rfl, rfl, by decide +kernel, rfl, by decide +kernel, by decide +kernel⟩
theorem ok__is_amounts {P : Program} {w : World} {K : PySem.W.Frag} {mg : Str → Option Value} {base : Heap} {f : Addr} {fd : FuncData} (F : Fun K "_is_amounts" "_is_amounts" S__is_amounts f fd) {f_is_amount : Addr} {fd_is_amount : FuncData} (C_is_amount : Cal P w K mg base "is_amount" 3 f_is_amount fd_is_amount ["thing"] (sp_is_amount K)) {t_MOST_AMOUNTS : Nat} (c_MOST_AMOUNTS : mg "MOST_AMOUNTS" = some (.int 4 t_MOST_AMOUNTS)) (m_all : mg "all" = none) (m_len : mg "len" = none) (m_isinstance : mg "isinstance" = none) (m_tuple : mg "tuple" = none) :
    FnG P w K mg base CX0 4 f fd ["thing"] (sp__is_amounts K) := by
  refine Fun_okG F sc__is_amounts (ar__is_amounts K) (fun cdv A outer s H vs Q E hg hr h => ?_)
  obtain ⟨v, t, b, rfl, hv, q⟩ := h
  refine ⟨_, (pss_cons (ps_if (pt_not (PW.pt (pw_and (pt_val (pe_callB (id := "isinstance") (isiK (K := K) rfl) (by rfl) m_isinstance (by decide +kernel) (pa_cons (pv 0) (pa_cons (pe_bltn (v := V.ty "tuple") (u := Value.type "tuple") (by rfl) m_tuple (by decide +kernel) rfl) pa_nil)))) (pw_and1 (pt_chain op_le op_le pe_int (pe_callB (id := "len") (lenK (K := K) rfl) (by rfl) m_len (by decide +kernel) (pa_cons (pv 0) pa_nil)) (pe_glob (v := V.int 4) rfl c_MOST_AMOUNTS ⟨_, rfl⟩)))))) (pss_one (ps_ret pe_bl)) pss_nil)
    (pss_one (ps_ret (pe_callB (id := "all") (allK (K := K) rfl rfl) (by rfl) m_all (by decide +kernel) (pa_cons (pe_lc (own := [("part", 1)]) rfl sc__is_amounts.nd (piT (K := K) rfl (pv 0)) (blkOk_by (own := [("part", 1)]) (N := N__is_amounts) (sc := defScope S__is_amounts) (by decide +kernel)) (fun _ _ _ _ _ => (pg_name (i := 1) sc__is_amounts.nd rfl (Or.inl rfl))) (fun _ _ _ _ _ => pts_nil) (fun _ _ _ _ _ => (pe_c C_is_amount hg (hr.mono (by decide)) rfl (pa_cons (pv 1) pa_nil)))) pa_nil))))), ?_⟩
  have off : amsT t = false → Q (.bl false) H := fun e => e ▸ q H fun _ _ e => e
  cases hv with
  | non =>
    walk_at "rd_6"
    refine iteF ?_
    refine iteT ?_
    walk_at "rd_6"
    exact off rfl
  | bl c =>
    walk_at "rd_6"
    refine iteF ?_
    refine iteT ?_
    walk_at "rd_6"
    exact off rfl
  | int i hi =>
    walk_at "rd_6"
    refine iteF ?_
    refine iteT ?_
    walk_at "rd_6"
    exact off rfl
  | str x =>
    walk_at "rd_6"
    refine iteF ?_
    refine iteT ?_
    walk_at "rd_6"
    exact off rfl
  | lst n e k =>
    walk_at "rd_6"
    refine iteF ?_
    refine iteT ?_
    walk_at "rd_6"
    exact off rfl
  | @tup a xs ts e k =>
    have lk := k.len
    walk_at "rd_6"
    refine iteT ?_
    by_cases c : 1 ≤ ts.length ∧ ts.length ≤ 4
    · walk_at "rd_6"
      refine rd_if (fun c1 => ?_) (fun c1 => absurd (by omega) c1)
      walk_at "rd_6"
      rw [decide_eq_true (by omega)]
      refine iteF ?_
      walk_at "rd_6"
      intro D nD
      refine lc_growT (xs := xs) (fun ys _ => ys = ((ts.map amT).take ys.length).map V.bl) (fun J k => sqt_fresh k nD e) (by omega) nD (fun J k => by simp) (fun j w ys J hx i5 hy k' hD hP => ?_) fun ys J hy k' hD hP => ?_
      · obtain ⟨t, et, ht⟩ := k.get hx
        have sJ : Same H J := fun a o h => k' a o (ne_of_none h nD) h
        have ht := ht.same sJ
        walk_at "rd_6"
        refine ⟨rfl, ?_⟩
        walk_at "rd_6"
        refine ⟨w, t, b, rfl, ht, ?_⟩
        refine lcEnd_mk hD hy i5 k' fun J4 p4 e4 => ?_
        rw [List.length_append, List.length_singleton, hy, List.take_add_one, List.getElem?_map, et, List.map_append, ← hy, ← hP]
        rfl
      · have hy : ys.length = xs.length := hy
        have sJ : Same H J := fun a o h => k' a o (ne_of_none h nD) h
        rw [hy, lk, ← List.length_map (f := amT) (as := ts), List.take_length] at hP
        subst hP
        walk_at "rd_6"
        refine rd_all (bs := ts.map amT) (SqL.of hD) ?_
        have := q J sJ
        rw [show amsT (.tup ts) = ts.all amT by simp [amsT, c]] at this
        rw [List.all_map]
        exact this
    · have off := off (by simp [amsT]; omega)
      walk_at "rd_6"
      refine rd_if (fun c1 => ?_) (fun c1 => ?_)
      · walk_at "rd_6"
        rw [decide_eq_false (by omega)]
        refine iteT ?_
        walk_at "rd_6"
        exact off
      · walk_at "rd_6"
        refine iteT ?_
        walk_at "rd_6"
        exact off
def sp_wrong_part (K : PySem.W.Frag) : Sp := fun vs H Q _ => ∃ v t b, vs = [v] ∧ ThAt K b H v t ∧ (∀ t1 ts, t = .tup (t1 :: ts) → SeqAt.shaped (thD t1) = true) ∧ (∀ J, wrongT t = none → Same H J → Q .non J) ∧ ∀ J n, wrongT t = some n → Same H J → Q (.int (n : Int)) J
theorem ar_wrong_part (K : PySem.W.Frag) : ∀ vs H Q E, sp_wrong_part K vs H Q E → vs.length = 1 := by
  intro vs H Q E h
  obtain ⟨d, _, _, rfl, _⟩ := h
  rfl
abbrev N_wrong_part : List Str := ["thing", "kind", "first", "many", "last", "right"]
theorem sc_wrong_part : FnScope N_wrong_part ["thing"] (defScope S_wrong_part) := ⟨rfl, rfl, rfl, by decide +kernel, rfl, by decide +kernel, by decide +kernel⟩
theorem ok_wrong_part {P : Program} {w : World} {K : PySem.W.Frag} {mg : Str → Option Value} {base : Heap} {f : Addr} {fd : FuncData} (F : Fun K "wrong_part" "wrong_part" S_wrong_part f fd) {f__is_amounts : Addr} {fd__is_amounts : FuncData} (C__is_amounts : Cal P w K mg base "_is_amounts" 4 f__is_amounts fd__is_amounts ["thing"] (sp__is_amounts K)) {f_is_int : Addr} {fd_is_int : FuncData} (C_is_int : Cal P w K mg base "is_int" 1 f_is_int fd_is_int ["thing"] (sp_is_int K)) {f__is_many : Addr} {fd__is_many : FuncData} (C__is_many : Cal P w K mg base "_is_many" 2 f__is_many fd__is_many ["thing", "first"] (sp__is_many K)) {f_is_day : Addr} {fd_is_day : FuncData} (C_is_day : Cal P w K mg base "is_day" 2 f_is_day fd_is_day ["thing"] (sp_is_day K)) (m_len : mg "len" = none) (m_isinstance : mg "isinstance" = none) (m_tuple : mg "tuple" = none) :
    FnG P w K mg base CX0 5 f fd ["thing"] (sp_wrong_part K) := by
  refine Fun_okG F sc_wrong_part (ar_wrong_part K) (fun cdv A outer s H vs Q E hg hr h => ?_)
  obtain ⟨v, t, b, rfl, hv, hs, q0, q1⟩ := h
  refine ⟨_, (pss_cons (ps_if (pt_not (PW.pt (pw_and (pt_val (pe_callB (id := "isinstance") (isiK (K := K) rfl) (by rfl) m_isinstance (by decide +kernel) (pa_cons (pv 0) (pa_cons (pe_bltn (v := V.ty "tuple") (u := Value.type "tuple") (by rfl) m_tuple (by decide +kernel) rfl) pa_nil)))) (pw_and1 (pt_cmpR op_eq (pe_callB (id := "len") (lenK (K := K) rfl) (by rfl) m_len (by decide +kernel) (pa_cons (pv 0) pa_nil)) pe_int (nomark _)))))) (pss_one (ps_ret pe_int)) pss_nil)
    (pss_cons (ps_asg (pv 0) (pg_tup rfl (pgs_cons (pg_name (i := 1) sc_wrong_part.nd rfl (Or.inl rfl)) (pgs_cons (pg_name (i := 2) sc_wrong_part.nd rfl (Or.inl rfl)) (pgs_cons (pg_name (i := 3) sc_wrong_part.nd rfl (Or.inl rfl)) (pgs_cons (pg_name (i := 4) sc_wrong_part.nd rfl (Or.inl rfl)) pgs_nil))))))
    (pss_cons (ps_if (pt_cmpR (niTK (K := K) rfl hr) (pv 1) (pe_tup (pa_cons pe_str (pa_cons pe_str pa_nil))) rfl) (pss_one (ps_ret pe_int)) pss_nil)
    (pss_cons (ps_if (pt_not (pt_val (pe_c C_is_day hg (hr.mono (by decide)) rfl (pa_cons (pv 2) pa_nil)))) (pss_one (ps_ret pe_int)) pss_nil)
    (pss_cons (ps_if (pt_not (pt_val (pe_c C__is_many hg (hr.mono (by decide)) rfl (pa_cons (pv 3) (pa_cons (pv 2) pa_nil))))) (pss_one (ps_ret pe_int)) pss_nil)
    (pss_cons (ps_set (i := 5) sc_wrong_part.nd rfl (Or.inl rfl) (pe_ifExp (pt_cmpR op_eq (pv 1) pe_str (nomark _)) (pe_c C__is_amounts hg (hr.mono (by decide)) rfl (pa_cons (pv 4) pa_nil)) (pe_c C_is_int hg (hr.mono (by decide)) rfl (pa_cons (pv 4) pa_nil))))
    (pss_one (ps_ret (pe_ifExp (pt_val (pv 5)) pe_non pe_int))))))))), ?_⟩
  have off : wrongT t = some 0 → Q (.int 0) H := fun e => q1 H 0 e fun _ _ e => e
  cases hv with
  | non =>
    walk_at "rd_6"
    refine iteF ?_
    refine iteT ?_
    walk_at "rd_6"
    exact off rfl
  | bl c =>
    walk_at "rd_6"
    refine iteF ?_
    refine iteT ?_
    walk_at "rd_6"
    exact off rfl
  | int i hi =>
    walk_at "rd_6"
    refine iteF ?_
    refine iteT ?_
    walk_at "rd_6"
    exact off rfl
  | str x =>
    walk_at "rd_6"
    refine iteF ?_
    refine iteT ?_
    walk_at "rd_6"
    exact off rfl
  | lst n e k =>
    walk_at "rd_6"
    refine iteF ?_
    refine iteT ?_
    walk_at "rd_6"
    exact off rfl
  | @tup a xs ts e k =>
    by_cases c : xs.length = 4
    · cases k with
      | nil => simp at c
      | @cons v1 r t1 _ h1 k =>
      cases k with
      | nil => simp at c
      | @cons v2 r t2 _ h2 k =>
      cases k with
      | nil => simp at c
      | @cons v3 r t3 _ h3 k =>
      cases k with
      | nil => simp at c
      | @cons v4 r t4 _ h4 k =>
      cases k with
      | cons _ _ => simp at c
      | nil =>
        walk_at "rd_6"
        refine iteT ?_
        walk_at "rd_6"
        refine iteF ?_
        walk_at "rd_6"
        rename_i p J np sJ eJ
        refine rd_niT ((h1.same sJ).dp) (.tup (SqT.of eJ) (.cons (.str "entry") (.cons (.str "statement") .nil))) (hs _ _ rfl) (by decide +kernel) ?_
        have oth : (∀ s, t1 ≠ .str s) → wrongT (.tup [t1, t2, t3, t4]) = some 0 ∧ ([PyData.str "entry", PyData.str "statement"].any fun z => PyData.eqv z (thD t1)) = false := fun no => by
          cases t1 with
          | str s => exact absurd rfl (no s)
          | _ => exact ⟨rfl, rfl⟩
        have h2 := h2.same sJ
        have h3 := h3.same sJ
        have h4 := h4.same sJ
        by_cases iss : ∃ s, t1 = .str s
        · obtain ⟨kd, rfl⟩ := iss
          cases h1
          have rest : ∀ en : Bool, wrongT (.tup [.str kd, t2, t3, t4]) = restT en t2 t3 t4 → ((kd : Str) = "entry" ↔ en = true) → True := fun _ _ _ => trivial
          have key : (([PyData.str "entry", PyData.str "statement"].any fun z => PyData.eqv z (thD (.str kd))) = true ∧ ∃ en : Bool, wrongT (.tup [.str kd, t2, t3, t4]) = restT en t2 t3 t4 ∧ decide (kd = ("entry" : Str)) = en) ∨
              (([PyData.str "entry", PyData.str "statement"].any fun z => PyData.eqv z (thD (.str kd))) = false ∧ wrongT (.tup [.str kd, t2, t3, t4]) = some 0) := by
            by_cases e1 : kd = ("entry" : Str)
            · subst e1
              exact .inl ⟨by decide +kernel, true, rfl, by decide +kernel⟩
            · by_cases e2 : kd = ("statement" : Str)
              · subst e2
                exact .inl ⟨by decide +kernel, false, rfl, by decide +kernel⟩
              · refine .inr ⟨?_, ?_⟩
                · simp [thD, PyData.eqv, Ne.symm e1, Ne.symm e2]
                · simp [wrongT, e1, e2]
          rcases key with ⟨ek, en, ew, ed⟩ | ⟨ek, ew⟩
          · rw [ek]
            walk_at "rd_6"
            refine iteF ?_
            walk_at "rd_6"
            refine ⟨v2, t2, b, rfl, h2, ?_⟩
            walk_at "rd_6"
            cases hd : dayT t2 with
            | false =>
              refine iteT ?_
              walk_at "rd_6"
              refine q1 J 1 ?_ sJ
              rw [ew]
              cases t2 <;> simp [restT, hd]
            | true =>
              obtain ⟨d, rfl⟩ : ∃ d, t2 = .int d := by
                cases t2 <;> first | exact ⟨_, rfl⟩ | (exact absurd hd (by simp [dayT]))
              cases h2
              refine iteF ?_
              walk_at "rd_6"
              refine ⟨v3, t3, b, d, rfl, h3, ?_⟩
              walk_at "rd_6"
              cases hm : manyT d t3 with
              | false =>
                refine iteT ?_
                walk_at "rd_6"
                exact q1 J 2 (by rw [ew]; simp [restT, hd, hm]) sJ
              | true =>
                refine iteF ?_
                have ew : wrongT (.tup [.str kd, .int d, t3, t4]) = if lastT en t4 then none else some 3 := by rw [ew]; simp [restT, hd, hm]
                walk_at "rd_6"
                refine rd_eqStr ?_
                rw [ed]
                walk_at "rd_6"
                cases en with
                | true =>
                  refine iteT ?_
                  walk_at "rd_6"
                  refine ⟨v4, t4, b, rfl, h4, fun J2 s2 => ?_⟩
                  walk_at "rd_6"
                  have s3 := Same.trans sJ s2
                  cases hl : amsT t4 with
                  | true =>
                    refine iteT ?_
                    walk_at "rd_6"
                    exact q0 J2 (by rw [ew]; simp [lastT, hl]) s3
                  | false =>
                    refine iteF ?_
                    walk_at "rd_6"
                    exact q1 J2 3 (by rw [ew]; simp [lastT, hl]) s3
                | false =>
                  refine iteF ?_
                  walk_at "rd_6"
                  refine ⟨v4, tyN t4, rfl, ⟨h4.ty, tyN_in t4⟩, ?_⟩
                  walk_at "rd_6"
                  by_cases hl : tyN t4 = "int"
                  · rw [decide_eq_true hl]
                    refine iteT ?_
                    walk_at "rd_6"
                    exact q0 J (by rw [ew]; simp [lastT, hl]) sJ
                  · rw [decide_eq_false hl]
                    refine iteF ?_
                    walk_at "rd_6"
                    exact q1 J 3 (by rw [ew]; simp [lastT, hl]) sJ
          · rw [ek]
            walk_at "rd_6"
            refine iteT ?_
            walk_at "rd_6"
            exact q1 J 0 ew sJ
        · obtain ⟨ew, ek⟩ := oth fun s z => iss ⟨s, z⟩
          rw [ek]
          walk_at "rd_6"
          refine iteT ?_
          walk_at "rd_6"
          exact q1 J 0 ew sJ
    · have lk := k.len
      have ew : wrongT (.tup ts) = some 0 := by
        match ts, lk with
        | [], _ => rfl
        | [a], _ => cases a <;> rfl
        | [a, _], _ => cases a <;> rfl
        | [a, _, _], _ => cases a <;> rfl
        | [_, _, _, _], h => exact absurd h c
        | a :: _ :: _ :: _ :: _ :: _, _ => cases a <;> rfl
      walk_at "rd_6"
      refine iteT ?_
      walk_at "rd_6"
      rw [decide_eq_false (by omega)]
      refine iteT ?_
      walk_at "rd_6"
      exact off ew
theorem Same.none {H J : Hp} (s : Same H J) {a : Addr} (h : J a = none) : H a = none := by
  cases e : H a with
  | none => rfl
  | some o => cases h.symm.trans (s a o e)
def sp_check_item (K : PySem.W.Frag) : Sp := fun vs H Q _ => ∃ v t b, vs = [v] ∧ ThAt K b H v t ∧ (∀ t1 ts, t = .tup (t1 :: ts) → SeqAt.shaped (thD t1) = true) ∧ wrongT t = none ∧ ∀ J, Same H J → Q .non J
theorem ar_check_item (K : PySem.W.Frag) : ∀ vs H Q E, sp_check_item K vs H Q E → vs.length = 1 := by
  intro vs H Q E h
  obtain ⟨d, _, _, rfl, _⟩ := h
  rfl
abbrev N_check_item : List Str := ["thing", "part"]
theorem sc_check_item : FnScope N_check_item ["thing"] (defScope S_check_item) := ⟨rfl, rfl, rfl, by decide +kernel, rfl, by decide +kernel, by decide +kernel⟩
theorem ok_check_item {P : Program} {w : World} {K : PySem.W.Frag} {mg : Str → Option Value} {base : Heap} {f : Addr} {fd : FuncData} (F : Fun K "check_item" "check_item" S_check_item f fd) {f_wrong_part : Addr} {fd_wrong_part : FuncData} (C_wrong_part : Cal P w K mg base "wrong_part" 5 f_wrong_part fd_wrong_part ["thing"] (sp_wrong_part K)) :
    FnG P w K mg base CX0 6 f fd ["thing"] (sp_check_item K) := by
  refine Fun_okG F sc_check_item (ar_check_item K) (fun cdv A outer s H vs Q E hg hr h => ?_)
  obtain ⟨v, t, b, rfl, hv, hs, ew, q⟩ := h
  refine ⟨_, (pss_cons (ps_set (i := 1) sc_check_item.nd rfl (Or.inl rfl) (pe_c C_wrong_part hg (hr.mono (by decide)) rfl (pa_cons (pv 0) pa_nil)))
    (pss_one (ps_if (pt_cmpR op_notN (pv 1) pe_non (nomark _)) (pss_one ps_dead) pss_nil))), ?_⟩
  walk_at "rd_6"
  refine ⟨v, t, b, rfl, hv, hs, fun J _ sJ => ?_, fun J n ez sJ => by rw [ew] at ez; cases ez⟩
  walk_at "rd_6"
  refine ⟨rfl, ?_⟩
  walk_at "rd_6"
  rw [show (!decide (V.non = V.non)) = false by simp]
  refine iteF ?_
  walk_at "rd_6"
  exact q J sJ

/-! ### the classes of errors that the law speaks of -/
structure ErrZ (K : PySem.W.Frag) (mg : Str → Option Value) (cE cT bC bD bI bR bS oK : Addr) : Prop where
  at_ : PySem.W.nsIn K mainGlobals "BadText" = some (some (.ref cT))
  i : ExcI K cT
  no : PySem.W.findIn K (.ref cT) "place" = some none
  gE : mg "CutError" = some (.ref cE)
  gX : mg "BadText" = some (.ref cT)
  gC : mg "BadCut" = some (.ref bC)
  gD : mg "BadDay" = some (.ref bD)
  gI : mg "BadItem" = some (.ref bI)
  gR : mg "BadRow" = some (.ref bR)
  gS : mg "BadStretch" = some (.ref bS)
  gO : mg "OtherKind" = some (.ref oK)
  catE : PySem.W.exmOne K (.ref cT) (.ref cE) = some true
  off : PySem.W.kitAny K (.ref cT) [.ref bC, .ref bD, .ref bI, .ref bR, .ref bS, .ref oK] = some false
  onX : PySem.W.kitOne K (.ref cT) (.ref cT) = some true
theorem ErrZ.is {K : PySem.W.Frag} {mg : Str → Option Value} {cE cT bC bD bI bR bS oK C : Addr} (X : ErrZ K mg cE cT bC bD bI bR bS oK) (h : PySem.W.nsIn K mainGlobals "BadText" = some (some (.ref C))) : C = cT := by
  have := h.symm.trans X.at_
  simp at this
  exact this
def FirstOk (t : Th) : Prop := ∀ t1 ts, t = .tup (t1 :: ts) → SeqAt.shaped (thD t1) = true
theorem rd_xf {a C : Addr} {cls : Value} {d : Option Addr} {f : Str} {te : TE} {σ : L2.St} {H : Hp} {Q : VK} (h : te σ H fun x H1 => x = .ref a ∧ cls = .ref C ∧ ∃ (dd : Addr) (fs : List (Str × V)) (v : V), d = some dd ∧ H1 dd = some (.xd fs) ∧ fs.lookup f = some v ∧ Q v H1) : tXf a cls d C f te σ H Q := h

/-! ### what is no item -/
def kdE (en : Bool) : Str := if en then "entry" else "statement"
theorem wr_en {en : Bool} {a b c : Th} : wrongT (.tup [.str (kdE en), a, b, c]) = restT en a b c := by
  cases en with
  | true => rfl
  | false => rfl
theorem day_of {f m : Nat} (hf : f + m ≤ 10 ^ 30) (hm : 1 ≤ m) : dayT (.int (f : Int)) = true ∧ manyT (f : Int) (.int (m : Int)) = true := ⟨decide_eq_true ⟨by omega, by omega⟩, decide_eq_true ⟨by omega, by omega⟩⟩
theorem wrN {en : Bool} {t : Th} {f m : Nat} (hf : f + m ≤ 10 ^ 30) (hm : 1 ≤ m) (h : lastT en t = true) : wrongT (.tup [.str (kdE en), .int (f : Int), .int (m : Int), t]) = none := by
  rw [wr_en]
  obtain ⟨d, e⟩ := day_of hf hm
  simp only [restT, d, e, h]
  rfl
theorem amT_of {x y : Int} (h : 0 < y) (g : Int.gcd x y = 1) : amT (ratT x y) = decide (-1000000 ≤ x ∧ x ≤ 1000000 ∧ y ≤ 1000000) := by
  unfold amT
  rw [asRat_of h g]
def amsTh (l : List (Int × Int)) : List Th := l.map fun r => ratT r.1 r.2
theorem AmsAt.ths {K : PySem.W.Frag} {b : Addr} {H : Hp} : ∀ {rs : List V} {l : List (Int × Int)}, AmsAt H rs l → ThsAt K b H rs (amsTh l)
  | _, _, .nil => .nil
  | _, _, .cons h _ _ bx bu t => .cons (th_rat (SqT.of h) (bx.mono (by decide)) (bu.mono (by decide))) t.ths
/-- an item at p: of which kind, its first day, how many days, its last part -/
structure GIt (K : PySem.W.Frag) (b : Addr) (H : Hp) (p : Addr) (en : Bool) (f m : Nat) (lv : V) (lt : Th) : Prop where
  at_ : H p = some (.tup [.str (kdE en), .int (f : Int), .int (m : Int), lv])
  d1 : f + m ≤ 10 ^ 30
  d2 : 1 ≤ m
  la : ThAt K b H lv lt
  sz : szC lt ≤ 20000
  dp : dC lt ≤ 3
  ent : en = true → ∃ (q : Addr) (rs : List V) (l : List (Int × Int)), lv = .ref q ∧ H q = some (.tup rs) ∧ AmsAt H rs l ∧ l ≠ [] ∧ l.length ≤ 4 ∧ (∀ r ∈ l, r.1.natAbs ≤ 1000000 ∧ r.2 ≤ 1000000) ∧ lt = .tup (amsTh l)
  stm : en = false → ∃ z : Int, lv = .int z ∧ lt = .int z
def itT (en : Bool) (f m : Nat) (lt : Th) : Th := .tup [.str (kdE en), .int (f : Int), .int (m : Int), lt]
section
variable {K : PySem.W.Frag} {b p : Addr} {H J : Hp} {en : Bool} {f m : Nat} {lv : V} {lt : Th}
theorem bd_day {f : Nat} (h : f ≤ 10 ^ 30) : Bd 900 (f : Int) := Bd.mono (m := 100) (by unfold Bd; omega) (by decide)
theorem GIt.th (G : GIt K b H p en f m lv lt) : ThAt K b H (.ref p) (itT en f m lt) := .tup (SqT.of G.at_) (.cons (.str _) (.cons (.int _ (bd_day (by have := G.d1; omega))) (.cons (.int _ (bd_day (by have := G.d1; omega))) (.cons G.la .nil))))
theorem GIt.kp (k : Kp b H J) (g : Bag b H) (G : GIt K b H p en f m lv lt) : GIt K b J p en f m lv lt :=
  ⟨k.tup g G.at_, G.d1, G.d2, G.la.kp k g, G.sz, G.dp, fun e => by
    obtain ⟨q, rs, l, e1, e2, e3, r⟩ := G.ent e
    exact ⟨q, rs, l, e1, k.tup g e2, e3.mono fun p xs h => k.tup g h, r⟩, G.stm⟩
theorem GIt.same (s : Same H J) (g : Bag b H) (G : GIt K b H p en f m lv lt) : GIt K b J p en f m lv lt := G.kp (Kp.of s) g
theorem ams_ok {l : List (Int × Int)} (h : ∀ r ∈ l, 0 < r.2 ∧ Int.gcd r.1 r.2 = 1) (k : ∀ r ∈ l, r.1.natAbs ≤ 1000000 ∧ r.2 ≤ 1000000) : (amsTh l).all amT = true := by
  rw [List.all_eq_true]
  intro t ht
  obtain ⟨r, hr, rfl⟩ := List.mem_map.mp ht
  rw [amT_of (h r hr).1 (h r hr).2]
  have := k r hr
  exact decide_eq_true ⟨by omega, by omega, by omega⟩
theorem amsTh_len (l : List (Int × Int)) : (amsTh l).length = l.length := List.length_map ..
theorem GIt.no (G : GIt K b H p en f m lv lt) : wrongT (itT en f m lt) = none := by
  refine wrN G.d1 G.d2 ?_
  cases en with
  | true =>
    obtain ⟨q, rs, l, _, _, e3, ne, l4, ok, rfl⟩ := G.ent rfl
    have a := ams_ok (fun r hr => ⟨(e3.bds r hr).1, (e3.bds r hr).2.1⟩) ok
    have l1 := List.length_pos_iff.mpr ne
    simp only [lastT, amsT, a, amsTh_len, if_true, Bool.and_true]
    exact decide_eq_true ⟨l1, l4⟩
  | false =>
    obtain ⟨z, _, rfl⟩ := G.stm rfl
    rfl
theorem kd_shaped (en : Bool) : SeqAt.shaped (thD (.str (kdE en))) = true := by cases en <;> decide +kernel
theorem kd_sz (en : Bool) : szC (.str (kdE en)) ≤ 100 := by cases en <;> (simp only [szC]; decide +kernel)
theorem GIt.first (G : GIt K b H p en f m lv lt) : FirstOk (itT en f m lt) := fun t1 ts e => by
  cases e
  exact kd_shaped en
theorem GIt.size (G : GIt K b H p en f m lv lt) : szC (itT en f m lt) ≤ 30000 ∧ dC (itT en f m lt) ≤ 4 := by
  have := kd_sz en
  have := G.sz
  have := G.dp
  refine ⟨?_, ?_⟩
  · simp only [itT, szC, szsC] at *
    omega
  · simp only [itT, dC, dsC] at *
    omega
end

/-! ### ratios and items as texts -/
def sp_ratio_text (K : PySem.W.Frag) : Sp := fun vs H Q _ => ∃ (p : Addr) (x y : Int), vs = [.ref p] ∧ SqT K H p [.int x, .int y] ∧ x.natAbs < 10 ^ 100 ∧ y.natAbs < 10 ^ 100 ∧ Q (.str (amW x y)) H
theorem ar_ratio_text (K : PySem.W.Frag) : ∀ vs H Q E, sp_ratio_text K vs H Q E → vs.length = 1 := by
  intro vs H Q E h
  obtain ⟨p, _, _, rfl, _⟩ := h
  rfl
abbrev N_ratio_text : List Str := ["ratio", "top", "under"]
theorem sc_ratio_text : FnScope N_ratio_text ["ratio"] (defScope S_ratio_text) := ⟨rfl, rfl, rfl, by decide +kernel, rfl, by decide +kernel, by decide +kernel⟩
theorem ok_ratio_text {P : Program} {w : World} {K : PySem.W.Frag} {mg : Str → Option Value} {base : Heap} {f : Addr} {fd : FuncData} (F : Fun K "ratio_text" "ratio_text" S_ratio_text f fd) (m_str : mg "str" = none) :
    FnG P w K mg base CX0 1 f fd ["ratio"] (sp_ratio_text K) := by
  refine Fun_okG F sc_ratio_text (ar_ratio_text K) (fun cdv A outer s H vs Q E hg hr h => ?_)
  obtain ⟨p, x, y, rfl, hp, hx, hy, q⟩ := h
  refine ⟨_, (pss_cons (ps_asg (pv 0) (pg_tup rfl (pgs_cons (pg_name (i := 1) sc_ratio_text.nd rfl (Or.inl rfl)) (pgs_cons (pg_name (i := 2) sc_ratio_text.nd rfl (Or.inl rfl)) pgs_nil))))
    (pss_one (ps_ret (pe_ifExp (pt_cmpR op_eq (pv 2) pe_int (nomark _)) (pe_callTy (T := "str") call_str_int (by rfl) m_str (by decide +kernel) (pa_cons (pv 1) pa_nil)) (pe_joined (.cons (pe_fmt (pv 1)) (.cons pe_str (.cons (pe_fmt (pv 2)) .nil)))))))), ?_⟩
  have sl := sizeLine_eq
  have lx : (Str.ofString (toString x)).length ≤ 101 := txI_len hx
  have ly : (Str.ofString (toString y)).length ≤ 101 := txI_len hy
  walk_at "rd_6"
  by_cases c : y = 1
  · rw [decide_eq_true c]
    refine iteT ?_
    walk_at "rd_6"
    refine ⟨log_ok hx, ?_⟩
    unfold amW at q
    rw [if_pos c] at q
    exact q
  · rw [decide_eq_false c]
    refine iteF ?_
    refine rd_js ?_
    refine rd_fmtI ?_ (mono := var_mono)
    walk_at "rd_6"
    have lp : ("/" : Str).length = 1 := by decide
    refine ⟨log_ok hx, _, rfl, by rw [empty_app]; omega, ?_⟩
    refine rd_js ?_
    walk_at "rd_6"
    refine ⟨_, rfl, by rw [empty_app, Str.length_append]; omega, ?_⟩
    refine rd_js ?_
    refine rd_fmtI ?_ (mono := var_mono)
    walk_at "rd_6"
    refine ⟨log_ok hy, _, rfl, by rw [empty_app, Str.length_append, Str.length_append]; omega, ?_⟩
    refine rd_js0 ?_
    unfold amW at q
    rw [if_neg c] at q
    rw [empty_app]
    exact q
def sp_word_at (K : PySem.W.Frag) : Sp := fun vs H Q _ => ∃ (a : Addr) (ws : List Str) (n : Nat), vs = [.ref a, .int (n : Int)] ∧ SqL K H a (ws.map V.str) ∧ ws.length ≤ 100000 ∧ n ≤ 10000 ∧ Q (.str (wAt ws n)) H
theorem ar_word_at (K : PySem.W.Frag) : ∀ vs H Q E, sp_word_at K vs H Q E → vs.length = 2 := by
  intro vs H Q E h
  obtain ⟨p, _, _, rfl, _⟩ := h
  rfl
abbrev N_word_at : List Str := ["words", "at"]
theorem sc_word_at : FnScope N_word_at ["words", "at"] (defScope S_word_at) := ⟨rfl, rfl, rfl, by decide +kernel, rfl, by decide +kernel, by decide +kernel⟩
theorem ok_word_at {P : Program} {w : World} {K : PySem.W.Frag} {mg : Str → Option Value} {base : Heap} {f : Addr} {fd : FuncData} (F : Fun K "word_at" "word_at" S_word_at f fd) (m_len : mg "len" = none) :
    FnG P w K mg base CX0 1 f fd ["words", "at"] (sp_word_at K) := by
  refine Fun_okG F sc_word_at (ar_word_at K) (fun cdv A outer s H vs Q E hg hr h => ?_)
  obtain ⟨a, ws, n, rfl, ha, wl, nl, q⟩ := h
  refine ⟨_, (pss_one (ps_ret (pe_ifExp (pt_cmpR op_lt (pv 1) (pe_callB (id := "len") (lenK (K := K) rfl) (by rfl) m_len (by decide +kernel) (pa_cons (pv 0) pa_nil)) (nomark _)) (pe_ix (ixK (K := K) rfl) (pv 0) (pv 1) (fun _ _ => rfl)) pe_str))), ?_⟩
  walk_at "rd_6"
  by_cases c : n < ws.length
  · rw [decide_eq_true (show (n : Int) < ((ws.map V.str).length : Int) by rw [List.length_map]; omega)]
    refine iteT ?_
    walk_at "rd_6"
    refine rd_sxL ha (atI_nat (wAt_in c)) ?_
    exact q
  · rw [decide_eq_false (show ¬ (n : Int) < ((ws.map V.str).length : Int) by rw [List.length_map]; omega)]
    refine iteF ?_
    walk_at "rd_6"
    rw [wAt_out (by omega)] at q
    exact q
def sp_read_natural (K : PySem.W.Frag) : Sp := fun vs H Q _ => ∃ (y : Str), vs = [.str y] ∧ y.length ≤ 100000 ∧ ∀ J, Same H J → Q (vO (natR y)) J
theorem ar_read_natural (K : PySem.W.Frag) : ∀ vs H Q E, sp_read_natural K vs H Q E → vs.length = 1 := by
  intro vs H Q E h
  obtain ⟨y, rfl, _⟩ := h
  rfl
abbrev N_read_natural : List Str := ["word", "sign"]
theorem sc_read_natural : FnScope N_read_natural ["word"] (defScope S_read_natural) := ⟨rfl, rfl, rfl, by decide +kernel, rfl, by decide +kernel, by decide +kernel⟩
theorem ok_read_natural {P : Program} {w : World} {K : PySem.W.Frag} {mg : Str → Option Value} {base : Heap} {f : Addr} {fd : FuncData} (F : Fun K "read_natural" "read_natural" S_read_natural f fd) {t_DIGITS : Nat} (c_DIGITS : mg "DIGITS" = some (.str "0123456789" t_DIGITS)) {t_MOST_DIGITS : Nat} (c_MOST_DIGITS : mg "MOST_DIGITS" = some (.int 100 t_MOST_DIGITS)) (m_int : mg "int" = none) (m_len : mg "len" = none) (m_all : mg "all" = none) :
    FnG P w K mg base CX0 1 f fd ["word"] (sp_read_natural K) := by
  refine Fun_okG F sc_read_natural (ar_read_natural K) (fun cdv A outer s H vs Q E hg hr h => ?_)
  obtain ⟨y, rfl, wl, q⟩ := h
  refine ⟨_, (pss_cons (ps_if (PW.pt (pw_or (pt_not (pt_chain op_le op_le pe_int (pe_callB (id := "len") call_len_str (by rfl) m_len (by decide +kernel) (pa_cons (pv 0) pa_nil)) (pe_glob (v := V.int 100) rfl c_MOST_DIGITS ⟨_, rfl⟩))) (pw_or1 (pt_not (pt_val (pe_callB (id := "all") (allK (K := K) rfl rfl) (by rfl) m_all (by decide +kernel) (pa_cons (pe_lc (own := [("sign", 1)]) rfl sc_read_natural.nd (pi_str (pv 0)) (blkOk_by (own := [("sign", 1)]) (N := N_read_natural) (sc := defScope S_read_natural) (by decide +kernel)) (fun _ _ _ _ _ => (pg_name (i := 1) sc_read_natural.nd rfl (Or.inl rfl))) (fun _ _ _ _ _ => pts_nil) (fun _ _ _ _ _ => (pe_cmpR op_in_sign (pv 1) (pe_glob (v := V.str "0123456789") (u := Value.str "0123456789" t_DIGITS) rfl c_DIGITS ⟨_, rfl⟩) rfl))) pa_nil))))))) (pss_one (ps_ret pe_non)) pss_nil)
    (pss_cons (ps_if (PW.pt (pw_and (pt_cmpR op_eq (pe_ix ix_str (pv 0) pe_int (fun _ _ => rfl)) pe_str (nomark _)) (pw_and1 (pt_cmpR op_gt (pe_callB (id := "len") call_len_str (by rfl) m_len (by decide +kernel) (pa_cons (pv 0) pa_nil)) pe_int (nomark _))))) (pss_one (ps_ret pe_non)) pss_nil)
    (pss_one (ps_ret (pe_callTy (T := "int") call_int_str (by rfl) m_int (by decide +kernel) (pa_cons (pv 0) pa_nil)))))), ?_⟩
  have sl := sizeLine_eq
  walk_at "rd_6"
  refine ⟨y, rfl, by omega, ?_⟩
  walk_at "rd_6"
  have off : natR y = none → Q .non H := fun e => by
    have := q H fun _ _ e => e
    rwa [e] at this
  by_cases c1 : 1 ≤ y.length
  · rw [decide_eq_true (show (1 : Int) ≤ (y.length : Int) by omega)]
    refine iteT ?_
    walk_at "rd_6"
    by_cases c2 : y.length ≤ 100
    · rw [decide_eq_true (show (y.length : Int) ≤ 100 by omega)]
      refine iteF ?_
      walk_at "rd_6"
      refine rd_iStr ?_
      walk_at "rd_6"
      refine ⟨y, rfl, fun D nD => ?_⟩
      refine lc_mapS (fun c => .bl (decide (c ∈ TL.tl ("0123456789" : Str)))) (by omega) nD (fun c hc l R r => ?_) ?_
      · walk_at "rd_6"
        exact ⟨c, _, rfl, rfl, r⟩
      have sD : Same H (upd H D (.lst ((TL.tl y).map fun c => .bl (decide (c ∈ TL.tl ("0123456789" : Str)))))) := same_new nD
      generalize eJ : upd H D (.lst ((TL.tl y).map fun c => V.bl (decide (c ∈ TL.tl ("0123456789" : Str))))) = J at sD
      have hJ : J D = some (.lst (((TL.tl y).map fun c => decide (c ∈ TL.tl ("0123456789" : Str))).map V.bl)) := by rw [← eJ, upd_same, List.map_map]; rfl
      clear eJ
      have off2 : natR y = none → Q .non J := fun e => by
        have := q J sD
        rwa [e] at this
      walk_at "rd_6"
      refine rd_all (SqL.of hJ) ?_
      rw [all_dig]
      by_cases c3 : (TL.tl y).all (fun c => decide (48 ≤ c ∧ c ≤ 57)) = true
      · rw [c3]
        refine ⟨true, rfl, ?_⟩
        refine iteF ?_
        walk_at "rd_6"
        obtain ⟨a, l, el⟩ : ∃ a l, TL.tl y = a :: l := by
          have := TL.len_tl y
          cases e : TL.tl y with
          | nil => rw [e, List.length_nil] at this; omega
          | cons a l => exact ⟨a, l, rfl⟩
        refine ⟨y, 0, a, rfl, rfl, by omega, atI_nat (j := 0) (by rw [show y.cps.toList = a :: l from el]; rfl), ?_⟩
        walk_at "rd_6"
        refine rd_eqStr ?_
        have fin : ¬ (a = 48 ∧ 1 < y.length) → ∃ a n, [V.str y] = [V.str a] ∧ PySem.intText? a = some n ∧ a.length ≤ 640 ∧ Q (V.int n) J := fun h => by
          have en : natR y = some (NumText.digitsVal (TL.tl y)) := natR_yes ⟨⟨c1, c2⟩, c3, by rw [el]; simpa using h⟩
          refine rd_intS en ?_
          have := q J sD
          rwa [en] at this
        by_cases c4 : a = 48
        · subst c4
          rw [decide_eq_true (show ({ cps := #[48] } : Str) = "0" by decide +kernel)]
          refine ⟨true, rfl, ?_⟩
          refine iteT ?_
          walk_at "rd_6"
          refine ⟨y, rfl, by omega, ?_⟩
          walk_at "rd_6"
          by_cases c5 : 1 < y.length
          · rw [decide_eq_true (show (1 : Int) < (y.length : Int) by omega)]
            refine iteT ?_
            walk_at "rd_6"
            exact off2 (natR_no fun h => h.2.2 ⟨by rw [el]; rfl, c5⟩)
          · rw [decide_eq_false (show ¬ (1 : Int) < (y.length : Int) by omega)]
            refine iteF ?_
            walk_at "rd_6"
            exact fin fun h => c5 h.2
        · rw [decide_eq_false (show ¬ ({ cps := #[a] } : Str) = "0" from fun z => c4 (by have := congrArg TL.tl z; rw [show TL.tl ("0" : Str) = [48] by decide +kernel] at this; exact (List.cons.inj (show [a] = [48] from this)).1))]
          refine ⟨false, rfl, ?_⟩
          refine iteF ?_
          refine iteF ?_
          walk_at "rd_6"
          exact fin fun h => c4 h.1
      · rw [Bool.not_eq_true] at c3
        rw [c3]
        refine ⟨false, rfl, ?_⟩
        refine iteT ?_
        walk_at "rd_6"
        exact off2 (natR_no fun h => by rw [h.2.1] at c3; cases c3)
    · rw [decide_eq_false (show ¬ (y.length : Int) ≤ 100 by omega)]
      refine iteT ?_
      refine iteT ?_
      walk_at "rd_6"
      exact off (natR_no fun h => c2 h.1.2)
  · rw [decide_eq_false (show ¬ (1 : Int) ≤ (y.length : Int) by omega)]
    refine iteF ?_
    refine ⟨false, rfl, ?_⟩
    refine iteT ?_
    refine iteT ?_
    walk_at "rd_6"
    exact off (natR_no fun h => c1 h.1.1)
def sp__read_integer (K : PySem.W.Frag) : Sp := fun vs H Q _ => ∃ (y : Str), vs = [.str y] ∧ y.length ≤ 100000 ∧ ∀ J, Same H J → Q (vI (intR y)) J
theorem ar__read_integer (K : PySem.W.Frag) : ∀ vs H Q E, sp__read_integer K vs H Q E → vs.length = 1 := by
  intro vs H Q E h
  obtain ⟨y, rfl, _⟩ := h
  rfl
abbrev N__read_integer : List Str := ["word", "number"]
theorem sc__read_integer : FnScope N__read_integer ["word"] (defScope S__read_integer) := ⟨rfl, rfl, rfl, by decide +kernel, rfl, by decide +kernel, by decide +kernel⟩
theorem ok__read_integer {P : Program} {w : World} {K : PySem.W.Frag} {mg : Str → Option Value} {base : Heap} {f : Addr} {fd : FuncData} (F : Fun K "_read_integer" "_read_integer" S__read_integer f fd) {f_read_natural : Addr} {fd_read_natural : FuncData} (C_read_natural : Cal P w K mg base "read_natural" 1 f_read_natural fd_read_natural ["word"] (sp_read_natural K)) :
    FnG P w K mg base CX0 2 f fd ["word"] (sp__read_integer K) := by
  refine Fun_okG F sc__read_integer (ar__read_integer K) (fun cdv A outer s H vs Q E hg hr h => ?_)
  obtain ⟨y, rfl, wl, q⟩ := h
  refine ⟨_, (pss_cons (ps_if (pt_not (pt_val (pe_m1 PySem.F.slot_str_startswith PySem.F.type_str_startswith mt_startswith (pv 0) pe_str))) (pss_one (ps_ret (pe_c C_read_natural hg (hr.mono (by decide)) rfl (pa_cons (pv 0) pa_nil)))) pss_nil)
    (pss_cons (ps_set (i := 1) sc__read_integer.nd rfl (Or.inl rfl) (pe_c C_read_natural hg (hr.mono (by decide)) rfl (pa_cons (pe_slice sl_str (pv 0) (po_some pe_int) po_none) pa_nil)))
    (pss_one (ps_ret (pe_ifExp (pt_truth (pv 1) (fun _ => rfl)) (pe_un un_neg (pv 1)) pe_non))))), ?_⟩
  have sl := sizeLine_eq
  walk_at "rd_6"
  refine rd_m1 ?_
  walk_at "rd_6"
  refine ⟨⟨_, rfl⟩, ?_⟩
  walk_at "rd_6"
  refine ⟨_, _, rfl, rfl, ?_⟩
  rw [minus_eq]
  walk_at "rd_6"
  by_cases c : minus y = true
  · rw [c]
    refine iteF ?_
    walk_at "rd_6"
    refine ⟨y, rfl, by omega, ?_⟩
    walk_at "rd_6"
    refine ⟨tailS y, rfl, by have := cutS_length y (some 1) none; show (cutS y (some 1) none).length ≤ _; omega, fun J s => ?_⟩
    walk_at "rd_6"
    have q' := q J s
    unfold intR at q'
    rw [if_pos c] at q'
    cases e : natR (tailS y) with
    | none =>
      rw [e] at q'
      refine ⟨false, rfl, ?_⟩
      refine iteF ?_
      walk_at "rd_6"
      exact q'
    | some n =>
      rw [e] at q'
      dsimp only at q'
      by_cases z : n = 0
      · subst z
        rw [if_pos rfl] at q'
        refine ⟨false, rfl, ?_⟩
        refine iteF ?_
        walk_at "rd_6"
        exact q'
      · rw [if_neg z] at q'
        refine ⟨true, by show true = ((n : Int) != 0); simp [z], ?_⟩
        refine iteT ?_
        dsimp only [vO]
        walk_at "rd_6"
        exact q'
  · rw [Bool.not_eq_true] at c
    rw [c]
    refine iteT ?_
    walk_at "rd_6"
    refine ⟨y, rfl, wl, fun J s => ?_⟩
    have := q J s
    unfold intR at this
    rw [if_neg (by rw [c]; decide)] at this
    cases e : natR y with
    | none => rw [e] at this; exact this
    | some n => rw [e] at this; exact this

/-! ### amounts, stretches, items read -/
def amR (w : Str) : Option (Int × Int) := match amQ w with
  | some (x, y) => if amT (ratT x (y : Int)) = true then some (x, (y : Int)) else none
  | none => none
theorem natR_bd {w : Str} {n : Nat} (h : natR w = some n) : Bd 900 (n : Int) := by
  have := natR_lt h
  have : (10 : Nat) ^ 100 < 2 ^ 900 := by decide
  unfold Bd
  omega
theorem intR_bd {w : Str} {i : Int} (h : intR w = some i) : Bd 900 i := by
  have := intR_lt h
  have : (10 : Nat) ^ 100 < 2 ^ 900 := by decide
  unfold Bd
  omega
def thI : Option Int → Th
  | none => .non
  | some n => .int n
theorem thI_at {K : PySem.W.Frag} {b : Addr} {H : Hp} {w : Str} : ThAt K b H (vI (intR w)) (thI (intR w)) := by
  cases e : intR w with
  | none => exact .non
  | some n => exact .int _ (intR_bd e)
def sp__read_amount (K : PySem.W.Frag) : Sp := fun vs H Q _ => ∃ (y : Str), vs = [.str y] ∧ y.length ≤ 100000 ∧ (amR y = none → ∀ J, Same H J → Q .non J) ∧ ∀ r, amR y = some r → ∀ p J, H p = none → Same H J → J p = some (.tup [.int r.1, .int r.2]) → Q (.ref p) J
theorem ar__read_amount (K : PySem.W.Frag) : ∀ vs H Q E, sp__read_amount K vs H Q E → vs.length = 1 := by
  intro vs H Q E h
  obtain ⟨y, rfl, _⟩ := h
  rfl
abbrev N__read_amount : List Str := ["word", "over", "slash", "below", "top", "under"]
theorem sc__read_amount : FnScope N__read_amount ["word"] (defScope S__read_amount) := ⟨rfl, rfl, rfl, by decide +kernel, rfl, by decide +kernel, by decide +kernel⟩
theorem ok__read_amount {P : Program} {w : World} {K : PySem.W.Frag} {mg : Str → Option Value} {base : Heap} {f : Addr} {fd : FuncData} (F : Fun K "_read_amount" "_read_amount" S__read_amount f fd) {f_is_amount : Addr} {fd_is_amount : FuncData} (C_is_amount : Cal P w K mg base "is_amount" 3 f_is_amount fd_is_amount ["thing"] (sp_is_amount K)) {f_read_natural : Addr} {fd_read_natural : FuncData} (C_read_natural : Cal P w K mg base "read_natural" 1 f_read_natural fd_read_natural ["word"] (sp_read_natural K)) {f__read_integer : Addr} {fd__read_integer : FuncData} (C__read_integer : Cal P w K mg base "_read_integer" 2 f__read_integer fd__read_integer ["word"] (sp__read_integer K)) :
    FnG P w K mg base CX0 4 f fd ["word"] (sp__read_amount K) := by
  refine Fun_okG F sc__read_amount (ar__read_amount K) (fun cdv A outer s H vs Q E hg hr h => ?_)
  obtain ⟨y, rfl, yl, q0, q1⟩ := h
  refine ⟨_, (pss_cons (ps_asg (pe_partition (pv 0) pe_str) (pg_tup rfl (pgs_cons (pg_name (i := 1) sc__read_amount.nd rfl (Or.inl rfl)) (pgs_cons (pg_name (i := 2) sc__read_amount.nd rfl (Or.inl rfl)) (pgs_cons (pg_name (i := 3) sc__read_amount.nd rfl (Or.inl rfl)) pgs_nil)))))
    (pss_cons (ps_set (i := 4) sc__read_amount.nd rfl (Or.inl rfl) (pe_c C__read_integer hg (hr.mono (by decide)) rfl (pa_cons (pv 1) pa_nil)))
    (pss_cons (ps_set (i := 5) sc__read_amount.nd rfl (Or.inl rfl) (pe_ifExp (pt_truth (pv 2) (fun _ => rfl)) (pe_c C_read_natural hg (hr.mono (by decide)) rfl (pa_cons (pv 3) pa_nil)) pe_int))
    (pss_cons (ps_if (PW.pt (pw_or (PW.pt (pw_and (pt_truth (pv 2) (fun _ => rfl)) (pw_and1 (pt_cmpR op_eq (pv 5) pe_int (nomark _))))) (pw_or1 (pt_not (pt_val (pe_c C_is_amount hg (hr.mono (by decide)) rfl (pa_cons (pe_tup (pa_cons (pv 4) (pa_cons (pv 5) pa_nil))) pa_nil))))))) (pss_one (ps_ret pe_non)) pss_nil)
    (pss_one (ps_ret (pe_tup (pa_cons (pv 4) (pa_cons (pv 5) pa_nil))))))))), ?_⟩
  have sl := sizeLine_eq
  walk_at "rd_6"
  refine rd_m1 ?_
  walk_at "rd_6"
  refine ⟨⟨_, rfl⟩, ?_⟩
  walk_at "rd_6"
  refine ⟨y, "/", rfl, rfl, by decide +kernel, by omega, fun pT n1 => ?_⟩
  have s1 := same_new (H := H) (p := pT) (o := .tup [.str (Txt.partition y "/").1, .str (Txt.partition y "/").2.1, .str (Txt.partition y "/").2.2]) n1
  have e1 : upd H pT (.tup [.str (Txt.partition y "/").1, .str (Txt.partition y "/").2.1, .str (Txt.partition y "/").2.2]) pT = some (.tup [.str (Txt.partition y "/").1, .str (Txt.partition y "/").2.1, .str (Txt.partition y "/").2.2]) := upd_same
  generalize upd H pT (.tup [.str (Txt.partition y "/").1, .str (Txt.partition y "/").2.1, .str (Txt.partition y "/").2.2]) = J1 at s1 e1 ⊢
  rcases part_cases y with eP | ⟨o, be, eP, lo, lb⟩
  · have aQ := amQ_A eP
    rw [eP] at e1
    dsimp only at e1
    walk_at "rd_6"
    refine ⟨y, rfl, yl, fun J2 s2 => ?_⟩
    have s12 := Same.trans s1 s2
    have tw : ThAt K 0 J2 (vI (intR y)) (thI (intR y)) := thI_at
    walk_at "rd_6"
    refine ⟨false, ⟨by decide +kernel, by decide +kernel⟩, ?_⟩
    refine iteF ?_
    walk_at "rd_6"
    refine ⟨false, ⟨by decide +kernel, by decide +kernel⟩, ?_⟩
    refine iteF ?_
    refine iteF ?_
    walk_at "rd_6"
    rename_i p3 J3 n3 s3 e3
    refine ⟨.ref p3, .tup [thI (intR y), .int 1], 0, rfl, .tup (SqT.of e3) (.cons (tw.same s3) (.cons (.int _ (by unfold Bd; decide)) .nil)), ?_⟩
    walk_at "rd_6"
    cases eo : intR y with
    | none =>
      rw [show amT (.tup [thI none, .int 1]) = false from rfl]
      refine iteT ?_
      walk_at "rd_6"
      refine q0 ?_ _ (Same.trans s12 s3)
      unfold amR
      rw [aQ, eo]
    | some x =>
      have eR : amR y = if amT (ratT x (1 : Nat)) = true then some (x, ((1 : Nat) : Int)) else none := by
        unfold amR
        rw [aQ, eo]
      rw [show amT (.tup [thI (some x), .int 1]) = amT (ratT x (1 : Nat)) from rfl]
      by_cases c : amT (ratT x (1 : Nat)) = true
      · rw [if_pos c] at eR
        rw [c]
        refine iteF ?_
        dsimp only [vI]
        walk_at "rd_6"
        rename_i p4 J4 n4 s4 e4
        exact q1 _ eR _ _ (Same.none (Same.trans s12 s3) n4) (Same.trans s12 (Same.trans s3 s4)) e4
      · rw [if_neg c] at eR
        rw [Bool.not_eq_true] at c
        rw [c]
        refine iteT ?_
        walk_at "rd_6"
        exact q0 eR _ (Same.trans s12 s3)
  · have aQ := amQ_B eP
    rw [eP] at e1
    dsimp only at e1
    walk_at "rd_6"
    refine ⟨o, rfl, by omega, fun J2 s2 => ?_⟩
    have tw : ∀ J, ThAt K 0 J (vI (intR o)) (thI (intR o)) := fun J => thI_at
    walk_at "rd_6"
    refine ⟨true, ⟨by decide +kernel, by decide +kernel⟩, ?_⟩
    refine iteT ?_
    walk_at "rd_6"
    refine ⟨be, rfl, by omega, fun J3 s3 => ?_⟩
    have s13 := Same.trans s1 (Same.trans s2 s3)
    walk_at "rd_6"
    refine ⟨true, ⟨by decide +kernel, by decide +kernel⟩, ?_⟩
    refine iteT ?_
    walk_at "rd_6"
    cases eb : natR be with
    | none =>
      have eR : amR y = none := by
        unfold amR
        rw [aQ, eb]
        cases intR o <;> rfl
      refine ⟨rfl, ?_⟩
      refine ⟨false, congrArg V.bl (decide_eq_false fun z => by cases z), ?_⟩
      refine iteF ?_
      walk_at "rd_6"
      rename_i p4 J4 n4 s4 e4
      refine ⟨.ref p4, .tup [thI (intR o), .non], 0, rfl, .tup (SqT.of e4) (.cons (tw J4) (.cons .non .nil)), ?_⟩
      walk_at "rd_6"
      rw [show amT (.tup [thI (intR o), .non]) = false by cases intR o <;> rfl]
      refine iteT ?_
      walk_at "rd_6"
      exact q0 eR _ (Same.trans s13 s4)
    | some n =>
      have nb := natR_bd eb
      dsimp only [vO]
      refine rd_eqI ?_
      by_cases c1 : n = 1
      · have eR : amR y = none := by
          unfold amR
          rw [aQ, eb]
          cases intR o with
          | none => rfl
          | some x =>
            dsimp only
            rw [if_pos c1]
        refine ⟨true, congrArg V.bl (decide_eq_true (by omega)), ?_⟩
        refine iteT ?_
        refine iteT ?_
        walk_at "rd_6"
        exact q0 eR _ s13
      refine ⟨false, congrArg V.bl (decide_eq_false (by omega)), ?_⟩
      refine iteF ?_
      walk_at "rd_6"
      rename_i p4 J4 n4 s4 e4
      refine ⟨.ref p4, .tup [thI (intR o), .int (n : Int)], 0, rfl, .tup (SqT.of e4) (.cons (tw J4) (.cons (.int _ nb) .nil)), ?_⟩
      walk_at "rd_6"
      cases eo : intR o with
      | none =>
        rw [show amT (.tup [thI none, .int (n : Int)]) = false from rfl]
        refine iteT ?_
        walk_at "rd_6"
        refine q0 ?_ _ (Same.trans s13 s4)
        unfold amR
        rw [aQ, eo]
      | some x =>
        have eR : amR y = if amT (ratT x (n : Int)) = true then some (x, (n : Int)) else none := by
          unfold amR
          rw [aQ, eo, eb]
          dsimp only
          rw [if_neg c1]
        rw [show amT (.tup [thI (some x), .int (n : Int)]) = amT (ratT x (n : Int)) from rfl]
        by_cases c : amT (ratT x (n : Int)) = true
        · rw [if_pos c] at eR
          rw [c]
          refine iteF ?_
          dsimp only [vI]
          walk_at "rd_6"
          rename_i p5 J5 n5 s5 e5
          exact q1 _ eR _ _ (Same.none (Same.trans s13 s4) n5) (Same.trans s13 (Same.trans s4 s5)) e5
        · rw [if_neg c] at eR
          rw [Bool.not_eq_true] at c
          rw [c]
          refine iteT ?_
          walk_at "rd_6"
          exact q0 eR _ (Same.trans s13 s4)
def wrS (ws : List Str) (n : Nat) : Option Nat := match natR (wAt ws n) with
  | none => some n
  | some f => if 10 ^ 30 ≤ f then some n else match natR (wAt ws (n + 1)) with
    | none => some (n + 1)
    | some m => if 1 ≤ m ∧ m ≤ 10 ^ 30 - f then none else some (n + 1)
def sp_wrong_in_stretch (K : PySem.W.Frag) : Sp := fun vs H Q _ => ∃ (a : Addr) (ws : List Str) (n : Nat), vs = [.ref a, .int (n : Int)] ∧ SqL K H a (ws.map V.str) ∧ ws.length ≤ 100000 ∧ n ≤ 100 ∧ (∀ w ∈ ws, w.length ≤ 100000) ∧ ∀ J, Same H J → Q (vO (wrS ws n)) J
theorem ar_wrong_in_stretch (K : PySem.W.Frag) : ∀ vs H Q E, sp_wrong_in_stretch K vs H Q E → vs.length = 2 := by
  intro vs H Q E h
  obtain ⟨a, _, _, rfl, _⟩ := h
  rfl
abbrev N_wrong_in_stretch : List Str := ["words", "at", "first", "many"]
theorem sc_wrong_in_stretch : FnScope N_wrong_in_stretch ["words", "at"] (defScope S_wrong_in_stretch) := ⟨rfl, rfl, rfl, by decide +kernel, rfl, by decide +kernel, by decide +kernel⟩
theorem ok_wrong_in_stretch {P : Program} {w : World} {K : PySem.W.Frag} {mg : Str → Option Value} {base : Heap} {f : Addr} {fd : FuncData} (F : Fun K "wrong_in_stretch" "wrong_in_stretch" S_wrong_in_stretch f fd) {f_read_natural : Addr} {fd_read_natural : FuncData} (C_read_natural : Cal P w K mg base "read_natural" 1 f_read_natural fd_read_natural ["word"] (sp_read_natural K)) {f_word_at : Addr} {fd_word_at : FuncData} (C_word_at : Cal P w K mg base "word_at" 1 f_word_at fd_word_at ["words", "at"] (sp_word_at K)) {t_LAST_DAY : Nat} (c_LAST_DAY : mg "LAST_DAY" = some (.int 1000000000000000000000000000000 t_LAST_DAY)) :
    FnG P w K mg base CX0 2 f fd ["words", "at"] (sp_wrong_in_stretch K) := by
  refine Fun_okG F sc_wrong_in_stretch (ar_wrong_in_stretch K) (fun cdv A outer s H vs Q E hg hr h => ?_)
  obtain ⟨a, ws, n, rfl, ha, wl, nl, wz, q⟩ := h
  refine ⟨_, (pss_cons (ps_set (i := 2) sc_wrong_in_stretch.nd rfl (Or.inl rfl) (pe_c C_read_natural hg (hr.mono (by decide)) rfl (pa_cons (pe_c C_word_at hg (hr.mono (by decide)) rfl (pa_cons (pv 0) (pa_cons (pv 1) pa_nil))) pa_nil)))
    (pss_cons (ps_if (PW.pt (pw_or (pt_cmpR op_isN1 (pv 2) pe_non (nomark _)) (pw_or1 (pt_cmpR op_ge (pv 2) (pe_glob (v := V.int 1000000000000000000000000000000) rfl c_LAST_DAY ⟨_, rfl⟩) (nomark _))))) (pss_one (ps_ret (pv 1))) pss_nil)
    (pss_cons (ps_set (i := 3) sc_wrong_in_stretch.nd rfl (Or.inl rfl) (pe_c C_read_natural hg (hr.mono (by decide)) rfl (pa_cons (pe_c C_word_at hg (hr.mono (by decide)) rfl (pa_cons (pv 0) (pa_cons (pe_op op_add (pv 1) pe_int) pa_nil))) pa_nil)))
    (pss_cons (ps_if (PW.pt (pw_or (pt_cmpR op_isN1 (pv 3) pe_non (nomark _)) (pw_or1 (pt_not (pt_chain op_le op_le pe_int (pv 3) (pe_op op_sub (pe_glob (v := V.int 1000000000000000000000000000000) rfl c_LAST_DAY ⟨_, rfl⟩) (pv 2))))))) (pss_one (ps_ret (pe_op op_add (pv 1) pe_int))) pss_nil)
    (pss_one (ps_ret pe_non)))))), ?_⟩
  have wz' : ∀ n, (wAt ws n).length ≤ 100000 := fun n => wAt_len wz n
  walk_at "rd_6"
  refine ⟨a, ws, n, rfl, ha, wl, by omega, ?_⟩
  walk_at "rd_6"
  refine ⟨_, rfl, wz' n, fun J1 s1 => ?_⟩
  walk_at "rd_6"
  cases e1 : natR (wAt ws n) with
  | none =>
    have r : wrS ws n = some n := by simp only [wrS, e1]
    rw [r] at q
    refine rd_isN ?_
    refine rd_isN1 ?_
    refine iteT ?_
    refine iteT ?_
    walk_at "rd_6"
    exact q J1 s1
  | some f =>
    have fl := natR_lt e1
    dsimp only [vO]
    refine rd_isN ?_
    refine rd_isN0 ?_
    refine iteF ?_
    walk_at "rd_6"
    by_cases c : 10 ^ 30 ≤ f
    · have r : wrS ws n = some n := by simp only [wrS, e1, if_pos c]
      rw [r] at q
      rw [decide_eq_true (show (1000000000000000000000000000000 : Int) ≤ (f : Int) by omega)]
      refine iteT ?_
      walk_at "rd_6"
      exact q J1 s1
    rw [decide_eq_false (show ¬ (1000000000000000000000000000000 : Int) ≤ (f : Int) by omega)]
    refine iteF ?_
    walk_at "rd_6"
    refine ⟨a, ws, n + 1, rfl, sql_sameT s1 ha, wl, by omega, ?_⟩
    walk_at "rd_6"
    refine ⟨_, rfl, wz' (n + 1), fun J2 s2 => ?_⟩
    have s12 := Same.trans s1 s2
    walk_at "rd_6"
    cases e2 : natR (wAt ws (n + 1)) with
    | none =>
      have r : wrS ws n = some (n + 1) := by simp only [wrS, e1, if_neg c, e2]
      rw [r] at q
      refine rd_isN ?_
      refine rd_isN1 ?_
      refine iteT ?_
      refine iteT ?_
      walk_at "rd_6"
      exact q J2 s12
    | some m =>
      have ml := natR_lt e2
      dsimp only [vO]
      refine rd_isN ?_
      refine rd_isN0 ?_
      refine iteF ?_
      walk_at "rd_6"
      by_cases c1 : 1 ≤ m
      · rw [decide_eq_true (show (1 : Int) ≤ (m : Int) by omega)]
        refine iteT ?_
        walk_at "rd_6"
        by_cases c2 : m ≤ 10 ^ 30 - f
        · have r : wrS ws n = none := by simp only [wrS, e1, if_neg c, e2, if_pos (And.intro c1 c2)]
          rw [r] at q
          rw [decide_eq_true (show (m : Int) ≤ 1000000000000000000000000000000 - (f : Int) by omega)]
          refine iteF ?_
          walk_at "rd_6"
          exact q J2 s12
        · have r : wrS ws n = some (n + 1) := by simp only [wrS, e1, if_neg c, e2, if_neg (fun h : 1 ≤ m ∧ m ≤ 10 ^ 30 - f => c2 h.2)]
          rw [r] at q
          rw [decide_eq_false (show ¬ (m : Int) ≤ 1000000000000000000000000000000 - (f : Int) by omega)]
          refine iteT ?_
          walk_at "rd_6"
          exact q J2 s12
      · have r : wrS ws n = some (n + 1) := by simp only [wrS, e1, if_neg c, e2, if_neg (fun h : 1 ≤ m ∧ m ≤ 10 ^ 30 - f => c1 h.1)]
        rw [r] at q
        rw [decide_eq_false (show ¬ (1 : Int) ≤ (m : Int) by omega)]
        refine iteF ?_
        refine ⟨false, rfl, ?_⟩
        refine iteT ?_
        walk_at "rd_6"
        exact q J2 s12

/-! ### the words of an item -/
/-- what stands last: amounts or a number -/
def rdW (en : Bool) (w : Str) : Bool := if en then (amR w).isSome else (intR w).isSome
def wsR (K : PySem.W.Frag) (b : Bool) : Sp := if b then sp__read_amount K else sp__read_integer K
theorem wayR {P : Program} {w : World} {K : PySem.W.Frag} {mg : Str → Option Value} {base : Heap} {k1 k2 : Nat} {f1 f2 : Addr} {d1 d2 : FuncData} {a1 a2 : List Str} (C1 : Cal P w K mg base "_read_amount" k1 f1 d1 a1 (sp__read_amount K)) (C2 : Cal P w K mg base "_read_integer" k2 f2 d2 a2 (sp__read_integer K))
    (h1 : k1 ≤ 4 := by decide) (h2 : k2 ≤ 4 := by decide) : ∀ f b, (f = f1 ∧ b = true) ∨ (f = f2 ∧ b = false) → FnV0 P w K mg base 4 f (wsR K b) := by
  intro f b h
  rcases h with ⟨rfl, rfl⟩ | ⟨rfl, rfl⟩
  · exact ⟨k1, d1, a1, h1, C1.g, C1.b, C1.kp⟩
  · exact ⟨k2, d2, a2, h2, C2.g, C2.b, C2.kp⟩
def wrL (en : Bool) (ws : List Str) (st : Nat) : Nat → Nat → Option Nat
  | 0, p => if p < ws.length then some p else none
  | r + 1, p => if p = ws.length ∧ st < ws.length then none else if rdW en (wAt ws p) = true then wrL en ws st r (p + 1) else some p
def mostN (en : Bool) : Nat := if en then 4 else 1
def isE (w : Str) : Bool := decide (w = "entry")
def wrI (ws : List Str) (n : Nat) : Option Nat := if wAt ws n = "entry" ∨ wAt ws n = "statement" then (match wrS ws (n + 1) with
    | some p => some p
    | none => wrL (isE (wAt ws n)) ws (n + 3) (mostN (isE (wAt ws n))) (n + 3)) else some n
def sp_wrong_in_item (K : PySem.W.Frag) : Sp := fun vs H Q _ => ∃ (a : Addr) (ws : List Str) (n : Nat), vs = [.ref a, .int (n : Int)] ∧ SqL K H a (ws.map V.str) ∧ ws.length ≤ 100000 ∧ n ≤ 50 ∧ (∀ w ∈ ws, w.length ≤ 100000) ∧ (∀ w ∈ ws, PyData.strOk w = true) ∧ ∀ J, Same H J → Q (vO (wrI ws n)) J
theorem ar_wrong_in_item (K : PySem.W.Frag) : ∀ vs H Q E, sp_wrong_in_item K vs H Q E → vs.length = 2 := by
  intro vs H Q E h
  obtain ⟨a, _, _, rfl, _⟩ := h
  rfl
abbrev N_wrong_in_item : List Str := ["words", "at", "kind", "wrong", "most", "read", "start", "place"]
theorem sc_wrong_in_item : FnScope N_wrong_in_item ["words", "at"] (defScope S_wrong_in_item) := ⟨rfl, rfl, rfl, by decide +kernel, rfl, by decide +kernel, by decide +kernel⟩
theorem ok_wrong_in_item {P : Program} {w : World} {K : PySem.W.Frag} {mg : Str → Option Value} {base : Heap} {f : Addr} {fd : FuncData} (F : Fun K "wrong_in_item" "wrong_in_item" S_wrong_in_item f fd) {f_word_at : Addr} {fd_word_at : FuncData} (C_word_at : Cal P w K mg base "word_at" 1 f_word_at fd_word_at ["words", "at"] (sp_word_at K)) {f__read_amount : Addr} {fd__read_amount : FuncData} (C__read_amount : Cal P w K mg base "_read_amount" 4 f__read_amount fd__read_amount ["word"] (sp__read_amount K)) {f__read_integer : Addr} {fd__read_integer : FuncData} (C__read_integer : Cal P w K mg base "_read_integer" 2 f__read_integer fd__read_integer ["word"] (sp__read_integer K)) {f_wrong_in_stretch : Addr} {fd_wrong_in_stretch : FuncData} (C_wrong_in_stretch : Cal P w K mg base "wrong_in_stretch" 2 f_wrong_in_stretch fd_wrong_in_stretch ["words", "at"] (sp_wrong_in_stretch K)) {t_MOST_AMOUNTS : Nat} (c_MOST_AMOUNTS : mg "MOST_AMOUNTS" = some (.int 4 t_MOST_AMOUNTS)) (m_len : mg "len" = none) (m_range : mg "range" = none) :
    FnG P w K mg base CX0 5 f fd ["words", "at"] (sp_wrong_in_item K) := by
  refine Fun_okG F sc_wrong_in_item (ar_wrong_in_item K) (fun cdv A outer s H vs Q E hg hr h => ?_)
  obtain ⟨a, ws, n, rfl, ha, wl, nl, wz, wo, q⟩ := h
  refine ⟨_, (pss_cons (ps_set (i := 2) sc_wrong_in_item.nd rfl (Or.inl rfl) (pe_c C_word_at hg (hr.mono (by decide)) rfl (pa_cons (pv 0) (pa_cons (pv 1) pa_nil))))
    (pss_cons (ps_if (pt_cmpR (niTK (K := K) rfl hr) (pv 2) (pe_tup (pa_cons pe_str (pa_cons pe_str pa_nil))) rfl) (pss_one (ps_ret (pv 1))) pss_nil)
    (pss_cons (ps_set (i := 3) sc_wrong_in_item.nd rfl (Or.inl rfl) (pe_c C_wrong_in_stretch hg (hr.mono (by decide)) rfl (pa_cons (pv 0) (pa_cons (pe_op op_add (pv 1) pe_int) pa_nil))))
    (pss_cons (ps_if (pt_cmpR op_notN (pv 3) pe_non (nomark _)) (pss_one (ps_ret (pv 3))) pss_nil)
    (pss_cons (ps_set (i := 4) sc_wrong_in_item.nd rfl (Or.inl rfl) (pe_ifExp (pt_cmpR op_eq (pv 2) pe_str (nomark _)) (pe_glob (v := V.int 4) rfl c_MOST_AMOUNTS ⟨_, rfl⟩) pe_int))
    (pss_cons (ps_set (i := 5) sc_wrong_in_item.nd rfl (Or.inl rfl) (pe_ifExp (pt_cmpR op_eq (pv 2) pe_str (nomark _)) (pe_glob (v := V.ref f__read_amount) (u := Value.ref f__read_amount) rfl C__read_amount.m rfl) (pe_glob (v := V.ref f__read_integer) (u := Value.ref f__read_integer) rfl C__read_integer.m rfl)))
    (pss_cons (ps_set (i := 6) sc_wrong_in_item.nd rfl (Or.inl rfl) (pe_op op_add (pv 1) pe_int))
    (pss_cons (ps_for PassesOwn.never rfl (pi_range2 rfl m_range (pa_cons (pv 6) (pa_cons (pe_op op_add (pv 6) (pv 4)) pa_nil))) (pg_name (i := 7) sc_wrong_in_item.nd rfl (Or.inl rfl)) (pss_cons (ps_if (pt_chain op_eq op_gt (pv 7) (pe_callB (id := "len") (lenK (K := K) rfl) (by rfl) m_len (by decide +kernel) (pa_cons (pv 0) pa_nil)) (pv 6)) (pss_one (ps_ret pe_non)) pss_nil)
    (pss_one (ps_if (pt_cmpR op_isN1 (pe_callV0 (n := 4) (i := 5) (R := fun f b => (f = f__read_amount ∧ b = true) ∨ (f = f__read_integer ∧ b = false)) (sp := wsR K) (wayR C__read_amount C__read_integer) hg (hr.mono (by decide)) rfl (by first | exact Or.inl rfl | exact Or.inr (Or.inl rfl) | exact Or.inr (Or.inr rfl)) (pa_cons (pe_c C_word_at hg (hr.mono (by decide)) rfl (pa_cons (pv 0) (pa_cons (pv 7) pa_nil))) pa_nil)) pe_non (nomark _)) (pss_one (ps_ret (pv 7))) pss_nil))))
    (pss_one (ps_ret (pe_ifExp (pt_cmpR op_gt (pe_callB (id := "len") (lenK (K := K) rfl) (by rfl) m_len (by decide +kernel) (pa_cons (pv 0) pa_nil)) (pe_op op_add (pv 6) (pv 4)) (nomark _)) (pe_op op_add (pv 6) (pv 4)) pe_non))))))))))), ?_⟩
  have wz' : ∀ n, (wAt ws n).length ≤ 100000 := fun n => wAt_len wz n
  walk_at "rd_6"
  refine ⟨a, ws, n, rfl, ha, wl, by omega, ?_⟩
  have ko : PyData.strOk (wAt ws n) = true := wAt_ok wo n
  generalize hk : wAt ws n = kd at ko ⊢
  have key : (([PyData.str "entry", PyData.str "statement"].any fun z => PyData.eqv z (.str kd)) = true ∧ (kd = "entry" ∨ kd = "statement")) ∨
      (([PyData.str "entry", PyData.str "statement"].any fun z => PyData.eqv z (.str kd)) = false ∧ ¬ (kd = "entry" ∨ kd = "statement")) := by
    by_cases e1 : kd = ("entry" : Str)
    · subst e1
      exact .inl ⟨by decide +kernel, .inl rfl⟩
    · by_cases e2 : kd = ("statement" : Str)
      · subst e2
        exact .inl ⟨by decide +kernel, .inr rfl⟩
      · refine .inr ⟨?_, ?_⟩
        · simp [PyData.eqv, Ne.symm e1, Ne.symm e2]
        · simp [e1, e2]
  walk_at "rd_6"
  rename_i p J nJ sJ eJ
  refine rd_niT (.str _) (.tup (SqT.of eJ) (.cons (.str "entry") (.cons (.str "statement") .nil))) (by simp [SeqAt.shaped, PyData.canLay0, PyData.depth, ko]) (by decide +kernel) ?_
  rcases key with ⟨ek, hd⟩ | ⟨ek, hd⟩
  · rw [ek]
    walk_at "rd_6"
    refine iteF ?_
    walk_at "rd_6"
    have haJ := sql_sameT sJ ha
    refine ⟨a, ws, n + 1, rfl, haJ, wl, by omega, wz, fun J2 s2 => ?_⟩
    have sJ2 := Same.trans sJ s2
    have ha2 := sql_sameT s2 haJ
    have ha0 := ha
    clear sJ eJ nJ haJ s2 ha
    walk_at "rd_6"
    have rI : wrI ws n = match wrS ws (n + 1) with
      | some p => some p
      | none => wrL (isE kd) ws (n + 3) (mostN (isE kd)) (n + 3) := by
      unfold wrI
      rw [hk, if_pos hd]
    cases eS : wrS ws (n + 1) with
    | some p =>
      rw [eS] at rI
      rw [rI] at q
      refine ⟨rfl, ?_⟩
      refine ⟨true, by simp [vO], ?_⟩
      refine iteT ?_
      walk_at "rd_6"
      exact q J2 sJ2
    | none =>
      rw [eS] at rI
      dsimp only at rI
      refine ⟨rfl, ?_⟩
      refine ⟨false, by simp [vO], ?_⟩
      refine iteF ?_
      walk_at "rd_6"
      refine rd_eqStr ?_
      cases hen : isE kd with
      | true =>
        have ed : decide (kd = ("entry" : Str)) = true := hen
        rw [hen] at rI
        rw [ed]
        refine ⟨true, rfl, ?_⟩
        refine iteT ?_
        walk_at "rd_6"
        refine rd_eqStr ?_
        rw [ed]
        refine ⟨true, rfl, ?_⟩
        refine iteT ?_
        walk_at "rd_6"
        refine rd_for2 ?_
        walk_at "rd_6"
        refine ⟨by omega, ?_⟩
        rw [show (((n : Int) + 3 + 4) - ((n : Int) + 3)).toNat = 4 by omega]
        refine lp_rng (fun i σ M => ∃ o, σ = [some (.ref a), some (.int (n : Int)), some (.str kd), some (vO none), some (.int 4), some (.ref f__read_amount), some (.int ((n : Int) + 3)), o] ∧ Same H M ∧ wrI ws n = wrL true ws (n + 3) (4 - i) (n + 3 + i) ∧ i ≤ 4) ⟨none, rfl, sJ2, rI, by decide⟩ (fun i σ M hi z => ?_) (fun σ M z => ?_)
        · obtain ⟨o, rfl, s, r, _⟩ := z
          rw [show 4 - i = (4 - (i + 1)) + 1 by omega, wrL] at r
          have haM := sql_sameT s ha0
          clear rI
          walk_at "rd_6"
          rw [List.length_map]
          by_cases c1 : n + 3 + i = ws.length
          · rw [decide_eq_true (show (n : Int) + 3 + (i : Int) = (ws.length : Int) by omega)]
            refine iteT ?_
            walk_at "rd_6"
            by_cases c2 : n + 3 < ws.length
            · rw [decide_eq_true (show (n : Int) + 3 < (ws.length : Int) by omega)]
              rw [if_pos ⟨c1, c2⟩] at r
              have qq := q M s
              rw [r] at qq
              refine iteT ?_
              walk_at "rd_6"
              exact qq
            · rw [decide_eq_false (show ¬ (n : Int) + 3 < (ws.length : Int) by omega)]
              refine iteF ?_
              have cc : ¬ (n + 3 + i = ws.length ∧ n + 3 < ws.length) := fun h => c2 h.2
              rw [if_neg cc] at r
              walk_at "rd_6"
              refine rd_callV0 (b := true) rfl (.inl ⟨rfl, rfl⟩) ?_
              walk_at "rd_6"
              refine ⟨a, ws, n + 3 + i, by rw [show ((n + 3 + i : Nat) : Int) = (n : Int) + 3 + (i : Int) by omega]; rfl, haM, wl, by omega, ?_⟩
              walk_at "rd_6"
              refine ⟨_, rfl, wz' _, fun e J3 s3 => ?_, fun u e p3 J3 n3 s3 e3 => ?_⟩
              · rw [if_neg (show ¬ rdW true (wAt ws (n + 3 + i)) = true by rw [rdW]; simp [e])] at r
                have qq := q J3 (Same.trans s s3)
                rw [r] at qq
                walk_at "rd_6"
                refine rd_isN ?_
                refine rd_isN1 ?_
                refine iteT ?_
                walk_at "rd_6"
                exact qq
              · rw [if_pos (show rdW true (wAt ws (n + 3 + i)) = true by rw [rdW]; simp [e])] at r
                walk_at "rd_6"
                refine rd_isN ?_
                refine ⟨false, congrArg V.bl (decide_eq_false fun z => by cases z), ?_⟩
                refine iteF ?_
                walk_at "rd_6"
                refine ⟨_, rfl, Same.trans s s3, r, by omega⟩
          · rw [decide_eq_false (show ¬ (n : Int) + 3 + (i : Int) = (ws.length : Int) by omega)]
            refine iteF ?_
            refine ⟨false, rfl, ?_⟩
            refine iteF ?_
            have cc : ¬ (n + 3 + i = ws.length ∧ n + 3 < ws.length) := fun h => c1 h.1
            rw [if_neg cc] at r
            walk_at "rd_6"
            refine rd_callV0 (b := true) rfl (.inl ⟨rfl, rfl⟩) ?_
            walk_at "rd_6"
            refine ⟨a, ws, n + 3 + i, by rw [show ((n + 3 + i : Nat) : Int) = (n : Int) + 3 + (i : Int) by omega]; rfl, haM, wl, by omega, ?_⟩
            walk_at "rd_6"
            refine ⟨_, rfl, wz' _, fun e J3 s3 => ?_, fun u e p3 J3 n3 s3 e3 => ?_⟩
            · rw [if_neg (show ¬ rdW true (wAt ws (n + 3 + i)) = true by rw [rdW]; simp [e])] at r
              have qq := q J3 (Same.trans s s3)
              rw [r] at qq
              walk_at "rd_6"
              refine rd_isN ?_
              refine rd_isN1 ?_
              refine iteT ?_
              walk_at "rd_6"
              exact qq
            · rw [if_pos (show rdW true (wAt ws (n + 3 + i)) = true by rw [rdW]; simp [e])] at r
              walk_at "rd_6"
              refine rd_isN ?_
              refine ⟨false, congrArg V.bl (decide_eq_false fun z => by cases z), ?_⟩
              refine iteF ?_
              walk_at "rd_6"
              refine ⟨_, rfl, Same.trans s s3, r, by omega⟩
        · obtain ⟨o, rfl, s, r, _⟩ := z
          rw [show 4 - 4 = 0 from rfl, wrL] at r
          have haM := sql_sameT s ha0
          have qq := q M s
          rw [r] at qq
          walk_at "rd_6"
          rw [List.length_map]
          by_cases c1 : n + 3 + 4 < ws.length
          · rw [decide_eq_true (show (n : Int) + 3 + 4 < (ws.length : Int) by omega)]
            rw [if_pos c1] at qq
            refine iteT ?_
            walk_at "rd_6"
            exact qq
          · rw [decide_eq_false (show ¬ (n : Int) + 3 + 4 < (ws.length : Int) by omega)]
            rw [if_neg c1] at qq
            refine iteF ?_
            walk_at "rd_6"
            exact qq
      | false =>
        have ed : decide (kd = ("entry" : Str)) = false := hen
        rw [hen] at rI
        rw [ed]
        refine ⟨false, rfl, ?_⟩
        refine iteF ?_
        walk_at "rd_6"
        refine rd_eqStr ?_
        rw [ed]
        refine ⟨false, rfl, ?_⟩
        refine iteF ?_
        walk_at "rd_6"
        refine rd_for2 ?_
        walk_at "rd_6"
        refine ⟨by omega, ?_⟩
        rw [show (((n : Int) + 3 + 1) - ((n : Int) + 3)).toNat = 1 by omega]
        refine lp_rng (fun i σ M => ∃ o, σ = [some (.ref a), some (.int (n : Int)), some (.str kd), some (vO none), some (.int 1), some (.ref f__read_integer), some (.int ((n : Int) + 3)), o] ∧ Same H M ∧ wrI ws n = wrL false ws (n + 3) (1 - i) (n + 3 + i) ∧ i ≤ 1) ⟨none, rfl, sJ2, rI, by decide⟩ (fun i σ M hi z => ?_) (fun σ M z => ?_)
        · obtain ⟨o, rfl, s, r, _⟩ := z
          rw [show 1 - i = (1 - (i + 1)) + 1 by omega, wrL] at r
          have haM := sql_sameT s ha0
          clear rI
          walk_at "rd_6"
          rw [List.length_map]
          by_cases c1 : n + 3 + i = ws.length
          · rw [decide_eq_true (show (n : Int) + 3 + (i : Int) = (ws.length : Int) by omega)]
            refine iteT ?_
            walk_at "rd_6"
            by_cases c2 : n + 3 < ws.length
            · rw [decide_eq_true (show (n : Int) + 3 < (ws.length : Int) by omega)]
              rw [if_pos ⟨c1, c2⟩] at r
              have qq := q M s
              rw [r] at qq
              refine iteT ?_
              walk_at "rd_6"
              exact qq
            · rw [decide_eq_false (show ¬ (n : Int) + 3 < (ws.length : Int) by omega)]
              refine iteF ?_
              have cc : ¬ (n + 3 + i = ws.length ∧ n + 3 < ws.length) := fun h => c2 h.2
              rw [if_neg cc] at r
              walk_at "rd_6"
              refine rd_callV0 (b := false) rfl (.inr ⟨rfl, rfl⟩) ?_
              walk_at "rd_6"
              refine ⟨a, ws, n + 3 + i, by rw [show ((n + 3 + i : Nat) : Int) = (n : Int) + 3 + (i : Int) by omega]; rfl, haM, wl, by omega, ?_⟩
              walk_at "rd_6"
              refine ⟨_, rfl, wz' _, fun J3 s3 => ?_⟩
              cases e : intR (wAt ws (n + 3 + i)) with
              | none =>
                rw [if_neg (show ¬ rdW false (wAt ws (n + 3 + i)) = true by rw [rdW]; simp [e])] at r
                have qq := q J3 (Same.trans s s3)
                rw [r] at qq
                walk_at "rd_6"
                refine rd_isN ?_
                refine rd_isN1 ?_
                refine iteT ?_
                walk_at "rd_6"
                exact qq
              | some z0 =>
                rw [if_pos (show rdW false (wAt ws (n + 3 + i)) = true by rw [rdW]; simp [e])] at r
                dsimp only [vI]
                walk_at "rd_6"
                refine rd_isN ?_
                refine rd_isN0 ?_
                refine iteF ?_
                walk_at "rd_6"
                refine ⟨_, rfl, Same.trans s s3, r, by omega⟩
          · rw [decide_eq_false (show ¬ (n : Int) + 3 + (i : Int) = (ws.length : Int) by omega)]
            refine iteF ?_
            refine ⟨false, rfl, ?_⟩
            refine iteF ?_
            have cc : ¬ (n + 3 + i = ws.length ∧ n + 3 < ws.length) := fun h => c1 h.1
            rw [if_neg cc] at r
            walk_at "rd_6"
            refine rd_callV0 (b := false) rfl (.inr ⟨rfl, rfl⟩) ?_
            walk_at "rd_6"
            refine ⟨a, ws, n + 3 + i, by rw [show ((n + 3 + i : Nat) : Int) = (n : Int) + 3 + (i : Int) by omega]; rfl, haM, wl, by omega, ?_⟩
            walk_at "rd_6"
            refine ⟨_, rfl, wz' _, fun J3 s3 => ?_⟩
            cases e : intR (wAt ws (n + 3 + i)) with
            | none =>
              rw [if_neg (show ¬ rdW false (wAt ws (n + 3 + i)) = true by rw [rdW]; simp [e])] at r
              have qq := q J3 (Same.trans s s3)
              rw [r] at qq
              walk_at "rd_6"
              refine rd_isN ?_
              refine rd_isN1 ?_
              refine iteT ?_
              walk_at "rd_6"
              exact qq
            | some z0 =>
              rw [if_pos (show rdW false (wAt ws (n + 3 + i)) = true by rw [rdW]; simp [e])] at r
              dsimp only [vI]
              walk_at "rd_6"
              refine rd_isN ?_
              refine rd_isN0 ?_
              refine iteF ?_
              walk_at "rd_6"
              refine ⟨_, rfl, Same.trans s s3, r, by omega⟩
        · obtain ⟨o, rfl, s, r, _⟩ := z
          rw [show 1 - 1 = 0 from rfl, wrL] at r
          have haM := sql_sameT s ha0
          have qq := q M s
          rw [r] at qq
          walk_at "rd_6"
          rw [List.length_map]
          by_cases c1 : n + 3 + 1 < ws.length
          · rw [decide_eq_true (show (n : Int) + 3 + 1 < (ws.length : Int) by omega)]
            rw [if_pos c1] at qq
            refine iteT ?_
            walk_at "rd_6"
            exact qq
          · rw [decide_eq_false (show ¬ (n : Int) + 3 + 1 < (ws.length : Int) by omega)]
            rw [if_neg c1] at qq
            refine iteF ?_
            walk_at "rd_6"
            exact qq
  · rw [ek]
    walk_at "rd_6"
    refine iteT ?_
    walk_at "rd_6"
    have : wrI ws n = some n := by
      unfold wrI
      rw [hk, if_neg hd]
    rw [this] at q
    exact q J sJ

/-! ### items as texts -/
def wdA (r : Int × Int) : Str := amW r.1 r.2
def wdsI : Itm → List Str
  | .en e => "entry" :: txI (e.first : Int) :: txI (e.many : Int) :: e.am.map wdA
  | .st s => ["statement", txI (s.first : Int), txI (s.many : Int), txI s.num]
/-- an item that may be written -/
def OkI : Itm → Prop
  | .en e => (∀ r ∈ e.am, 0 < r.2 ∧ Int.gcd r.1 r.2 = 1 ∧ r.1.natAbs ≤ 1000000 ∧ r.2 ≤ 1000000) ∧ e.am ≠ [] ∧ e.am.length ≤ 4 ∧ e.first + e.many ≤ 10 ^ 30 ∧ 1 ≤ e.many
  | .st s => s.first + s.many ≤ 10 ^ 30 ∧ 1 ≤ s.many ∧ s.num.natAbs < 10 ^ 100
def thgI : Itm → Th
  | .en e => itT true e.first e.many (.tup (amsTh e.am))
  | .st s => itT false s.first s.many (.int s.num)
def NumOk : Itm → Prop
  | .en _ => True
  | .st s => s.num.natAbs < 10 ^ 100
theorem okI_of {H : Hp} {v : V} {i : Itm} (h : ItmAt H v i) (n : NumOk i) : OkI i := by
  cases i with
  | en e =>
    obtain ⟨⟨p, a, rs, rfl, hp, ha, A, ne, l4, dn, m1⟩, ok⟩ := h
    exact ⟨fun r hr => ⟨(A.bds r hr).1, (A.bds r hr).2.1, (ok r hr).1, (ok r hr).2⟩, ne, l4, dn, m1⟩
  | st s => exact ⟨h.2.1, h.2.2, n⟩
theorem num_bd {z : Int} (h : z.natAbs < 10 ^ 100) : Bd 900 z := by
  have : (10 : Nat) ^ 100 < 2 ^ 900 := by decide
  unfold Bd
  omega
theorem thI_itm {K : PySem.W.Frag} {b : Addr} {H : Hp} {v : V} {i : Itm} (h : ItmAt H v i) (n : NumOk i) : ThAt K b H v (thgI i) := by
  cases i with
  | en e =>
    obtain ⟨⟨p, a, rs, rfl, hp, ha, A, ne, l4, dn, m1⟩, ok⟩ := h
    exact .tup (SqT.of hp) (.cons (.str _) (.cons (.int _ (bd_day (by omega))) (.cons (.int _ (bd_day (by omega))) (.cons (.tup (SqT.of ha) A.ths) .nil))))
  | st s =>
    obtain ⟨⟨p, rfl, hp⟩, dn, m1⟩ := h
    exact .tup (SqT.of hp) (.cons (.str _) (.cons (.int _ (bd_day (by omega))) (.cons (.int _ (bd_day (by omega))) (.cons (.int _ (num_bd n)) .nil))))
theorem thg_no {i : Itm} (h : OkI i) : wrongT (thgI i) = none := by
  cases i with
  | en e =>
    obtain ⟨ok, ne, l4, dn, m1⟩ := h
    refine wrN dn m1 ?_
    have l1 := List.length_pos_iff.mpr ne
    simp only [lastT, amsT, ams_ok (fun r hr => ⟨(ok r hr).1, (ok r hr).2.1⟩) (fun r hr => ⟨(ok r hr).2.2.1, (ok r hr).2.2.2⟩), amsTh_len, if_true, Bool.and_true]
    exact decide_eq_true ⟨l1, l4⟩
  | st s => exact wrN h.1 h.2.1 rfl
theorem thg_first {i : Itm} : FirstOk (thgI i) := by
  cases i with
  | en e => exact fun t1 ts z => by cases z; exact kd_shaped true
  | st s => exact fun t1 ts z => by cases z; exact kd_shaped false
theorem day_small {n : Nat} (h : n ≤ 10 ^ 30) : ((n : Int)).natAbs < 10 ^ 100 := by
  have : (10 : Nat) ^ 30 < 10 ^ 100 := by decide
  omega
theorem am_small {z : Int} (h : z.natAbs ≤ 1000000) : z.natAbs < 10 ^ 100 := Nat.lt_of_le_of_lt h (by decide)
theorem wds_ne (i : Itm) : wdsI i ≠ [] := by cases i <;> simp [wdsI]
theorem wds_free {i : Itm} : ∀ w ∈ wdsI i, ¬ 32 ∈ TL.tl w := by
  cases i with
  | en e =>
    intro w hw
    simp only [wdsI, List.mem_cons, List.mem_map] at hw
    rcases hw with rfl | rfl | rfl | ⟨r, _, rfl⟩
    · decide +kernel
    · exact txI_free (.inl (by decide)) (by decide)
    · exact txI_free (.inl (by decide)) (by decide)
    · exact amW_free
  | st s =>
    intro w hw
    simp only [wdsI, List.mem_cons, List.not_mem_nil, or_false] at hw
    rcases hw with rfl | rfl | rfl | rfl
    · decide +kernel
    · exact txI_free (.inl (by decide)) (by decide)
    · exact txI_free (.inl (by decide)) (by decide)
    · exact txI_free (.inl (by decide)) (by decide)
theorem wds_len {i : Itm} (h : OkI i) : (∀ w ∈ wdsI i, w.length ≤ 203) ∧ (wdsI i).length ≤ 7 := by
  cases i with
  | en e =>
    obtain ⟨ok, ne, l4, dn, m1⟩ := h
    refine ⟨fun w hw => ?_, by simp only [wdsI, List.length_cons, List.length_map]; omega⟩
    simp only [wdsI, List.mem_cons, List.mem_map] at hw
    rcases hw with rfl | rfl | rfl | ⟨r, hr, rfl⟩
    · decide +kernel
    · have := txI_len (day_small (n := e.first) (by omega)); omega
    · have := txI_len (day_small (n := e.many) (by omega)); omega
    · exact amW_len (am_small (ok r hr).2.2.1) (am_small (by have := ok r hr; omega))
  | st s =>
    obtain ⟨dn, m1, nz⟩ := h
    refine ⟨fun w hw => ?_, by simp only [wdsI, List.length_cons, List.length_nil]; omega⟩
    simp only [wdsI, List.mem_cons, List.not_mem_nil, or_false] at hw
    rcases hw with rfl | rfl | rfl | rfl
    · decide +kernel
    · have := txI_len (day_small (n := s.first) (by omega)); omega
    · have := txI_len (day_small (n := s.many) (by omega)); omega
    · have := txI_len nz; omega
def txtI (i : Itm) : Str := Txt.join " " (wdsI i)
theorem txt_len {i : Itm} (h : OkI i) : (txtI i).length ≤ 2000 := by
  obtain ⟨a, b⟩ := wds_len h
  have := join_len " " (wdsI i)
  have s := sum_lens a
  have e : (" " : Str).length = 1 := by decide
  rw [e] at this
  have m : (wdsI i).length * 203 ≤ 7 * 203 := Nat.mul_le_mul_right _ b
  show (Txt.join " " (wdsI i)).length ≤ _
  omega

theorem amR_of {r : Int × Int} (h : 0 < r.2 ∧ Int.gcd r.1 r.2 = 1 ∧ r.1.natAbs ≤ 1000000 ∧ r.2 ≤ 1000000) : amR (wdA r) = some r := by
  obtain ⟨x, y⟩ := r
  obtain ⟨y0, g, hx, hy⟩ := h
  dsimp only at y0 g hx hy
  obtain ⟨n, rfl⟩ : ∃ n : Nat, y = (n : Int) := ⟨y.toNat, by omega⟩
  unfold amR wdA
  rw [amQ_of (am_small hx) (Nat.lt_of_le_of_lt (show n ≤ 1000000 by omega) (by decide))]
  dsimp only
  rw [if_pos]
  rw [amT_of y0 g]
  exact decide_eq_true ⟨by omega, by omega, by omega⟩
theorem wrL_none {en : Bool} {ws : List Str} {st : Nat} (hs : st < ws.length) : ∀ (r p : Nat), p ≤ ws.length → ws.length ≤ p + r → (∀ j, p ≤ j → j < ws.length → rdW en (wAt ws j) = true) → wrL en ws st r p = none
  | 0, p, h1, h2, _ => by rw [wrL, if_neg (by omega)]
  | r + 1, p, h1, h2, h3 => by
    rw [wrL]
    by_cases c : p = ws.length
    · rw [if_pos ⟨c, hs⟩]
    · rw [if_neg (fun z => c z.1), if_pos (h3 p (Nat.le_refl _) (by omega))]
      exact wrL_none hs r (p + 1) (by omega) (by omega) fun j a b => h3 j (by omega) b
theorem wrI_none {i : Itm} (h : OkI i) : wrI (wdsI i) 0 = none := by
  cases i with
  | en e =>
    obtain ⟨ok, ne, l4, dn, m1⟩ := h
    have hl : (wdsI (.en e)).length = e.am.length + 3 := by simp [wdsI]
    have l1 := List.length_pos_iff.mpr ne
    have k0 : wAt (wdsI (.en e)) 0 = "entry" := rfl
    have k1 : wAt (wdsI (.en e)) 1 = txI (e.first : Int) := rfl
    have k2 : wAt (wdsI (.en e)) 2 = txI (e.many : Int) := rfl
    have n1 : natR (txI (e.first : Int)) = some e.first := natR_nat (Nat.lt_of_le_of_lt (show e.first ≤ 10 ^ 30 by omega) (by decide))
    have n2 : natR (txI (e.many : Int)) = some e.many := natR_nat (Nat.lt_of_le_of_lt (show e.many ≤ 10 ^ 30 by omega) (by decide))
    have s : wrS (wdsI (.en e)) (0 + 1) = none := by
      unfold wrS
      rw [Nat.zero_add, k1, n1]
      dsimp only
      rw [if_neg (by omega), k2, n2]
      dsimp only
      rw [if_pos ⟨m1, by omega⟩]
    unfold wrI
    rw [k0, if_pos (.inl rfl), s]
    dsimp only
    rw [show isE "entry" = true from decide_eq_true rfl]
    refine wrL_none (by omega) 4 3 (by omega) (by omega) fun j a b => ?_
    have hj : j - 3 < e.am.length := by omega
    have ej : wAt (wdsI (.en e)) j = wdA e.am[j - 3] := by
      obtain ⟨k, rfl⟩ : ∃ k, j = k + 3 := ⟨j - 3, by omega⟩
      simp only [wAt, wdsI, List.getElem?_cons_succ, List.getElem?_map, Nat.add_sub_cancel]
      rw [List.getElem?_eq_getElem (show k < e.am.length by omega)]
      rfl
    rw [ej, rdW, amR_of (ok _ (List.getElem_mem hj))]
    rfl
  | st s0 =>
    obtain ⟨dn, m1, nz⟩ := h
    have k0 : wAt (wdsI (.st s0)) 0 = "statement" := rfl
    have k1 : wAt (wdsI (.st s0)) 1 = txI (s0.first : Int) := rfl
    have k2 : wAt (wdsI (.st s0)) 2 = txI (s0.many : Int) := rfl
    have n1 : natR (txI (s0.first : Int)) = some s0.first := natR_nat (Nat.lt_of_le_of_lt (show s0.first ≤ 10 ^ 30 by omega) (by decide))
    have n2 : natR (txI (s0.many : Int)) = some s0.many := natR_nat (Nat.lt_of_le_of_lt (show s0.many ≤ 10 ^ 30 by omega) (by decide))
    have s : wrS (wdsI (.st s0)) (0 + 1) = none := by
      unfold wrS
      rw [Nat.zero_add, k1, n1]
      dsimp only
      rw [if_neg (by omega), k2, n2]
      dsimp only
      rw [if_pos ⟨m1, by omega⟩]
    unfold wrI
    rw [k0, if_pos (.inr rfl), s]
    dsimp only
    rw [show isE "statement" = false from decide_eq_false (by decide +kernel)]
    refine wrL_none (by show 3 < 4; decide) 1 3 (by show 3 ≤ 4; decide) (by show 4 ≤ 4; decide) fun j a b => ?_
    have : j = 3 := by
      have : j < 4 := b
      omega
    subst this
    rw [show wAt (wdsI (.st s0)) 3 = txI s0.num from rfl, rdW, intR_of nz]
    rfl
theorem txI_ok {i : Int} : PyData.strOk (txI i) = true := strOk_of fun c hc => by
  rcases Int.lt_or_le i 0 with h | h
  · obtain ⟨n, rfl⟩ : ∃ n : Nat, i = -(n : Int) := ⟨i.natAbs, by omega⟩
    rw [txI_neg (by omega), List.mem_cons] at hc
    rcases hc with rfl | hc
    · decide
    · have := TL.numL_digits n c hc; omega
  · obtain ⟨n, rfl⟩ : ∃ n : Nat, i = (n : Int) := ⟨i.natAbs, by omega⟩
    rw [txI_nat] at hc
    have := TL.numL_digits n c hc
    omega
theorem amW_ok {x y : Int} : PyData.strOk (amW x y) = true := by
  unfold amW
  split
  · exact txI_ok
  · refine strOk_of fun c hc => ?_
    rw [TL.tl_append, TL.tl_append, List.mem_append, List.mem_append] at hc
    rcases hc with (hc | hc) | hc
    · exact strOk_lt txI_ok hc
    · rw [show TL.tl ("/" : Str) = [47] by decide +kernel, List.mem_singleton] at hc
      subst hc
      decide
    · exact strOk_lt txI_ok hc
theorem wds_ok {i : Itm} : ∀ w ∈ wdsI i, PyData.strOk w = true := by
  cases i with
  | en e =>
    intro w hw
    simp only [wdsI, List.mem_cons, List.mem_map] at hw
    rcases hw with rfl | rfl | rfl | ⟨r, _, rfl⟩
    · decide +kernel
    · exact txI_ok
    · exact txI_ok
    · exact amW_ok
  | st s =>
    intro w hw
    simp only [wdsI, List.mem_cons, List.not_mem_nil, or_false] at hw
    rcases hw with rfl | rfl | rfl | rfl
    · decide +kernel
    · exact txI_ok
    · exact txI_ok
    · exact txI_ok

/-! ### items to texts and back -/
def sp_item_text (K : PySem.W.Frag) : Sp := fun vs H Q _ => ∃ (v : V) (i : Itm), vs = [v] ∧ ItmAt H v i ∧ NumOk i ∧ ∀ J, Same H J → Q (.str (txtI i)) J
theorem ar_item_text (K : PySem.W.Frag) : ∀ vs H Q E, sp_item_text K vs H Q E → vs.length = 1 := by
  intro vs H Q E h
  obtain ⟨v, i, rfl, _⟩ := h
  rfl
abbrev N_item_text : List Str := ["item", "kind", "first", "many", "last", "words", "ratio"]
theorem sc_item_text : FnScope N_item_text ["item"] (defScope S_item_text) := ⟨rfl, rfl, rfl, by decide +kernel, rfl, by decide +kernel, by decide +kernel⟩
theorem ok_item_text {P : Program} {w : World} {K : PySem.W.Frag} {mg : Str → Option Value} {base : Heap} {f : Addr} {fd : FuncData} (F : Fun K "item_text" "item_text" S_item_text f fd) {f_ratio_text : Addr} {fd_ratio_text : FuncData} (C_ratio_text : Cal P w K mg base "ratio_text" 1 f_ratio_text fd_ratio_text ["ratio"] (sp_ratio_text K)) {f_check_item : Addr} {fd_check_item : FuncData} (C_check_item : Cal P w K mg base "check_item" 6 f_check_item fd_check_item ["thing"] (sp_check_item K)) (m_str : mg "str" = none) :
    FnG P w K mg base CX0 7 f fd ["item"] (sp_item_text K) := by
  refine Fun_okG F sc_item_text (ar_item_text K) (fun cdv A outer s H vs Q E hg hr h => ?_)
  obtain ⟨v, i, rfl, hi, hn, q⟩ := h
  refine ⟨_, (pss_cons (ps_expr (pe_c C_check_item hg (hr.mono (by decide)) rfl (pa_cons (pv 0) pa_nil)))
    (pss_cons (ps_asg (pv 0) (pg_tup rfl (pgs_cons (pg_name (i := 1) sc_item_text.nd rfl (Or.inl rfl)) (pgs_cons (pg_name (i := 2) sc_item_text.nd rfl (Or.inl rfl)) (pgs_cons (pg_name (i := 3) sc_item_text.nd rfl (Or.inl rfl)) (pgs_cons (pg_name (i := 4) sc_item_text.nd rfl (Or.inl rfl)) pgs_nil))))))
    (pss_cons (ps_set (i := 5) sc_item_text.nd rfl (Or.inl rfl) (pe_ifExp (pt_cmpR op_eq (pv 1) pe_str (nomark _)) (pe_lc (own := [("ratio", 6)]) rfl sc_item_text.nd (piT (K := K) rfl (pv 4)) (blkOk_by (own := [("ratio", 6)]) (N := N_item_text) (sc := defScope S_item_text) (by decide +kernel)) (fun _ _ _ _ _ => (pg_name (i := 6) sc_item_text.nd rfl (Or.inl rfl))) (fun _ _ _ _ _ => pts_nil) (fun _ _ _ _ _ => (pe_c C_ratio_text hg (hr.mono (by decide)) rfl (pa_cons (pv 6) pa_nil)))) (pe_lst (pa_cons (pe_callTy (T := "str") call_str_int (by rfl) m_str (by decide +kernel) (pa_cons (pv 4) pa_nil)) pa_nil))))
    (pss_one (ps_ret (pe_join pe_str (pe_op op_cat (pe_lst (pa_cons (pv 1) (pa_cons (pe_callTy (T := "str") call_str_int (by rfl) m_str (by decide +kernel) (pa_cons (pv 2) pa_nil)) (pa_cons (pe_callTy (T := "str") call_str_int (by rfl) m_str (by decide +kernel) (pa_cons (pv 3) pa_nil)) pa_nil)))) (pv 5)))))))), ?_⟩
  have ok := okI_of hi hn
  walk_at "rd_6"
  refine ⟨v, thgI i, 0, rfl, thI_itm hi hn, thg_first, thg_no ok, fun J1 s1 => ?_⟩
  cases i with
  | en e =>
    obtain ⟨⟨p, a, rs, rfl, hp, ha, A, ne, l4, dn, m1⟩, am⟩ := hi
    have A1 := A.mono fun p xs h => s1 _ _ h
    have ha1 := s1 _ _ ha
    have hp1 := s1 _ _ hp
    clear hp ha A
    have sl := sizeLine_eq
    have wl := wds_len ok
    have am' := am
    walk_at "rd_6"
    refine iteT ?_
    walk_at "rd_6"
    intro D nD
    have hlen : (e.am.map fun r => V.str (wdA r)).length = rs.length := by rw [List.length_map, A1.len]
    refine lc_mapTI (e.am.map fun r => V.str (wdA r)) hlen ha1 (by rw [← hlen, List.length_map]; omega) nD (fun k x y hx hy l R r => ?_) ?_
    · obtain ⟨p2, r2, rfl, er, ep⟩ := ams_get A1 hx
      have hr2 := am' r2 (List.mem_of_getElem? er)
      rw [List.getElem?_map, er] at hy
      obtain rfl := Option.some.inj hy
      walk_at "rd_6"
      refine ⟨p2, r2.1, r2.2, rfl, SqT.of (by rw [upd_ne (ne_of_none ep nD)]; exact ep), am_small hr2.1, am_small (by have := A1.bds r2 (List.mem_of_getElem? er); have := hr2.2; omega), ?_⟩
      walk_at "rd_6"
      exact r
    have sD := same_new (H := J1) (p := D) (o := .lst (e.am.map fun r => V.str (wdA r))) nD
    have eD : upd J1 D (.lst (e.am.map fun r => V.str (wdA r))) D = some (.lst (e.am.map fun r => V.str (wdA r))) := upd_same
    generalize upd J1 D (.lst (e.am.map fun r => V.str (wdA r))) = J2 at sD eD ⊢
    walk_at "rd_6"
    refine rd_m1 ?_
    walk_at "rd_6"
    refine ⟨⟨_, rfl⟩, ?_⟩
    walk_at "rd_6"
    refine ⟨log_ok (day_small (by omega)), ?_⟩
    walk_at "rd_6"
    refine ⟨log_ok (day_small (by omega)), ?_⟩
    walk_at "rd_6"
    rename_i p3 J3 n3 s3 e3
    have eD3 := s3 _ _ eD
    refine rd_catK e3 eD3 (by rw [List.length_map]; simp only [List.length_cons, List.length_nil]; omega) fun p4 J4 n4 s4 e4 => ?_
    walk_at "rd_6"
    have e4' : J4 p4 = some (.lst ((wdsI (.en e)).map V.str)) := by
      rw [e4]
      simp only [wdsI, List.map_cons, List.map_map]
      rfl
    refine rd_join (SqL.of e4') ?_ ?_
    · have := sum_lens wl.1
      have e5 : (" " : Str).length = 1 := by decide
      rw [e5]
      have m : (wdsI (.en e)).length * 203 ≤ 7 * 203 := Nat.mul_le_mul_right _ wl.2
      have := wl.2
      omega
    exact q J4 (Same.trans s1 (Same.trans sD (Same.trans s3 s4)))
  | st s0 =>
    obtain ⟨⟨p, rfl, hp⟩, dn, m1⟩ := hi
    have hp1 := s1 _ _ hp
    clear hp
    have sl := sizeLine_eq
    have wl := wds_len ok
    walk_at "rd_6"
    refine rd_eqStr ?_
    rw [show decide (("statement" : Str) = "entry") = false from by decide +kernel]
    refine ⟨false, rfl, ?_⟩
    refine iteF ?_
    walk_at "rd_6"
    refine ⟨log_ok hn, ?_⟩
    walk_at "rd_6"
    rename_i p2 J2 n2 s2 e2
    refine rd_m1 ?_
    walk_at "rd_6"
    refine ⟨⟨_, rfl⟩, ?_⟩
    walk_at "rd_6"
    refine ⟨log_ok (day_small (by omega)), ?_⟩
    walk_at "rd_6"
    refine ⟨log_ok (day_small (by omega)), ?_⟩
    walk_at "rd_6"
    rename_i p3 J3 n3 s3 e3 p4 J4 n4 s4 e4
    refine rd_join (ys := wdsI (.st s0)) (SqL.of e4) ?_ ?_
    · have := sum_lens wl.1
      have e5 : (" " : Str).length = 1 := by decide
      rw [e5]
      have m : (wdsI (.st s0)).length * 203 ≤ 7 * 203 := Nat.mul_le_mul_right _ wl.2
      have := wl.2
      omega
    exact q J4 (Same.trans s1 (Same.trans s2 (Same.trans s3 s4)))
def sp_item_from (K : PySem.W.Frag) : Sp := fun vs H Q _ => ∃ (a : Addr) (i : Itm), vs = [.ref a, .int 0] ∧ SqL K H a ((wdsI i).map V.str) ∧ OkI i ∧ ∀ v J, Same H J → ItmAt J v i → Q v J
theorem ar_item_from (K : PySem.W.Frag) : ∀ vs H Q E, sp_item_from K vs H Q E → vs.length = 2 := by
  intro vs H Q E h
  obtain ⟨a, i, rfl, _⟩ := h
  rfl
abbrev N_item_from : List Str := ["words", "at", "kind", "first", "many", "last", "word"]
theorem sc_item_from : FnScope N_item_from ["words", "at"] (defScope S_item_from) := ⟨rfl, rfl, rfl, by decide +kernel, rfl, by decide +kernel, by decide +kernel⟩
theorem ok_item_from {P : Program} {w : World} {K : PySem.W.Frag} {mg : Str → Option Value} {base : Heap} {f : Addr} {fd : FuncData} (F : Fun K "item_from" "item_from" S_item_from f fd) {f__read_amount : Addr} {fd__read_amount : FuncData} (C__read_amount : Cal P w K mg base "_read_amount" 4 f__read_amount fd__read_amount ["word"] (sp__read_amount K)) (m_int : mg "int" = none) (m_tuple : mg "tuple" = none) :
    FnG P w K mg base CX0 5 f fd ["words", "at"] (sp_item_from K) := by
  refine Fun_okG F sc_item_from (ar_item_from K) (fun cdv A outer s H vs Q E hg hr h => ?_)
  obtain ⟨a, i, rfl, ha, ok, q⟩ := h
  refine ⟨_, (pss_cons (ps_asg (pe_slice (slK (K := K) rfl) (pv 0) (po_some (pv 1)) po_none) (pg_unlS (n := 4) (i := 3) rfl (pgs_cons (pg_name (i := 2) sc_item_from.nd rfl (Or.inl rfl)) (pgs_cons (pg_name (i := 3) sc_item_from.nd rfl (Or.inl rfl)) (pgs_cons (pg_name (i := 4) sc_item_from.nd rfl (Or.inl rfl)) (pgs_star (pg_name (i := 5) sc_item_from.nd rfl (Or.inl rfl)) pgs_nil))))))
    (pss_cons (ps_if (pt_cmpR op_eq (pv 2) pe_str (nomark _)) (pss_one (ps_ret (pe_tup (pa_cons (pv 2) (pa_cons (pe_callTy (T := "int") call_int_str (by rfl) m_int (by decide +kernel) (pa_cons (pv 3) pa_nil)) (pa_cons (pe_callTy (T := "int") call_int_str (by rfl) m_int (by decide +kernel) (pa_cons (pv 4) pa_nil)) (pa_cons (pe_callTy (T := "tuple") (tupK (K := K) rfl) (by rfl) m_tuple (by decide +kernel) (pa_cons (pe_lc (own := [("word", 6)]) rfl sc_item_from.nd (piL (K := K) rfl (pv 5)) (blkOk_by (own := [("word", 6)]) (N := N_item_from) (sc := defScope S_item_from) (by decide +kernel)) (fun _ _ _ _ _ => (pg_name (i := 6) sc_item_from.nd rfl (Or.inl rfl))) (fun _ _ _ _ _ => pts_nil) (fun _ _ _ _ _ => (pe_c C__read_amount hg (hr.mono (by decide)) rfl (pa_cons (pv 6) pa_nil)))) pa_nil)) pa_nil))))))) pss_nil)
    (pss_one (ps_ret (pe_tup (pa_cons (pv 2) (pa_cons (pe_callTy (T := "int") call_int_str (by rfl) m_int (by decide +kernel) (pa_cons (pv 3) pa_nil)) (pa_cons (pe_callTy (T := "int") call_int_str (by rfl) m_int (by decide +kernel) (pa_cons (pv 4) pa_nil)) (pa_cons (pe_callTy (T := "int") call_int_str (by rfl) m_int (by decide +kernel) (pa_cons (pe_ix (ixK (K := K) rfl) (pv 5) pe_int (fun _ _ => rfl)) pa_nil)) pa_nil))))))))), ?_⟩
  walk_at "rd_6"
  rename_i p1 J1 n1 s1 e1
  rw [show cutV ((wdsI i).map V.str) (some 0) none = (wdsI i).map V.str by simp only [cutV, HT.sIx]; simp [List.take_of_length_le]] at e1
  cases i with
  | en e =>
    obtain ⟨am, ne, l4, dn, m1⟩ := ok
    have nf : natR (txI (e.first : Int)) = some e.first := natR_nat (Nat.lt_of_le_of_lt (show e.first ≤ 10 ^ 30 by omega) (by decide))
    have nm : natR (txI (e.many : Int)) = some e.many := natR_nat (Nat.lt_of_le_of_lt (show e.many ≤ 10 ^ 30 by omega) (by decide))
    refine rd_unS (SqL.of e1) (rest := (e.am.map wdA).map V.str) (by rw [List.length_map, List.length_map]; omega) fun D J2 nD s2 eD => ?_
    walk_at "rd_6"
    refine iteT ?_
    walk_at "rd_6"
    refine ⟨_, _, rfl, int_text nf, by have := natR_len nf; omega, ?_⟩
    walk_at "rd_6"
    refine ⟨_, _, rfl, int_text nm, by have := natR_len nm; omega, ?_⟩
    walk_at "rd_6"
    intro D3 nD3
    refine lc_growL (fun ys J => AmsAt J ys (e.am.take ys.length)) eD (by rw [List.length_map, List.length_map]; omega) nD3 (fun J k => by rw [List.length_nil, List.take_zero]; exact .nil) (fun i x ys J hx i5 ly k hD hP => ?_) fun ys J ly k hD hP => ?_
    · rw [List.getElem?_map, List.getElem?_map] at hx
      obtain ⟨w1, hw, rfl⟩ := Option.map_eq_some_iff.mp hx
      obtain ⟨r, er, rfl⟩ := Option.map_eq_some_iff.mp hw
      have hr := am r (List.mem_of_getElem? er)
      walk_at "rd_6"
      refine ⟨rfl, ?_⟩
      walk_at "rd_6"
      refine ⟨_, rfl, Nat.le_trans (amW_len (am_small hr.2.2.1) (am_small (by have := hr; omega))) (by decide), fun z => absurd ((amR_of hr).symm.trans z) (by simp), fun r' z p3 J3 n3 s3 e3 => ?_⟩
      obtain rfl : r = r' := by
        rw [amR_of hr] at z
        exact Option.some.inj z
      refine lcEnd_mk (s3 _ _ hD) ly i5 (k.trans (Kp.of s3)) fun J4 p4 e4 => ?_
      rw [List.length_append, List.length_singleton, ly, List.take_add_one, er]
      rw [ly] at hP
      exact (hP.mono fun p xs h => p4.tup (s3 _ _ h)).snoc (p4.tup e3) hr.1 hr.2.1 (by have := hr.2.2.1; unfold Bd; omega) (by have := hr; unfold Bd; omega)
    rw [List.length_map, List.length_map] at ly
    rw [ly, List.take_length] at hP
    have s3 : Same J2 J := fun a o h => k a o (ne_of_none h nD3) h
    walk_at "rd_6"
    refine rd_tupL (SqL.of hD) fun p4 J4 n4 s4 e4 => ?_
    walk_at "rd_6"
    rename_i p5 J5 n5 s5 e5
    have s45 := Same.trans s4 s5
    refine q _ J5 (Same.trans s1 (Same.trans s2 (Same.trans s3 s45))) ⟨⟨p5, p4, ys, rfl, e5, s5 _ _ e4, hP.mono fun p xs h => s45 _ _ h, ne, l4, dn, m1⟩, fun r hr => ⟨(am r hr).2.2.1, (am r hr).2.2.2⟩⟩
  | st s0 =>
    obtain ⟨dn, m1, nz⟩ := ok
    have nf : natR (txI (s0.first : Int)) = some s0.first := natR_nat (Nat.lt_of_le_of_lt (show s0.first ≤ 10 ^ 30 by omega) (by decide))
    have nm : natR (txI (s0.many : Int)) = some s0.many := natR_nat (Nat.lt_of_le_of_lt (show s0.many ≤ 10 ^ 30 by omega) (by decide))
    refine rd_unS (rest := [V.str (txI s0.num)]) (SqL.of e1) (by simp) fun D J2 nD s2 eD => ?_
    walk_at "rd_6"
    refine rd_eqStr ?_
    rw [show decide (("statement" : Str) = "entry") = false from by decide +kernel]
    refine ⟨false, rfl, ?_⟩
    refine iteF ?_
    walk_at "rd_6"
    refine ⟨_, _, rfl, int_text nf, by have := natR_len nf; omega, ?_⟩
    walk_at "rd_6"
    refine ⟨_, _, rfl, int_text nm, by have := natR_len nm; omega, ?_⟩
    walk_at "rd_6"
    refine ⟨_, _, rfl, (int_textI (intR_of nz)).1, by have := (int_textI (intR_of nz)).2; omega, ?_⟩
    walk_at "rd_6"
    rename_i p5 J5 n5 s5 e5
    exact q _ J5 (Same.trans s1 (Same.trans s2 s5)) ⟨⟨p5, rfl, e5⟩, dn, m1⟩
/-! ### words that are an item's -/
theorem amR_ok {w : Str} {r : Int × Int} (h : amR w = some r) : w = wdA r ∧ 0 < r.2 ∧ Int.gcd r.1 r.2 = 1 ∧ r.1.natAbs ≤ 1000000 ∧ r.2 ≤ 1000000 := by
  unfold amR at h
  split at h
  · rename_i x n e
    split at h
    · rename_i c
      obtain rfl := Option.some.inj h
      refine ⟨amQ_txt e, ?_⟩
      unfold amT at c
      split at c
      · rename_i x' y' ea
        have hz : 0 < (n : Int) ∧ Int.gcd x (n : Int) = 1 ∧ (x, (n : Int)) = (x', y') := by
          simp only [asRat, ratT] at ea
          split at ea
          · rename_i hh
            exact ⟨hh.1, hh.2, Option.some.inj ea⟩
          · cases ea
        obtain ⟨p, g, e2⟩ := hz
        cases e2
        have := of_decide_eq_true c
        exact ⟨p, g, by omega, this.2.2⟩
      · cases c
    · cases h
  · cases h
theorem natR_nil : natR "" = none := by decide +kernel
theorem rdW_nil {en : Bool} : rdW en "" = false := by cases en <;> decide +kernel
theorem wAt_lt {ws : List Str} {n : Nat} (h : wAt ws n ≠ "") : n < ws.length := by
  rcases Nat.lt_or_ge n ws.length with k | k
  · exact k
  · exact absurd (wAt_out k) h
theorem wrL_sound {en : Bool} {ws : List Str} {st : Nat} : ∀ (r p : Nat), wrL en ws st r p = none → ws.length ≤ p + r ∧ ∀ j, p ≤ j → j < ws.length → rdW en (wAt ws j) = true
  | 0, p, h => by
    rw [wrL] at h
    split at h
    · cases h
    · exact ⟨by omega, fun j a b => by omega⟩
  | r + 1, p, h => by
    rw [wrL] at h
    split at h
    · rename_i c
      exact ⟨by omega, fun j a b => by omega⟩
    · split at h
      · rename_i c
        obtain ⟨a, b⟩ := wrL_sound r (p + 1) h
        refine ⟨by omega, fun j x y => ?_⟩
        rcases Nat.eq_or_lt_of_le x with rfl | x
        · exact c
        · exact b j x y
      · cases h
theorem wrL_st {en : Bool} {ws : List Str} {st r : Nat} (h : wrL en ws st (r + 1) st = none) : st < ws.length := by
  rw [wrL] at h
  split at h
  · rename_i c
    exact c.2
  · split at h
    · rename_i c
      refine wAt_lt fun z => ?_
      rw [z, rdW_nil] at c
      cases c
    · cases h
theorem wrS_sound {ws : List Str} {n : Nat} (h : wrS ws n = none) : ∃ f m, natR (wAt ws n) = some f ∧ natR (wAt ws (n + 1)) = some m ∧ f + m ≤ 10 ^ 30 ∧ 1 ≤ m := by
  unfold wrS at h
  split at h
  · cases h
  · rename_i f ef
    split at h
    · cases h
    · split at h
      · cases h
      · rename_i m em
        split at h
        · rename_i c
          exact ⟨f, m, ef, em, by omega, c.1⟩
        · cases h
theorem wrI_item {ws : List Str} (h : wrI ws 0 = none) : ∃ i, ws = wdsI i ∧ OkI i := by
  unfold wrI at h
  split at h
  · rename_i hk
    split at h
    · cases h
    · rename_i es
      obtain ⟨f, m, ef, em, dn, m1⟩ := wrS_sound es
      rw [Nat.zero_add] at ef em
      have l3 : 3 < ws.length := by
        cases hk' : isE (wAt ws 0) with
        | true => rw [hk'] at h; exact wrL_st h
        | false => rw [hk'] at h; exact wrL_st h
      obtain ⟨hl, hr⟩ := wrL_sound _ _ h
      obtain ⟨w0, w1, w2, rest, rfl⟩ : ∃ w0 w1 w2 rest, ws = w0 :: w1 :: w2 :: rest := by
        match ws, l3 with
        | w0 :: w1 :: w2 :: rest, _ => exact ⟨_, _, _, _, rfl⟩
      have e1 : w1 = txI (f : Int) := natR_txt ef
      have e2 : w2 = txI (m : Int) := natR_txt em
      have hr' : ∀ j (hj : j < rest.length), rdW (isE w0) rest[j] = true := fun j hj => by
        have := hr (j + 3) (by omega) (by simp only [List.length_cons]; omega)
        have ew : wAt (w0 :: w1 :: w2 :: rest) (j + 3) = rest[j] := by
          simp only [wAt, List.getElem?_cons_succ]
          rw [List.getElem?_eq_getElem hj]
          rfl
        rw [ew] at this
        exact this
      have lr : (w0 :: w1 :: w2 :: rest).length = rest.length + 3 := by simp
      rw [lr] at hl l3
      have hl' : rest.length ≤ mostN (isE w0) := by
        have : rest.length + 3 ≤ 0 + 3 + mostN (isE w0) := hl
        omega
      rcases hk with hk | hk
      · have hk : w0 = "entry" := hk
        subst hk
        have ee : isE "entry" = true := decide_eq_true rfl
        rw [ee] at hr' hl'
        have all : ∀ w ∈ rest, ∃ r, amR w = some r := fun w hw => by
          obtain ⟨j, hj, rfl⟩ := List.mem_iff_getElem.mp hw
          have := hr' j hj
          unfold rdW at this
          exact Option.isSome_iff_exists.mp (by simpa using this)
        have back : rest = (rest.map fun w => (amR w).getD (0, 1)).map wdA := by
          rw [List.map_map]
          conv => lhs; rw [← List.map_id rest]
          refine List.map_congr_left fun w hw => ?_
          obtain ⟨r, er⟩ := all w hw
          show w = wdA ((amR w).getD (0, 1))
          rw [er]
          exact (amR_ok er).1
        refine ⟨.en ⟨f, m, rest.map fun w => (amR w).getD (0, 1)⟩, ?_, fun r hr => ?_, fun z => ?_, ?_, dn, m1⟩
        · show _ = ("entry" : Str) :: txI (f : Int) :: txI (m : Int) :: (rest.map fun w => (amR w).getD (0, 1)).map wdA
          rw [← back, e1, e2]
        · obtain ⟨w, hw, rfl⟩ := List.mem_map.mp hr
          obtain ⟨r, er⟩ := all w hw
          rw [er]
          exact (amR_ok er).2
        · have := List.map_eq_nil_iff.mp z
          rw [this, List.length_nil] at l3
          omega
        · show (rest.map fun w => (amR w).getD (0, 1)).length ≤ 4
          rw [List.length_map]
          exact hl'
      · have hk : w0 = "statement" := hk
        subst hk
        have ee : isE "statement" = false := decide_eq_false (by decide +kernel)
        rw [ee] at hr' hl'
        have hl' : rest.length ≤ 1 := hl'
        obtain ⟨w3, rfl⟩ : ∃ w3, rest = [w3] := by
          match rest, hl', l3 with
          | [w3], _, _ => exact ⟨w3, rfl⟩
        have := hr' 0 (by simp)
        unfold rdW at this
        obtain ⟨z, ez⟩ := Option.isSome_iff_exists.mp (show (intR w3).isSome = true by simpa using this)
        refine ⟨.st ⟨f, m, z⟩, ?_, dn, m1, intR_lt ez⟩
        show _ = [("statement" : Str), txI (f : Int), txI (m : Int), txI z]
        rw [e1, e2, intR_txt ez]
  · cases h
theorem wrL_le {en : Bool} {ws : List Str} {st : Nat} : ∀ (r p n : Nat), wrL en ws st r p = some n → n ≤ p + r
  | 0, p, n, h => by
    rw [wrL] at h
    split at h
    · cases h; omega
    · cases h
  | r + 1, p, n, h => by
    rw [wrL] at h
    split at h
    · cases h
    · split at h
      · have := wrL_le r (p + 1) n h; omega
      · cases h; omega
theorem wrI_le {ws : List Str} {n : Nat} (h : wrI ws 0 = some n) : n ≤ 7 := by
  unfold wrI at h
  split at h
  · split at h
    · rename_i p ep
      cases h
      unfold wrS at ep
      split at ep
      · cases ep; omega
      · split at ep
        · cases ep; omega
        · split at ep
          · cases ep; omega
          · split at ep
            · cases ep
            · cases ep; omega
    · have := wrL_le _ _ _ h
      have m : mostN (isE (wAt ws 0)) ≤ 4 := by unfold mostN; split <;> omega
      omega
  · cases h; omega
/-! ### any thing read as an item -/
def gd_read_item (K : PySem.W.Frag) : Sp := fun vs H Q E => ∃ (x : Str), vs = [.str x] ∧ x.length ≤ 50000 ∧ PyData.strOk x = true ∧ (∀ i, Txt.split x " " = wdsI i → OkI i → ∀ v J, Same H J → ItmAt J v i → Q v J) ∧
  ∀ n, wrI (Txt.split x " ") 0 = some n → ∀ J J2 d C, Same H J → J d = none → Same J J2 → J2 d = some (.xd [("place", .int (n : Int))]) → PySem.W.nsIn K mainGlobals "BadText" = some (some (.ref C)) → E (.ref C) (some d) J2
def BadR (K : PySem.W.Frag) : Sp := fun vs H _ E => ∃ v t b, vs = [v] ∧ ThAt K b H v t ∧ (∀ s, t ≠ .str s) ∧
  ∀ J J2 d C, Same H J → J d = none → Same J J2 → J2 d = some (.xd [("place", .int 0)]) → PySem.W.nsIn K mainGlobals "BadText" = some (some (.ref C)) → E (.ref C) (some d) J2
def sp_read_item (K : PySem.W.Frag) : Sp := fun vs H Q E => gd_read_item K vs H Q E ∨ BadR K vs H Q E
theorem ar_read_item (K : PySem.W.Frag) : ∀ vs H Q E, sp_read_item K vs H Q E → vs.length = 1 := by
  intro vs H Q E h
  rcases h with ⟨x, rfl, _⟩ | ⟨v, t, b, rfl, _⟩ <;> rfl
abbrev N_read_item : List Str := ["text", "words", "wrong"]
theorem sc_read_item : FnScope N_read_item ["text"] (defScope S_read_item) := ⟨rfl, rfl, rfl, by decide +kernel, rfl, by decide +kernel, by decide +kernel⟩
theorem ok_read_item {P : Program} {w : World} {K : PySem.W.Frag} {mg : Str → Option Value} {base : Heap} {f : Addr} {fd : FuncData} (F : Fun K "read_item" "read_item" S_read_item f fd) {f_item_from : Addr} {fd_item_from : FuncData} (C_item_from : Cal P w K mg base "item_from" 5 f_item_from fd_item_from ["words", "at"] (sp_item_from K)) {f_wrong_in_item : Addr} {fd_wrong_in_item : FuncData} (C_wrong_in_item : Cal P w K mg base "wrong_in_item" 5 f_wrong_in_item fd_wrong_in_item ["words", "at"] (sp_wrong_in_item K)) {X_BadText g_BadText : Addr} {fx_BadText : FuncData} (R_BadText : ExcC P w K mg base "BadText" "place" 1 X_BadText g_BadText fx_BadText ["self", "place"] (sp_BadText___init__ K)) (m_isinstance : mg "isinstance" = none) (m_str : mg "str" = none) :
    FnG P w K mg base (L2.CX P w) 6 f fd ["text"] (sp_read_item K) := by
  refine Fun_okGX F sc_read_item (ar_read_item K) (fun cdv A outer s H vs Q E hg hr h => ?_)
  have h0 := h
  refine ⟨_, (pss_cons (ps_if (pt_not (pt_val (pe_callB (id := "isinstance") (isiK (K := K) rfl) (by rfl) m_isinstance (by decide +kernel) (pa_cons (pv 0) (pa_cons (pe_bltn (v := V.ty "str") (u := Value.type "str") (by rfl) m_str (by decide +kernel) rfl) pa_nil))))) (pss_one (ps_rz rfl (takes_of rfl rfl rfl rfl) R_BadText (hr.mono (by decide)) rfl (pa_cons pe_int pa_nil))) pss_nil)
    (pss_cons (ps_set (i := 1) sc_read_item.nd rfl (Or.inl rfl) (pe_split (pv 0) pe_str))
    (pss_cons (ps_set (i := 2) sc_read_item.nd rfl (Or.inl rfl) (pe_c C_wrong_in_item hg (hr.mono (by decide)) rfl (pa_cons (pv 1) (pa_cons pe_int pa_nil))))
    (pss_cons (ps_if (pt_cmpR op_notN (pv 2) pe_non (nomark _)) (pss_one (ps_rz rfl (takes_of rfl rfl rfl rfl) R_BadText (hr.mono (by decide)) rfl (pa_cons (pv 2) pa_nil))) pss_nil)
    (pss_one (ps_ret (pe_c C_item_from hg (hr.mono (by decide)) rfl (pa_cons (pv 1) (pa_cons pe_int pa_nil))))))))), ?_⟩
  have sl := sizeLine_eq
  rcases h0 with ⟨x, rfl, xl, xo, q1, q2⟩ | ⟨v, t, b, rfl, ht, hs, q⟩
  · obtain ⟨sw, sn, se⟩ := split_facts xo
    walk_at "rd_6"
    refine iteF ?_
    walk_at "rd_6"
    refine rd_m1 ?_
    walk_at "rd_6"
    refine ⟨⟨_, rfl⟩, ?_⟩
    walk_at "rd_6"
    refine ⟨_, _, rfl, rfl, by decide +kernel, by omega, ?_⟩
    intro a1 n1
    have s1 := same_new (H := H) (p := a1) (o := .lst ((Txt.split x " ").map V.str)) n1
    have e1 : upd H a1 (.lst ((Txt.split x " ").map V.str)) a1 = some (.lst ((Txt.split x " ").map V.str)) := upd_same
    generalize upd H a1 (.lst ((Txt.split x " ").map V.str)) = J1 at s1 e1 ⊢
    walk_at "rd_6"
    refine ⟨a1, Txt.split x " ", 0, rfl, SqL.of e1, by omega, by decide, fun w hw => by have := (sw w hw).1; omega, fun w hw => (sw w hw).2, fun J2 s2 => ?_⟩
    have s12 := Same.trans s1 s2
    walk_at "rd_6"
    cases ew : wrI (Txt.split x " ") 0 with
    | some n =>
      have n7 := wrI_le ew
      dsimp only [vO]
      refine ⟨rfl, ?_⟩
      refine ⟨true, by simp, ?_⟩
      refine iteT ?_
      refine rd_mkO ?_
      walk_at "rd_6"
      refine ⟨by show 1 ≤ 1000; decide, fun a na => ⟨a, X_BadText, n, rfl, R_BadText.T, R_BadText.no, by omega, by omega, upd_same, fun d hd nd => ?_⟩⟩
      obtain ⟨e1, e2, e3, e4, e5⟩ := exo_end (fs := [("place", .int n)]) na hd nd
      refine ⟨rfl, d, _, e1, e2, e3, ?_⟩
      exact q2 n ew J2 _ d X_BadText s12 e3 e4 e5 R_BadText.at_
    | none =>
      obtain ⟨i, ei, ok⟩ := wrI_item ew
      dsimp only [vO]
      refine ⟨rfl, ?_⟩
      refine ⟨false, by simp, ?_⟩
      refine iteF ?_
      walk_at "rd_6"
      refine ⟨a1, i, rfl, SqL.of (by rw [← ei]; exact s2 _ _ e1), ok, fun v J3 s3 h3 => ?_⟩
      walk_at "rd_6"
      exact q1 i ei ok v J3 (Same.trans s12 s3) h3
  · have end_ : ∀ J2 : Hp, Same H J2 → tMkO X_BadText (sp_BadText___init__ K) [] (tCons (tC (V.int 0)) tNil) (L2.start N_read_item [v]) J2 fun cls d H' => E cls d H' := fun J2 s2 => by
      refine rd_mkO ?_
      walk_at "rd_6"
      refine ⟨by show 1 ≤ 1000; decide, fun a na => ⟨a, X_BadText, 0, rfl, R_BadText.T, R_BadText.no, by omega, by omega, upd_same, fun d hd nd => ?_⟩⟩
      obtain ⟨e1, e2, e3, e4, e5⟩ := exo_end (fs := [("place", .int 0)]) na hd nd
      refine ⟨rfl, d, _, e1, e2, e3, ?_⟩
      exact q J2 _ d X_BadText s2 e3 e4 e5 R_BadText.at_
    have s0 : Same H H := fun _ _ e => e
    have hty := ht.ty
    cases t with
    | str s => exact absurd rfl (hs s)
    | non =>
      have hty : TyX K H v (.type "NoneType") := hty
      walk_at "rd_6"
      refine iteT ?_
      exact end_ H s0
    | bl c =>
      have hty : TyX K H v (.type "bool") := hty
      walk_at "rd_6"
      refine iteT ?_
      exact end_ H s0
    | int i =>
      have hty : TyX K H v (.type "int") := hty
      walk_at "rd_6"
      refine iteT ?_
      exact end_ H s0
    | tup ts =>
      have hty : TyX K H v (.type "tuple") := hty
      walk_at "rd_6"
      refine iteT ?_
      exact end_ H s0
    | lst ts =>
      have hty : TyX K H v (.type "list") := hty
      walk_at "rd_6"
      refine iteT ?_
      exact end_ H s0

theorem ten6 : (10 : Int) ^ Int.toNat 6 = 1000000 := by decide
def sp__law_amount (K : PySem.W.Frag) : Sp := fun vs H Q _ => ∃ (b : Addr), vs = [.ref b] ∧ Bag b H ∧ ∀ (p : Addr) (x y : Int) J, 0 < y → Int.gcd x y = 1 → Bd 20 x → Bd 20 y → (x.natAbs ≤ 1000000 ∧ y ≤ 1000000) → H p = none → J p = some (.tup [.int x, .int y]) → Kp b H J → Bag b J → Q (.ref p) J
theorem ar__law_amount (K : PySem.W.Frag) : ∀ vs H Q E, sp__law_amount K vs H Q E → vs.length = 1 := by
  intro vs H Q E h
  obtain ⟨b, rfl, _⟩ := h
  rfl
abbrev N__law_amount : List Str := ["_law_bag_here", "_law_under", "_law_tops", "_law_top"]
theorem sc__law_amount : FnScope N__law_amount ["_law_bag_here"] (defScope S__law_amount) := ⟨rfl, rfl, rfl, by decide +kernel, rfl, by decide +kernel, by decide +kernel⟩
theorem ok__law_amount {P : Program} {w : World} {K : PySem.W.Frag} {mg : Str → Option Value} {base : Heap} {f : Addr} {fd : FuncData} (F : Fun K "_law_amount" "_law_amount" S__law_amount f fd) {f__law_lowest : Addr} {fd__law_lowest : FuncData} (C__law_lowest : Cal P w K mg base "_law_lowest" 2 f__law_lowest fd__law_lowest ["_law_top", "_law_under"] (sp__law_lowest K)) {f__law_take : Addr} {fd__law_take : FuncData} (C__law_take : Cal P w K mg base "_law_take" 1 f__law_take fd__law_take ["_law_bag_here", "_law_size"] (sp__law_take K)) :
    FnG P w K mg base CX0 3 f fd ["_law_bag_here"] (sp__law_amount K) := by
  refine Fun_okG F sc__law_amount (ar__law_amount K) (fun cdv A outer s H vs Q E hg hr h => ?_)
  obtain ⟨b, rfl, hb, q⟩ := h
  refine ⟨_, (pss_cons (ps_set (i := 1) sc__law_amount.nd rfl (Or.inl rfl) (pe_ix (ixK (K := K) rfl) (pe_lst (pa_cons pe_int (pa_cons pe_int (pa_cons pe_int (pa_cons pe_int (pa_cons pe_int (pa_cons pe_int (pa_cons pe_int (pa_cons pe_int (pa_cons pe_int (pa_cons pe_int (pa_cons pe_int pa_nil)))))))))))) (pe_c C__law_take hg (hr.mono (by decide)) rfl (pa_cons (pv 0) (pa_cons pe_int pa_nil))) (fun _ _ => rfl)))
    (pss_cons (ps_set (i := 2) sc__law_amount.nd rfl (Or.inl rfl) (pe_lst (pa_cons (pe_c C__law_take hg (hr.mono (by decide)) rfl (pa_cons (pv 0) (pa_cons (pe_op op_add (pe_op op_ml pe_int (pv 1)) pe_int) pa_nil))) (pa_cons (pe_op op_sub (pe_c C__law_take hg (hr.mono (by decide)) rfl (pa_cons (pv 0) (pa_cons (pe_op op_add (pv 1) pe_int) pa_nil))) (pv 1)) (pa_cons pe_int (pa_cons (pe_op op_sub (pe_c C__law_take hg (hr.mono (by decide)) rfl (pa_cons (pv 0) (pa_cons pe_int pa_nil))) pe_int) pa_nil))))))
    (pss_cons (ps_set (i := 3) sc__law_amount.nd rfl (Or.inl rfl) (pe_ix (ixK (K := K) rfl) (pv 2) (pe_c C__law_take hg (hr.mono (by decide)) rfl (pa_cons (pv 0) (pa_cons pe_int pa_nil))) (fun _ _ => rfl)))
    (pss_one (ps_ret (pe_c C__law_lowest hg (hr.mono (by decide)) rfl (pa_cons (pv 3) (pa_cons (pv 1) pa_nil)))))))), ?_⟩
  walk_at "rd_6"
  rename_i p1 J1 n1 s1 e1
  have m1 : p1 ≠ b := hb.ne n1
  have g1 := hb.same s1
  refine ⟨b, 11, rfl, g1, by decide, by decide, fun r2 J2 r2a r2b k2 g2 => ?_⟩
  refine rd_pick (k2 _ _ m1 e1) r2a r2b fun v hv => ?_
  obtain ⟨u, rfl, u1, u2⟩ : ∃ u : Int, v = .int u ∧ 1 ≤ u ∧ u ≤ 12 := by
    simp only [List.mem_cons, List.not_mem_nil, or_false] at hv
    rcases hv with rfl | rfl | rfl | rfl | rfl | rfl | rfl | rfl | rfl | rfl | rfl
    all_goals exact ⟨_, rfl, by decide, by decide⟩
  have K2 : Kp b H J2 := (Kp.of s1).trans k2
  clear hv k2 s1 g1 e1 m1 n1
  walk_at "rd_6"
  refine ⟨b, 2 * u + 1, rfl, g2, by omega, by omega, fun r3 J3 r3a r3b k3 g3 => ?_⟩
  walk_at "rd_6"
  refine ⟨b, u + 1, rfl, g3, by omega, by omega, fun r4 J4 r4a r4b k4 g4 => ?_⟩
  walk_at "rd_6"
  refine ⟨b, 60, rfl, g4, by decide, by decide, fun r5 J5 r5a r5b k5 g5 => ?_⟩
  walk_at "rd_6"
  rename_i p6 J6 n6 s6 e6
  have m6 : p6 ≠ b := g5.ne n6
  have g6 := g5.same s6
  refine ⟨b, 4, rfl, g6, by decide, by decide, fun r7 J7 r7a r7b k7 g7 => ?_⟩
  have K7 : Kp b H J7 := K2.trans (k3.trans (k4.trans (k5.trans ((Kp.of s6).trans k7))))
  refine rd_pick (k7 _ _ m6 e6) r7a r7b fun v hv => ?_
  obtain ⟨t, rfl, t1⟩ : ∃ t : Int, v = .int t ∧ t.natAbs ≤ 1000 := by
    simp only [List.mem_cons, List.not_mem_nil, or_false] at hv
    rcases hv with rfl | rfl | rfl | rfl
    all_goals exact ⟨_, rfl, by omega⟩
  clear hv K2 k3 k4 k5 s6 k7 g2 g3 g4 g5 g6 e6 m6 n6
  walk_at "rd_6"
  refine ⟨t, u, rfl, by omega, Bd.mono (m := 20) (by unfold Bd; omega) (by decide), fun x y p J8 low np s8 e8 => ?_⟩
  exact q p x y J8 low.1 low.2.1 (by have := low.2.2.2.1; unfold Bd; omega) (by have := low.2.2.2.2; unfold Bd; omega) (by have := low.2.2.2.1; have := low.2.2.2.2; omega) (K7.free g7 np) e8 (K7.trans (Kp.of s8)) (g7.same s8)

/-! ### the law's own text of an item -/
theorem ten30 : (10 : Int) ^ Int.toNat 30 = 10 ^ 30 := by decide +kernel
theorem ten29 : (10 : Int) ^ Int.toNat 29 = 10 ^ 29 := by decide +kernel
theorem mul59 : ((10 : Int) ^ Int.toNat 50) * (10 : Int) ^ Int.toNat 49 = 10 ^ 99 := by decide +kernel
def sp__law_any_item (K : PySem.W.Frag) : Sp := fun vs H Q _ => ∃ (b : Addr), vs = [.ref b] ∧ Bag b H ∧ ∀ (p : Addr) (i : Itm) J, ItmAt J (.ref p) i → NumOk i → H p = none → Kp b H J → Bag b J → Q (.ref p) J
theorem ar__law_any_item (K : PySem.W.Frag) : ∀ vs H Q E, sp__law_any_item K vs H Q E → vs.length = 1 := by
  intro vs H Q E h
  obtain ⟨b, rfl, _⟩ := h
  rfl
abbrev N__law_any_item : List Str := ["_law_bag_here", "_law_first", "_law_many", "_law_far", "_law_some", "_law_turn"]
theorem sc__law_any_item : FnScope N__law_any_item ["_law_bag_here"] (defScope S__law_any_item) := ⟨rfl, rfl, rfl, by decide +kernel, rfl, by decide +kernel, by decide +kernel⟩
theorem ok__law_any_item {P : Program} {w : World} {K : PySem.W.Frag} {mg : Str → Option Value} {base : Heap} {f : Addr} {fd : FuncData} (F : Fun K "_law_any_item" "_law_any_item" S__law_any_item f fd) {f__law_take : Addr} {fd__law_take : FuncData} (C__law_take : Cal P w K mg base "_law_take" 1 f__law_take fd__law_take ["_law_bag_here", "_law_size"] (sp__law_take K)) {f__law_amount : Addr} {fd__law_amount : FuncData} (C__law_amount : Cal P w K mg base "_law_amount" 3 f__law_amount fd__law_amount ["_law_bag_here"] (sp__law_amount K)) (m_tuple : mg "tuple" = none) (m_range : mg "range" = none) (m_int : mg "int" = none) :
    FnG P w K mg base CX0 4 f fd ["_law_bag_here"] (sp__law_any_item K) := by
  refine Fun_okG F sc__law_any_item (ar__law_any_item K) (fun cdv A outer s H vs Q E hg hr h => ?_)
  obtain ⟨b, rfl, hb, q⟩ := h
  refine ⟨_, (pss_cons (ps_set (i := 1) sc__law_any_item.nd rfl (Or.inl rfl) (pe_ix (ixK (K := K) rfl) (pe_lst (pa_cons pe_int (pa_cons (pe_op op_sub (pe_op op_pow pe_int pe_int) pe_int) (pa_cons (pe_c C__law_take hg (hr.mono (by decide)) rfl (pa_cons (pv 0) (pa_cons pe_int pa_nil))) (pa_cons (pe_op op_ml (pe_op op_pow pe_int pe_int) (pe_op op_add pe_int (pe_c C__law_take hg (hr.mono (by decide)) rfl (pa_cons (pv 0) (pa_cons pe_int pa_nil))))) pa_nil))))) (pe_c C__law_take hg (hr.mono (by decide)) rfl (pa_cons (pv 0) (pa_cons pe_int pa_nil))) (fun _ _ => rfl)))
    (pss_cons (ps_set (i := 2) sc__law_any_item.nd rfl (Or.inl rfl) (pe_ix (ixK (K := K) rfl) (pe_lst (pa_cons pe_int (pa_cons (pe_op op_sub (pe_op op_pow pe_int pe_int) (pv 1)) (pa_cons (pe_op op_add pe_int (pe_op op_ml (pe_c C__law_take hg (hr.mono (by decide)) rfl (pa_cons (pv 0) (pa_cons pe_int pa_nil))) (pe_callTy (T := "int") call_int1 (by rfl) m_int (by decide +kernel) (pa_cons (pe_cmpR op_lt (pv 1) pe_int (nomark _)) pa_nil)))) pa_nil)))) (pe_c C__law_take hg (hr.mono (by decide)) rfl (pa_cons (pv 0) (pa_cons pe_int pa_nil))) (fun _ _ => rfl)))
    (pss_cons (ps_if (pt_cmpR op_eq (pe_c C__law_take hg (hr.mono (by decide)) rfl (pa_cons (pv 0) (pa_cons pe_int pa_nil))) pe_int (nomark _)) (pss_cons (ps_set (i := 3) sc__law_any_item.nd rfl (Or.inl rfl) (pe_op op_ml (pe_op op_pow pe_int pe_int) (pe_op op_pow pe_int pe_int)))
    (pss_one (ps_ret (pe_tup (pa_cons pe_str (pa_cons (pv 1) (pa_cons (pv 2) (pa_cons (pe_ix (ixK (K := K) rfl) (pe_lst (pa_cons pe_int (pa_cons (pv 3) (pa_cons (pe_op op_sub pe_int (pv 3)) (pa_cons (pe_op op_sub (pe_c C__law_take hg (hr.mono (by decide)) rfl (pa_cons (pv 0) (pa_cons pe_int pa_nil))) pe_int) pa_nil))))) (pe_c C__law_take hg (hr.mono (by decide)) rfl (pa_cons (pv 0) (pa_cons pe_int pa_nil))) (fun _ _ => rfl)) pa_nil)))))))) pss_nil)
    (pss_cons (ps_set (i := 4) sc__law_any_item.nd rfl (Or.inr rfl) (pe_lst (pa_cons (pe_tup (pa_cons (pe_op op_pow pe_int pe_int) (pa_cons pe_int pa_nil))) (pa_cons (pe_tup (pa_cons (pe_un un_neg (pe_op op_pow pe_int pe_int)) (pa_cons pe_int pa_nil))) (pa_cons (pe_tup (pa_cons pe_int (pa_cons (pe_op op_pow pe_int pe_int) pa_nil))) (pa_cons (pe_tup (pa_cons pe_int (pa_cons pe_int pa_nil))) (pa_cons (pe_tup (pa_cons (pe_un un_neg pe_int) (pa_cons pe_int pa_nil))) (pa_cons (pe_tup (pa_cons pe_int (pa_cons (pe_op op_pow pe_int pe_int) pa_nil))) (pa_cons (pe_c C__law_amount hg (hr.mono (by decide)) rfl (pa_cons (pv 0) pa_nil)) pa_nil)))))))))
    (pss_one (ps_ret (pe_tup (pa_cons pe_str (pa_cons (pv 1) (pa_cons (pv 2) (pa_cons (pe_callTy (T := "tuple") (tupK (K := K) rfl) (by rfl) m_tuple (by decide +kernel) (pa_cons (pe_lc (own := [("_law_turn", 5)]) rfl sc__law_any_item.nd (pi_range1 rfl m_range (pa_cons (pe_op op_add pe_int (pe_c C__law_take hg (hr.mono (by decide)) rfl (pa_cons (pv 0) (pa_cons pe_int pa_nil)))) pa_nil)) (blkOk_by (own := [("_law_turn", 5)]) (N := N__law_any_item) (sc := defScope S__law_any_item) (by decide +kernel)) (fun _ _ _ _ _ => (pg_name (i := 5) sc__law_any_item.nd rfl (Or.inl rfl))) (fun _ _ _ _ _ => pts_nil) (fun _ _ _ _ _ => (pe_ix (ixK (K := K) rfl) (pv 4) (pe_c C__law_take hg (hr.mono (by decide)) rfl (pa_cons (pv 0) (pa_cons pe_int pa_nil))) (fun _ _ => rfl)))) pa_nil)) pa_nil))))))))))), ?_⟩
  walk_at "rd_6"
  refine ⟨b, 50, rfl, hb, by decide, by decide, fun r1 J1 r1a r1b k1 g1 => ?_⟩
  walk_at "rd_6"
  refine ⟨b, 9, rfl, g1, by decide, by decide, fun r2 J2 r2a r2b k2 g2 => ?_⟩
  rw [ten29]
  walk_at "rd_6"
  rename_i p3 J3 n3 s3 e3
  have m3 : p3 ≠ b := g2.ne n3
  have g3 := g2.same s3
  refine ⟨b, 4, rfl, g3, by decide, by decide, fun r4 J4 r4a r4b k4 g4 => ?_⟩
  have K4 : Kp b H J4 := k1.trans (k2.trans ((Kp.of s3).trans k4))
  refine rd_pick (k4 _ _ m3 e3) r4a r4b fun v hv => ?_
  obtain ⟨first, rfl, f1⟩ : ∃ f : Nat, v = .int (f : Int) ∧ f < 10 ^ 30 := by
    have t30 : (10 : Nat) ^ 30 = 1000000000000000000000000000000 := by decide
    simp only [List.mem_cons, List.not_mem_nil, or_false] at hv
    rcases hv with rfl | rfl | rfl | rfl
    · exact ⟨0, rfl, by decide⟩
    · exact ⟨10 ^ 30 - 1, by rw [ten30]; decide +kernel, by decide⟩
    · exact ⟨r1.toNat, by rw [Int.toNat_of_nonneg r1a], by omega⟩
    · exact ⟨(10 ^ 29 * (1 + r2)).toNat, by rw [Int.toNat_of_nonneg (by omega)], by omega⟩
  clear hv k1 k2 s3 k4 g1 g2 g3 e3 m3 n3
  walk_at "rd_6"
  rw [ten30]
  refine ⟨b, 9, rfl, g4, by decide, by decide, fun r5 J5 r5a r5b k5 g5 => ?_⟩
  walk_at "rd_6"
  rename_i p6 J6 n6 s6 e6
  have hbl : ∃ bl : Int, (if decide ((first : Int) < 100) = true then (1 : Int) else 0) = bl ∧ ((bl = 1 ∧ first < 100) ∨ bl = 0) := by
    by_cases c : first < 100
    · exact ⟨1, by rw [decide_eq_true (show (first : Int) < 100 by omega)]; rfl, .inl ⟨rfl, c⟩⟩
    · exact ⟨0, by rw [decide_eq_false (show ¬ (first : Int) < 100 by omega)]; rfl, .inr rfl⟩
  obtain ⟨bl, ebl, hbl⟩ := hbl
  rw [ebl] at e6
  have m6 : p6 ≠ b := g5.ne n6
  have g6 := g5.same s6
  refine ⟨b, 3, rfl, g6, by decide, by decide, fun r7 J7 r7a r7b k7 g7 => ?_⟩
  have K7 : Kp b H J7 := K4.trans (k5.trans ((Kp.of s6).trans k7))
  refine rd_pick (k7 _ _ m6 e6) r7a r7b fun v hv => ?_
  obtain ⟨many, rfl, m1, dn⟩ : ∃ f : Nat, v = .int (f : Int) ∧ 1 ≤ f ∧ first + f ≤ 10 ^ 30 := by
    simp only [List.mem_cons, List.not_mem_nil, or_false] at hv
    have t30 : (10 : Nat) ^ 30 = 1000000000000000000000000000000 := by decide
    have i30 : (10 : Int) ^ 30 = 1000000000000000000000000000000 := by decide
    rcases hv with rfl | rfl | rfl
    · exact ⟨1, rfl, by decide, by omega⟩
    · exact ⟨10 ^ 30 - first, by rw [i30]; congr 1; omega, by omega, by omega⟩
    · rcases hbl with ⟨rfl, c⟩ | rfl
      · exact ⟨(1 + r5 * 1).toNat, by rw [Int.toNat_of_nonneg (by omega)], by omega, by omega⟩
      · exact ⟨1, by simp, by decide, by omega⟩
  clear hv K4 k5 s6 k7 g4 g5 g6 e6 m6 n6 ebl hbl
  walk_at "rd_6"
  refine ⟨b, 2, rfl, g7, by decide, by decide, fun r8 J8 r8a r8b k8 g8 => ?_⟩
  have K8 := K7.trans k8
  clear K7 k8 g7
  walk_at "rd_6"
  by_cases c : r8 = 0
  · rw [decide_eq_true c]
    refine iteT ?_
    walk_at "rd_6"
    rw [mul59]
    refine ⟨b, 99, rfl, g8, by decide, by decide, fun r9 J9 r9a r9b k9 g9 => ?_⟩
    walk_at "rd_6"
    rename_i p10 J10 n10 s10 e10
    have m10 : p10 ≠ b := g9.ne n10
    have g10 := g9.same s10
    refine ⟨b, 4, rfl, g10, by decide, by decide, fun r11 J11 r11a r11b k11 g11 => ?_⟩
    have K11 := K8.trans (k9.trans ((Kp.of s10).trans k11))
    refine rd_pick (k11 _ _ m10 e10) r11a r11b fun v hv => ?_
    obtain ⟨z, rfl, hz⟩ : ∃ z : Int, v = .int z ∧ z.natAbs < 10 ^ 100 := by
      simp only [List.mem_cons, List.not_mem_nil, or_false] at hv
      rcases hv with rfl | rfl | rfl | rfl
      · exact ⟨_, rfl, by decide⟩
      · exact ⟨_, rfl, by decide +kernel⟩
      · exact ⟨_, rfl, by decide +kernel⟩
      · exact ⟨_, rfl, Nat.lt_of_le_of_lt (show _ ≤ 1000 by omega) (by decide)⟩
    walk_at "rd_6"
    rename_i p12 J12 n12 s12 e12
    exact q p12 (.st ⟨first, many, z⟩) J12 ⟨⟨p12, rfl, e12⟩, dn, m1⟩ hz (K11.free g11 n12) (K11.trans (Kp.of s12)) (g11.same s12)
  · rw [decide_eq_false c]
    refine iteF ?_
    walk_at "rd_6"
    rename_i p1 M1 n1 s1 e1 p2 M2 n2 s2 e2 p3 M3 n3 s3 e3 p4 M4 n4 s4 e4 p5 M5 n5 s5 e5 p6 M6 n6 s6 e6
    have s56 := s6
    have s46 := Same.trans s5 s56
    have s36 := Same.trans s4 s46
    have s26 := Same.trans s3 s36
    have s16 := Same.trans s2 s26
    have s06 := Same.trans s1 s16
    have gM := g8.same s06
    have A6 : AmsAt M6 [.ref p1, .ref p2, .ref p3, .ref p4, .ref p5, .ref p6] [(1000000, 1), (-1000000, 1), (1, 1000000), (0, 1), (-7, 12), (999999, 1000000)] :=
      .cons (s16 _ _ e1) (by decide) (by decide) (by unfold Bd; decide) (by unfold Bd; decide) (.cons (s26 _ _ e2) (by decide) (by decide) (by unfold Bd; decide) (by unfold Bd; decide) (.cons (s36 _ _ e3) (by decide) (by decide) (by unfold Bd; decide) (by unfold Bd; decide)
        (.cons (s46 _ _ e4) (by decide) (by decide) (by unfold Bd; decide) (by unfold Bd; decide) (.cons (s56 _ _ e5) (by decide) (by decide) (by unfold Bd; decide) (by unfold Bd; decide) (.cons e6 (by decide) (by decide) (by unfold Bd; decide) (by unfold Bd; decide) .nil)))))
    have K6 := K8.trans (Kp.of s06)
    clear e1 e2 e3 e4 e5 e6 s1 s2 s3 s4 s5 s6 s56 s46 s36 s26 s16 s06 K8 g8 n1 n2 n3 n4 n5 n6
    refine ⟨b, rfl, gM, fun p7 x y M7 y0 gg bx bu xy n7 e7 k7 g7 => ?_⟩
    have K7 := K6.trans k7
    have A7 : AmsAt M7 ([.ref p1, .ref p2, .ref p3, .ref p4, .ref p5, .ref p6] ++ [.ref p7]) _ := (A6.mono fun p xs h => k7.tup gM h).snoc e7 y0 gg bx bu
    clear A6 K6 k7 gM n7 e7
    walk_at "rd_6"
    rename_i p8 M8 n8 s8 e8
    have g8 := g7.same s8
    have m8 : p8 ≠ b := g7.ne n8
    refine ⟨b, 4, rfl, g8, by decide, by decide, fun r9 M9 r9a r9b k9 g9 => ?_⟩
    have K9 := K7.trans ((Kp.of s8).trans k9)
    have e9 := k9 _ _ m8 e8
    have A9 := A7.mono fun p xs h => k9.tup g8 (s8 _ _ h)
    have ok7 : ∀ r ∈ ([(1000000, 1), (-1000000, 1), (1, 1000000), (0, 1), (-7, 12), (999999, 1000000)] ++ [(x, y)] : List (Int × Int)), r.1.natAbs ≤ 1000000 ∧ r.2 ≤ 1000000 := fun r hr => by
      simp only [List.cons_append, List.nil_append, List.mem_cons, List.not_mem_nil, or_false] at hr
      rcases hr with rfl | rfl | rfl | rfl | rfl | rfl | rfl
      all_goals first | exact xy | exact ⟨by decide, by decide⟩
    clear A7 K7 s8 k9 e8 n8 g7 g8 bx bu gg y0 xy
    generalize ([(1000000, 1), (-1000000, 1), (1, 1000000), (0, 1), (-7, 12), (999999, 1000000)] ++ [(x, y)] : List (Int × Int)) = l7 at A9 ok7
    walk_at "rd_6"
    have hn : (1 + r9).toNat ≤ 4 ∧ 1 ≤ (1 + r9).toNat := by omega
    generalize (1 + r9).toNat = N at hn ⊢
    intro D nD
    have mD : D ≠ b := g9.ne nD
    have m8D : p8 ≠ D := ne_of_none e9 nD
    refine lc_growB (fun i ys J => Kd b D M9 J ∧ Bag b J ∧ (AmsAt J _ l7 ∧ J p8 = some (.lst _)) ∧ ∃ l, AmsAt J ys l ∧ ∀ r ∈ l, r.1.natAbs ≤ 1000000 ∧ r.2 ≤ 1000000) ⟨Kd.start _, g9.new nD, ⟨A9.mono fun p xs h => new_any nD h, new_any nD e9⟩, [], .nil, fun r hr => by cases hr⟩ (fun i ys J hi hy hD w => ?_) fun ys JA hy hD w => ?_
    · obtain ⟨kd, gJ, ⟨AJ, eJ⟩, l, hl, ao⟩ := w
      walk_at "rd_6"
      refine ⟨rfl, ?_⟩
      walk_at "rd_6"
      refine ⟨b, 7, rfl, gJ, by decide, by decide, fun rB JB rBa rBb kB gB => ?_⟩
      have eB := kB _ _ m8 eJ
      have AB := AJ.mono fun p xs h => kB.tup gJ h
      refine rd_pick eB rBa rBb fun v hv => ?_
      obtain ⟨j, hj⟩ := List.getElem?_of_mem hv
      obtain ⟨pr, x', y', rfl, er, hpr, y0, gg, bx, bu⟩ := AB.get hj
      have xy := ok7 _ (List.mem_of_getElem? er)
      refine lcEndB_mk (kB _ _ mD hD) hy (by omega) fun J4 p4 e4 => ⟨(kd.kp kB).pu p4, p4.bag mD gB, ⟨AB.mono fun p xs h => p4.tup h, p4.lst m8D eB⟩, l ++ [(x', y')], ?_, fun r hr => (List.mem_append.mp hr).elim (ao r) fun h => by
        obtain rfl := List.mem_singleton.mp h
        exact xy⟩
      exact (hl.mono fun p xs h => p4.tup (kB.tup gJ h)).snoc (p4.tup hpr) y0 gg bx bu
    obtain ⟨kd, gA, _, l, hl, ao⟩ := w
    have KA := K9.trans (kd.of nD)
    have ln := hl.len
    clear K9 g9 kd nD A9 e9
    walk_at "rd_6"
    refine rd_tupL (SqL.of hD) fun t JC nt sC eC => ?_
    walk_at "rd_6"
    rename_i pE JE nE sE eE
    have s8 := Same.trans sC sE
    refine q pE (.en ⟨first, many, l⟩) JE ⟨⟨pE, t, ys, rfl, eE, sE _ _ eC, hl.mono fun p xs h => s8 _ _ h, ?_, ?_, dn, m1⟩, ao⟩ trivial (KA.free gA (Same.none sC nE)) (KA.trans (Kp.of s8)) (gA.same s8)
    · intro z
      rw [show l = [] from z, List.length_nil] at ln
      omega
    · show l.length ≤ 4
      omega

/-! ### the law's own reading -/
theorem cut_one (y : Str) : decide (cutS y none (some 1) = ("-" : Str)) = minus y := by
  unfold minus
  refine decide_eq_decide.mpr ?_
  have e : TL.tl (cutS y none (some 1)) = (TL.tl y).take 1 := by
    unfold cutS
    rw [TL.tl_mk]
    have l := TL.len_tl y
    show List.take (min (1 : Int).toNat y.length - 0) (List.drop 0 (TL.tl y)) = _
    rw [show (1 : Int).toNat = 1 from rfl, Nat.sub_zero, List.drop_zero]
    rcases Nat.eq_zero_or_pos y.length with z | p
    · have : TL.tl y = [] := List.length_eq_zero_iff.mp (by omega)
      rw [this]
      simp
    · rw [show min 1 y.length = 1 by omega]
  have e2 : TL.tl ("-" : Str) = [45] := by decide +kernel
  constructor
  · intro h
    have := congrArg TL.tl h
    rw [e, e2] at this
    cases hy : TL.tl y with
    | nil => rw [hy] at this; cases this
    | cons a l => rw [hy] at this; rw [List.head?_cons]; exact congrArg some (List.cons.inj (show [a] = [45] from this)).1
  · intro h
    refine str_ext ?_
    rw [e, e2]
    cases hy : TL.tl y with
    | nil => rw [hy] at h; cases h
    | cons a l =>
      rw [hy] at h
      cases h
      rfl
def numV (sg : Bool) (y : Str) : V := if sg then vI (intR y) else vO (natR y)
def sp__law_number_in (K : PySem.W.Frag) : Sp := fun vs H Q _ => ∃ (y : Str) (sg : Bool), vs = [.str y, .bl sg] ∧ y.length ≤ 100000 ∧ ∀ J, Same H J → Q (numV sg y) J
theorem ar__law_number_in (K : PySem.W.Frag) : ∀ vs H Q E, sp__law_number_in K vs H Q E → vs.length = 2 := by
  intro vs H Q E h
  obtain ⟨y, sg, rfl, _⟩ := h
  rfl
abbrev N__law_number_in : List Str := ["_law_word", "_law_signed", "_law_digits", "_law_sign"]
theorem sc__law_number_in : FnScope N__law_number_in ["_law_word", "_law_signed"] (defScope S__law_number_in) := ⟨rfl, rfl, rfl, by decide +kernel, rfl, by decide +kernel, by decide +kernel⟩
theorem ok__law_number_in {P : Program} {w : World} {K : PySem.W.Frag} {mg : Str → Option Value} {base : Heap} {f : Addr} {fd : FuncData} (F : Fun K "_law_number_in" "_law_number_in" S__law_number_in f fd) (m_int : mg "int" = none) (m_all : mg "all" = none) (m_len : mg "len" = none) :
    FnG P w K mg base CX0 1 f fd ["_law_word", "_law_signed"] (sp__law_number_in K) := by
  refine Fun_okG F sc__law_number_in (ar__law_number_in K) (fun cdv A outer s H vs Q E hg hr h => ?_)
  obtain ⟨y, sg, rfl, yl, q⟩ := h
  refine ⟨_, (pss_cons (ps_set (i := 2) sc__law_number_in.nd rfl (Or.inl rfl) (pe_ifExp (PW.pt (pw_and (pt_val (pv 1)) (pw_and1 (pt_cmpR op_eq (pe_slice sl_str (pv 0) po_none (po_some pe_int)) pe_str (nomark _))))) (pe_slice sl_str (pv 0) (po_some pe_int) po_none) (pv 0)))
    (pss_cons (ps_if (PW.pt (pw_or (pt_not (pt_chain op_le op_le pe_int (pe_callB (id := "len") call_len_str (by rfl) m_len (by decide +kernel) (pa_cons (pv 2) pa_nil)) pe_int)) (pw_or1 (pt_not (pt_val (pe_callB (id := "all") (allK (K := K) rfl rfl) (by rfl) m_all (by decide +kernel) (pa_cons (pe_lc (own := [("_law_sign", 3)]) rfl sc__law_number_in.nd (pi_str (pv 2)) (blkOk_by (own := [("_law_sign", 3)]) (N := N__law_number_in) (sc := defScope S__law_number_in) (by decide +kernel)) (fun _ _ _ _ _ => (pg_name (i := 3) sc__law_number_in.nd rfl (Or.inl rfl))) (fun _ _ _ _ _ => pts_nil) (fun _ _ _ _ _ => (pe_cmpR op_in_sign (pv 3) pe_str rfl))) pa_nil))))))) (pss_one (ps_ret pe_non)) pss_nil)
    (pss_cons (ps_if (PW.pt (pw_and (pt_cmpR op_eq (pe_ix ix_str (pv 2) pe_int (fun _ _ => rfl)) pe_str (nomark _)) (pw_and1 (pt_cmpR op_ne (pv 0) pe_str (nomark _))))) (pss_one (ps_ret pe_non)) pss_nil)
    (pss_one (ps_ret (pe_callTy (T := "int") call_int_str (by rfl) m_int (by decide +kernel) (pa_cons (pv 0) pa_nil))))))), ?_⟩
  have sl := sizeLine_eq
  have s0 : Same H H := fun _ _ e => e
  have tl : (cutS y (some 1) none).length ≤ y.length := cutS_length y (some 1) none
  walk_at "rd_6"
  by_cases cm : sg = true ∧ minus y = true
  · obtain ⟨rfl, cm⟩ := cm
    have off : ∀ J, Same H J → natR (cutS y (some 1) none) = none → Q .non J := fun J s e => by
      have := q J s
      unfold numV intR at this
      rw [if_pos rfl, if_pos cm] at this
      rw [show natR (tailS y) = none from e] at this
      exact this
    refine iteT ?_
    walk_at "rd_6"
    refine ⟨y, rfl, by omega, ?_⟩
    walk_at "rd_6"
    refine rd_eqStr ?_
    rw [cut_one, cm]
    refine ⟨true, rfl, ?_⟩
    refine iteT ?_
    walk_at "rd_6"
    refine ⟨y, rfl, by omega, ?_⟩
    walk_at "rd_6"
    refine ⟨cutS y (some 1) none, rfl, by omega, ?_⟩
    walk_at "rd_6"
    by_cases c1 : 1 ≤ (cutS y (some 1) none).length
    · rw [decide_eq_true (show (1 : Int) ≤ ((cutS y (some 1) none).length : Int) by omega)]
      refine iteT ?_
      walk_at "rd_6"
      by_cases c2 : (cutS y (some 1) none).length ≤ 100
      · rw [decide_eq_true (show ((cutS y (some 1) none).length : Int) ≤ 100 by omega)]
        refine iteF ?_
        walk_at "rd_6"
        refine rd_iStr ?_
        walk_at "rd_6"
        refine ⟨cutS y (some 1) none, rfl, fun D nD => ?_⟩
        refine lc_mapS (fun c => .bl (decide (c ∈ TL.tl ("0123456789" : Str)))) (by omega) nD (fun c hc l R r => ?_) ?_
        · walk_at "rd_6"
          exact ⟨c, _, rfl, rfl, r⟩
        have sD : Same H (upd H D (.lst ((TL.tl (cutS y (some 1) none)).map fun c => .bl (decide (c ∈ TL.tl ("0123456789" : Str)))))) := same_new nD
        generalize eJ : upd H D (.lst ((TL.tl (cutS y (some 1) none)).map fun c => V.bl (decide (c ∈ TL.tl ("0123456789" : Str))))) = J at sD
        have hJ : J D = some (.lst (((TL.tl (cutS y (some 1) none)).map fun c => decide (c ∈ TL.tl ("0123456789" : Str))).map V.bl)) := by rw [← eJ, upd_same, List.map_map]; rfl
        clear eJ
        walk_at "rd_6"
        refine rd_all (SqL.of hJ) ?_
        rw [all_dig]
        by_cases c3 : (TL.tl (cutS y (some 1) none)).all (fun c => decide (48 ≤ c ∧ c ≤ 57)) = true
        · rw [c3]
          refine ⟨true, rfl, ?_⟩
          refine iteF ?_
          walk_at "rd_6"
          obtain ⟨a, l, el⟩ : ∃ a l, TL.tl (cutS y (some 1) none) = a :: l := by
            have := TL.len_tl (cutS y (some 1) none)
            cases e : TL.tl (cutS y (some 1) none) with
            | nil => rw [e, List.length_nil] at this; omega
            | cons a l => exact ⟨a, l, rfl⟩
          refine ⟨cutS y (some 1) none, 0, a, rfl, rfl, by omega, atI_nat (j := 0) (by rw [show (cutS y (some 1) none).cps.toList = a :: l from el]; rfl), ?_⟩
          walk_at "rd_6"
          refine rd_eqStr ?_
          by_cases c4 : a = 48
          · subst c4
            rw [decide_eq_true (show ({ cps := #[48] } : Str) = "0" by decide +kernel)]
            refine ⟨true, rfl, ?_⟩
            refine iteT ?_
            walk_at "rd_6"
            refine rd_neStr ?_
            have yne : ¬ y = "0" := fun z => by
              rw [z] at cm
              revert cm
              decide +kernel
            rw [decide_eq_false yne]
            refine ⟨true, rfl, ?_⟩
            refine iteT ?_
            walk_at "rd_6"
            have ei : intR y = none := by
              unfold intR
              rw [if_pos cm]
              cases en : natR (tailS y) with
              | none => rfl
              | some n =>
                dsimp only
                have n0 : n = 0 := by
                  unfold natR at en
                  split at en
                  · rename_i c
                    obtain rfl := Option.some.inj en
                    have el : TL.tl (tailS y) = 48 :: l := el
                    have hh : ¬ 1 < (tailS y).length := fun k => c.2.2 ⟨by rw [el]; rfl, k⟩
                    have lt := TL.len_tl (tailS y)
                    rw [el, List.length_cons] at lt
                    have : l = [] := List.length_eq_zero_iff.mp (by omega)
                    rw [el, this]
                    rfl
                  · cases en
                rw [if_pos n0]
            have qq := q J sD
            unfold numV at qq
            rw [if_pos rfl, ei] at qq
            exact qq
          · rw [decide_eq_false (show ¬ ({ cps := #[a] } : Str) = "0" from fun z => c4 (by have := congrArg TL.tl z; rw [show TL.tl ("0" : Str) = [48] by decide +kernel] at this; exact (List.cons.inj (show [a] = [48] from this)).1))]
            refine ⟨false, rfl, ?_⟩
            refine iteF ?_
            refine iteF ?_
            walk_at "rd_6"
            have en : natR (tailS y) = some (NumText.digitsVal (TL.tl (tailS y))) := natR_yes ⟨⟨c1, c2⟩, c3, by
              rw [show TL.tl (tailS y) = a :: l from el]
              rintro ⟨z, _⟩
              exact c4 (by simpa using z)⟩
            have hd : NumText.AllDigits (TL.tl (tailS y)) := fun x hx => by simpa using List.all_eq_true.mp c3 x hx
            have pos : 0 < NumText.digitsVal (TL.tl (tailS y)) := dv_pos hd (by rw [show TL.tl (tailS y) = a :: l from el]; simp) (by rw [show TL.tl (tailS y) = a :: l from el]; simpa using c4)
            have ei : intR y = some (-((NumText.digitsVal (TL.tl (tailS y)) : Nat) : Int)) := by
              unfold intR
              rw [if_pos cm, en]
              dsimp only
              rw [if_neg (by omega)]
            have qq := q J sD
            unfold numV at qq
            rw [if_pos rfl, ei] at qq
            exact ⟨y, _, rfl, (int_textI ei).1, by have := (int_textI ei).2; omega, qq⟩
        · rw [Bool.not_eq_true] at c3
          rw [c3]
          refine ⟨false, rfl, ?_⟩
          refine iteT ?_
          walk_at "rd_6"
          exact off J sD (natR_no fun h => by rw [h.2.1] at c3; cases c3)
      · rw [decide_eq_false (show ¬ ((cutS y (some 1) none).length : Int) ≤ 100 by omega)]
        refine iteT ?_
        refine iteT ?_
        walk_at "rd_6"
        exact off H s0 (natR_no fun h => c2 h.1.2)
    · rw [decide_eq_false (show ¬ (1 : Int) ≤ ((cutS y (some 1) none).length : Int) by omega)]
      refine iteF ?_
      refine ⟨false, rfl, ?_⟩
      refine iteT ?_
      refine iteT ?_
      walk_at "rd_6"
      exact off H s0 (natR_no fun h => c1 h.1.1)
  · have hv : numV sg y = vO (natR y) := by
      unfold numV
      cases sg with
      | false => rfl
      | true =>
        rw [if_pos rfl]
        unfold intR
        rw [if_neg (fun z => cm ⟨rfl, z⟩)]
        cases natR y <;> rfl
    rw [hv] at q
    have off : ∀ J, Same H J → natR y = none → Q .non J := fun J s e => by
      have := q J s
      rwa [e] at this
    cases sg with
    | false =>
      refine iteF ?_
      refine iteF ?_
      walk_at "rd_6"
      refine ⟨y, rfl, by omega, ?_⟩
      walk_at "rd_6"
      by_cases c1 : 1 ≤ (y).length
      · rw [decide_eq_true (show (1 : Int) ≤ ((y).length : Int) by omega)]
        refine iteT ?_
        walk_at "rd_6"
        by_cases c2 : (y).length ≤ 100
        · rw [decide_eq_true (show ((y).length : Int) ≤ 100 by omega)]
          refine iteF ?_
          walk_at "rd_6"
          refine rd_iStr ?_
          walk_at "rd_6"
          refine ⟨y, rfl, fun D nD => ?_⟩
          refine lc_mapS (fun c => .bl (decide (c ∈ TL.tl ("0123456789" : Str)))) (by omega) nD (fun c hc l R r => ?_) ?_
          · walk_at "rd_6"
            exact ⟨c, _, rfl, rfl, r⟩
          have sD : Same H (upd H D (.lst ((TL.tl (y)).map fun c => .bl (decide (c ∈ TL.tl ("0123456789" : Str)))))) := same_new nD
          generalize eJ : upd H D (.lst ((TL.tl (y)).map fun c => V.bl (decide (c ∈ TL.tl ("0123456789" : Str))))) = J at sD
          have hJ : J D = some (.lst (((TL.tl (y)).map fun c => decide (c ∈ TL.tl ("0123456789" : Str))).map V.bl)) := by rw [← eJ, upd_same, List.map_map]; rfl
          clear eJ
          walk_at "rd_6"
          refine rd_all (SqL.of hJ) ?_
          rw [all_dig]
          by_cases c3 : (TL.tl (y)).all (fun c => decide (48 ≤ c ∧ c ≤ 57)) = true
          · rw [c3]
            refine ⟨true, rfl, ?_⟩
            refine iteF ?_
            walk_at "rd_6"
            obtain ⟨a, l, el⟩ : ∃ a l, TL.tl (y) = a :: l := by
              have := TL.len_tl (y)
              cases e : TL.tl (y) with
              | nil => rw [e, List.length_nil] at this; omega
              | cons a l => exact ⟨a, l, rfl⟩
            refine ⟨y, 0, a, rfl, rfl, by omega, atI_nat (j := 0) (by rw [show (y).cps.toList = a :: l from el]; rfl), ?_⟩
            walk_at "rd_6"
            refine rd_eqStr ?_
            by_cases c4 : a = 48
            · subst c4
              rw [decide_eq_true (show ({ cps := #[48] } : Str) = "0" by decide +kernel)]
              refine ⟨true, rfl, ?_⟩
              refine iteT ?_
              walk_at "rd_6"
              have hz : 1 < y.length ∨ y = "0" := by
                rcases Nat.lt_or_ge 1 y.length with k | k
                · exact .inl k
                · right
                  have l0 := TL.len_tl y
                  rw [el, List.length_cons] at l0
                  have : l = [] := List.length_eq_zero_iff.mp (by omega)
                  exact str_ext (by rw [el, this]; decide +kernel)
              refine rd_neStr ?_
              rcases hz with k | rfl
              · have yne : ¬ y = "0" := fun z => by
                  rw [z] at k
                  revert k
                  decide +kernel
                rw [decide_eq_false yne]
                refine ⟨true, rfl, ?_⟩
                refine iteT ?_
                walk_at "rd_6"
                exact off J sD (natR_no fun h => h.2.2 ⟨by rw [el]; rfl, k⟩)
              · rw [decide_eq_true rfl]
                refine ⟨false, rfl, ?_⟩
                refine iteF ?_
                walk_at "rd_6"
                have en : natR "0" = some 0 := by decide +kernel
                have qq := q J sD
                rw [en] at qq
                exact ⟨"0", _, rfl, int_text en, by decide +kernel, qq⟩
            · rw [decide_eq_false (show ¬ ({ cps := #[a] } : Str) = "0" from fun z => c4 (by have := congrArg TL.tl z; rw [show TL.tl ("0" : Str) = [48] by decide +kernel] at this; exact (List.cons.inj (show [a] = [48] from this)).1))]
              refine ⟨false, rfl, ?_⟩
              refine iteF ?_
              refine iteF ?_
              walk_at "rd_6"
              have en : natR y = some (NumText.digitsVal (TL.tl y)) := natR_yes ⟨⟨c1, c2⟩, c3, by
                rw [el]
                rintro ⟨z, _⟩
                exact c4 (by simpa using z)⟩
              have qq := q J sD
              rw [en] at qq
              exact ⟨y, _, rfl, int_text en, by omega, qq⟩
          · rw [Bool.not_eq_true] at c3
            rw [c3]
            refine ⟨false, rfl, ?_⟩
            refine iteT ?_
            walk_at "rd_6"
            exact off J sD (natR_no fun h => by rw [h.2.1] at c3; cases c3)
        · rw [decide_eq_false (show ¬ ((y).length : Int) ≤ 100 by omega)]
          refine iteT ?_
          refine iteT ?_
          walk_at "rd_6"
          exact off H s0 (natR_no fun h => c2 h.1.2)
      · rw [decide_eq_false (show ¬ (1 : Int) ≤ ((y).length : Int) by omega)]
        refine iteF ?_
        refine ⟨false, rfl, ?_⟩
        refine iteT ?_
        refine iteT ?_
        walk_at "rd_6"
        exact off H s0 (natR_no fun h => c1 h.1.1)
    | true =>
      have cm : minus y = false := by
        rw [← Bool.not_eq_true]
        exact fun z => cm ⟨rfl, z⟩
      refine iteT ?_
      walk_at "rd_6"
      refine ⟨y, rfl, by omega, ?_⟩
      walk_at "rd_6"
      refine rd_eqStr ?_
      rw [cut_one, cm]
      refine ⟨false, rfl, ?_⟩
      refine iteF ?_
      walk_at "rd_6"
      refine ⟨y, rfl, by omega, ?_⟩
      walk_at "rd_6"
      by_cases c1 : 1 ≤ (y).length
      · rw [decide_eq_true (show (1 : Int) ≤ ((y).length : Int) by omega)]
        refine iteT ?_
        walk_at "rd_6"
        by_cases c2 : (y).length ≤ 100
        · rw [decide_eq_true (show ((y).length : Int) ≤ 100 by omega)]
          refine iteF ?_
          walk_at "rd_6"
          refine rd_iStr ?_
          walk_at "rd_6"
          refine ⟨y, rfl, fun D nD => ?_⟩
          refine lc_mapS (fun c => .bl (decide (c ∈ TL.tl ("0123456789" : Str)))) (by omega) nD (fun c hc l R r => ?_) ?_
          · walk_at "rd_6"
            exact ⟨c, _, rfl, rfl, r⟩
          have sD : Same H (upd H D (.lst ((TL.tl (y)).map fun c => .bl (decide (c ∈ TL.tl ("0123456789" : Str)))))) := same_new nD
          generalize eJ : upd H D (.lst ((TL.tl (y)).map fun c => V.bl (decide (c ∈ TL.tl ("0123456789" : Str))))) = J at sD
          have hJ : J D = some (.lst (((TL.tl (y)).map fun c => decide (c ∈ TL.tl ("0123456789" : Str))).map V.bl)) := by rw [← eJ, upd_same, List.map_map]; rfl
          clear eJ
          walk_at "rd_6"
          refine rd_all (SqL.of hJ) ?_
          rw [all_dig]
          by_cases c3 : (TL.tl (y)).all (fun c => decide (48 ≤ c ∧ c ≤ 57)) = true
          · rw [c3]
            refine ⟨true, rfl, ?_⟩
            refine iteF ?_
            walk_at "rd_6"
            obtain ⟨a, l, el⟩ : ∃ a l, TL.tl (y) = a :: l := by
              have := TL.len_tl (y)
              cases e : TL.tl (y) with
              | nil => rw [e, List.length_nil] at this; omega
              | cons a l => exact ⟨a, l, rfl⟩
            refine ⟨y, 0, a, rfl, rfl, by omega, atI_nat (j := 0) (by rw [show (y).cps.toList = a :: l from el]; rfl), ?_⟩
            walk_at "rd_6"
            refine rd_eqStr ?_
            by_cases c4 : a = 48
            · subst c4
              rw [decide_eq_true (show ({ cps := #[48] } : Str) = "0" by decide +kernel)]
              refine ⟨true, rfl, ?_⟩
              refine iteT ?_
              walk_at "rd_6"
              have hz : 1 < y.length ∨ y = "0" := by
                rcases Nat.lt_or_ge 1 y.length with k | k
                · exact .inl k
                · right
                  have l0 := TL.len_tl y
                  rw [el, List.length_cons] at l0
                  have : l = [] := List.length_eq_zero_iff.mp (by omega)
                  exact str_ext (by rw [el, this]; decide +kernel)
              refine rd_neStr ?_
              rcases hz with k | rfl
              · have yne : ¬ y = "0" := fun z => by
                  rw [z] at k
                  revert k
                  decide +kernel
                rw [decide_eq_false yne]
                refine ⟨true, rfl, ?_⟩
                refine iteT ?_
                walk_at "rd_6"
                exact off J sD (natR_no fun h => h.2.2 ⟨by rw [el]; rfl, k⟩)
              · rw [decide_eq_true rfl]
                refine ⟨false, rfl, ?_⟩
                refine iteF ?_
                walk_at "rd_6"
                have en : natR "0" = some 0 := by decide +kernel
                have qq := q J sD
                rw [en] at qq
                exact ⟨"0", _, rfl, int_text en, by decide +kernel, qq⟩
            · rw [decide_eq_false (show ¬ ({ cps := #[a] } : Str) = "0" from fun z => c4 (by have := congrArg TL.tl z; rw [show TL.tl ("0" : Str) = [48] by decide +kernel] at this; exact (List.cons.inj (show [a] = [48] from this)).1))]
              refine ⟨false, rfl, ?_⟩
              refine iteF ?_
              refine iteF ?_
              walk_at "rd_6"
              have en : natR y = some (NumText.digitsVal (TL.tl y)) := natR_yes ⟨⟨c1, c2⟩, c3, by
                rw [el]
                rintro ⟨z, _⟩
                exact c4 (by simpa using z)⟩
              have qq := q J sD
              rw [en] at qq
              exact ⟨y, _, rfl, int_text en, by omega, qq⟩
          · rw [Bool.not_eq_true] at c3
            rw [c3]
            refine ⟨false, rfl, ?_⟩
            refine iteT ?_
            walk_at "rd_6"
            exact off J sD (natR_no fun h => by rw [h.2.1] at c3; cases c3)
        · rw [decide_eq_false (show ¬ ((y).length : Int) ≤ 100 by omega)]
          refine iteT ?_
          refine iteT ?_
          walk_at "rd_6"
          exact off H s0 (natR_no fun h => c2 h.1.2)
      · rw [decide_eq_false (show ¬ (1 : Int) ≤ ((y).length : Int) by omega)]
        refine iteF ?_
        refine ⟨false, rfl, ?_⟩
        refine iteT ?_
        refine iteT ?_
        walk_at "rd_6"
        exact off H s0 (natR_no fun h => c1 h.1.1)

def sp__law_is_amount (K : PySem.W.Frag) : Sp := fun vs H Q _ => ∃ (y : Str), vs = [.str y] ∧ y.length ≤ 100000 ∧ ∀ J, Same H J → Q (.bl (amR y).isSome) J
theorem ar__law_is_amount (K : PySem.W.Frag) : ∀ vs H Q E, sp__law_is_amount K vs H Q E → vs.length = 1 := by
  intro vs H Q E h
  obtain ⟨y, rfl, _⟩ := h
  rfl
abbrev N__law_is_amount : List Str := ["_law_word", "_law_head", "_law_stroke", "_law_tail", "_law_top", "_law_under"]
theorem sc__law_is_amount : FnScope N__law_is_amount ["_law_word"] (defScope S__law_is_amount) := ⟨rfl, rfl, rfl, by decide +kernel, rfl, by decide +kernel, by decide +kernel⟩
theorem ok__law_is_amount {P : Program} {w : World} {K : PySem.W.Frag} {mg : Str → Option Value} {base : Heap} {f : Addr} {fd : FuncData} (F : Fun K "_law_is_amount" "_law_is_amount" S__law_is_amount f fd) {f__law_part : Addr} {fd__law_part : FuncData} (C__law_part : Cal P w K mg base "_law_part" 1 f__law_part fd__law_part ["_law_one", "_law_other"] (sp__law_part K)) {f__law_number_in : Addr} {fd__law_number_in : FuncData} (C__law_number_in : Cal P w K mg base "_law_number_in" 1 f__law_number_in fd__law_number_in ["_law_word", "_law_signed"] (sp__law_number_in K)) :
    FnG P w K mg base CX0 2 f fd ["_law_word"] (sp__law_is_amount K) := by
  refine Fun_okG F sc__law_is_amount (ar__law_is_amount K) (fun cdv A outer s H vs Q E hg hr h => ?_)
  obtain ⟨y, rfl, yl, q⟩ := h
  refine ⟨_, (pss_cons (ps_asg (pe_partition (pv 0) pe_str) (pg_tup rfl (pgs_cons (pg_name (i := 1) sc__law_is_amount.nd rfl (Or.inl rfl)) (pgs_cons (pg_name (i := 2) sc__law_is_amount.nd rfl (Or.inl rfl)) (pgs_cons (pg_name (i := 3) sc__law_is_amount.nd rfl (Or.inl rfl)) pgs_nil)))))
    (pss_cons (ps_par (i := 4) (j := 5) rfl sc__law_is_amount.nd rfl rfl (by decide) rfl rfl (pa_cons (pe_c C__law_number_in hg (hr.mono (by decide)) rfl (pa_cons (pv 1) (pa_cons pe_bl pa_nil))) (pa_cons (pe_ifExp (pt_cmpR op_eq (pv 2) pe_str (nomark _)) (pe_c C__law_number_in hg (hr.mono (by decide)) rfl (pa_cons (pv 3) (pa_cons pe_bl pa_nil))) pe_int) pa_nil)) (by rfl))
    (pss_cons (ps_if (PW.pt (pw_or (pt_cmpR op_isN1 (pv 4) pe_non (nomark _)) (pw_or (pt_cmpR op_isN1 (pv 5) pe_non (nomark _)) (pw_or (PW.pt (pw_and (pt_cmpR op_eq (pv 2) pe_str (nomark _)) (pw_and1 (pt_cmpR op_lt (pv 5) pe_int (nomark _))))) (pw_or1 (pt_cmpR op_ne (pe_c C__law_part hg (hr.mono (by decide)) rfl (pa_cons (pv 4) (pa_cons (pv 5) pa_nil))) pe_int (nomark _))))))) (pss_one (ps_ret pe_bl)) pss_nil)
    (pss_one (ps_ret (pe_and (pe_chain op_le op_le (pe_un un_neg (pe_op op_pow pe_int pe_int)) (pv 4) (pe_op op_pow pe_int pe_int)) (pe_one (pe_cmpR op_le (pv 5) (pe_op op_pow pe_int pe_int) (nomark _))))))))), ?_⟩
  have sl := sizeLine_eq
  walk_at "rd_6"
  refine rd_m1 ?_
  walk_at "rd_6"
  refine ⟨⟨_, rfl⟩, ?_⟩
  walk_at "rd_6"
  refine ⟨y, "/", rfl, rfl, by decide +kernel, by omega, fun pT n1 => ?_⟩
  have s1 := same_new (H := H) (p := pT) (o := .tup [.str (Txt.partition y "/").1, .str (Txt.partition y "/").2.1, .str (Txt.partition y "/").2.2]) n1
  have e1 : upd H pT (.tup [.str (Txt.partition y "/").1, .str (Txt.partition y "/").2.1, .str (Txt.partition y "/").2.2]) pT = some (.tup [.str (Txt.partition y "/").1, .str (Txt.partition y "/").2.1, .str (Txt.partition y "/").2.2]) := upd_same
  generalize upd H pT (.tup [.str (Txt.partition y "/").1, .str (Txt.partition y "/").2.1, .str (Txt.partition y "/").2.2]) = J1 at s1 e1 ⊢
  rcases part_cases y with eP | ⟨o, be, eP, lo, lb⟩
  · have aQ := amQ_A eP
    rw [eP] at e1
    dsimp only at e1
    walk_at "rd_6"
    refine ⟨y, true, rfl, yl, fun J2 s2 => ?_⟩
    have s12 := Same.trans s1 s2
    walk_at "rd_6"
    refine rd_eqStr ?_
    rw [show decide (Str.empty = ("/" : Str)) = false from by decide +kernel]
    refine ⟨false, rfl, ?_⟩
    refine iteF ?_
    walk_at "rd_6"
    unfold numV
    rw [if_pos rfl]
    cases eo : intR y with
    | none =>
      have eR : amR y = none := by
        unfold amR
        rw [aQ, eo]
      rw [eR] at q
      dsimp only [vI]
      refine rd_isN ?_
      refine rd_isN1 ?_
      refine iteT ?_
      refine iteT ?_
      walk_at "rd_6"
      exact q J2 s12
    | some x =>
      have xb := intR_bd eo
      have g1 : Int.gcd x ((1 : Nat) : Int) = 1 := Int.gcd_one
      have eR : (amR y).isSome = decide (-1000000 ≤ x ∧ x ≤ 1000000) := by
        unfold amR
        rw [aQ, eo]
        dsimp only
        rw [amT_of (by decide) g1]
        by_cases c : -1000000 ≤ x ∧ x ≤ 1000000
        · rw [if_pos (decide_eq_true ⟨c.1, c.2, by decide⟩), decide_eq_true c]
          rfl
        · rw [if_neg (by simp only [decide_eq_true_eq]; exact fun z => c ⟨z.1, z.2.1⟩), decide_eq_false c]
          rfl
      rw [eR] at q
      dsimp only [vI]
      refine rd_isN ?_
      refine rd_isN0 ?_
      refine iteF ?_
      walk_at "rd_6"
      refine rd_isN ?_
      refine rd_isN0 ?_
      refine iteF ?_
      walk_at "rd_6"
      refine rd_eqStr ?_
      rw [show decide (Str.empty = ("/" : Str)) = false from by decide +kernel]
      refine ⟨false, rfl, ?_⟩
      refine iteF ?_
      refine iteF ?_
      walk_at "rd_6"
      refine ⟨x, 1, rfl, ?_⟩
      rw [show ((Int.gcd x 1 : Nat) : Int) = 1 by rw [Int.gcd_one]; rfl]
      walk_at "rd_6"
      rw [show (!decide ((1 : Int) = 1)) = false from rfl]
      refine iteF ?_
      walk_at "rd_6"
      rw [ten6]
      by_cases b1 : -1000000 ≤ x
      · rw [decide_eq_true b1]
        refine iteT ?_
        walk_at "rd_6"
        rw [ten6]
        by_cases b2 : x ≤ 1000000
        · rw [decide_eq_true b2]
          refine iteT ?_
          walk_at "rd_6"
          rw [ten6]
          have := q J2 s12
          rw [decide_eq_true (And.intro b1 b2)] at this
          exact this
        · rw [decide_eq_false b2]
          refine iteF ?_
          have := q J2 s12
          rw [decide_eq_false (fun z : -1000000 ≤ x ∧ x ≤ 1000000 => b2 z.2)] at this
          exact this
      · rw [decide_eq_false b1]
        refine iteF ?_
        refine ⟨false, rfl, ?_⟩
        refine iteF ?_
        have := q J2 s12
        rw [decide_eq_false (fun z : -1000000 ≤ x ∧ x ≤ 1000000 => b1 z.1)] at this
        exact this
  · have aQ := amQ_B eP
    rw [eP] at e1
    dsimp only at e1
    walk_at "rd_6"
    refine ⟨o, true, rfl, by omega, fun J2 s2 => ?_⟩
    walk_at "rd_6"
    refine iteT ?_
    walk_at "rd_6"
    refine ⟨be, false, rfl, by omega, fun J3 s3 => ?_⟩
    have s13 := Same.trans s1 (Same.trans s2 s3)
    walk_at "rd_6"
    rw [show numV true o = vI (intR o) from rfl, show numV false be = vO (natR be) from rfl]
    cases eo : intR o with
    | none =>
      have eR : amR y = none := by
        unfold amR
        rw [aQ, eo]
      rw [eR] at q
      dsimp only [vI]
      refine rd_isN ?_
      refine rd_isN1 ?_
      refine iteT ?_
      refine iteT ?_
      walk_at "rd_6"
      exact q J3 s13
    | some x =>
      dsimp only [vI]
      refine rd_isN ?_
      refine rd_isN0 ?_
      refine iteF ?_
      walk_at "rd_6"
      cases eb : natR be with
      | none =>
        have eR : amR y = none := by
          unfold amR
          rw [aQ, eo, eb]
        rw [eR] at q
        dsimp only [vO]
        refine rd_isN ?_
        refine rd_isN1 ?_
        refine iteT ?_
        refine iteT ?_
        walk_at "rd_6"
        exact q J3 s13
      | some n =>
        dsimp only [vO]
        refine rd_isN ?_
        refine rd_isN0 ?_
        refine iteF ?_
        walk_at "rd_6"
        by_cases c1 : n < 2
        · have eR : amR y = none := by
            unfold amR
            rw [aQ, eo, eb]
            dsimp only
            by_cases z : n = 1
            · rw [if_pos z]
            · obtain rfl : n = 0 := by omega
              rw [if_neg z]
              dsimp only
              rw [if_neg]
              simp [amT, asRat, ratT]
          rw [eR] at q
          refine iteT ?_
          walk_at "rd_6"
          rw [decide_eq_true (show (n : Int) < 2 by omega)]
          refine iteT ?_
          refine iteT ?_
          walk_at "rd_6"
          exact q J3 s13
        · have eR : (amR y).isSome = amT (ratT x (n : Int)) := by
            unfold amR
            rw [aQ, eo, eb]
            dsimp only
            rw [if_neg (by omega)]
            dsimp only
            cases amT (ratT x (n : Int)) <;> rfl
          rw [eR] at q
          refine iteT ?_
          walk_at "rd_6"
          rw [decide_eq_false (show ¬ (n : Int) < 2 by omega)]
          refine iteF ?_
          walk_at "rd_6"
          refine ⟨x, (n : Int), rfl, ?_⟩
          walk_at "rd_6"
          by_cases g1 : Int.gcd x (n : Int) = 1
          · rw [decide_eq_true (show ((Int.gcd x (n : Int) : Nat) : Int) = 1 by omega)]
            refine iteF ?_
            walk_at "rd_6"
            rw [ten6]
            by_cases b1 : -1000000 ≤ x
            · rw [decide_eq_true b1]
              refine iteT ?_
              walk_at "rd_6"
              rw [ten6]
              by_cases b2 : x ≤ 1000000
              · rw [decide_eq_true b2]
                refine iteT ?_
                walk_at "rd_6"
                rw [ten6]
                have := q J3 s13
                rw [show amT (ratT x (n : Int)) = decide ((n : Int) ≤ 1000000) by rw [amT_of (by omega) g1]; exact decide_eq_decide.mpr ⟨fun z => z.2.2, fun z => ⟨b1, b2, z⟩⟩] at this
                exact this
              · rw [decide_eq_false b2]
                refine iteF ?_
                have := q J3 s13
                rw [show amT (ratT x (n : Int)) = false by rw [amT_of (by omega) g1]; exact decide_eq_false fun z => b2 z.2.1] at this
                exact this
            · rw [decide_eq_false b1]
              refine iteF ?_
              refine ⟨false, rfl, ?_⟩
              refine iteF ?_
              have := q J3 s13
              rw [show amT (ratT x (n : Int)) = false by rw [amT_of (by omega) g1]; exact decide_eq_false fun z => b1 z.1] at this
              exact this
          · rw [decide_eq_false (show ¬ ((Int.gcd x (n : Int) : Nat) : Int) = 1 by omega)]
            refine iteT ?_
            walk_at "rd_6"
            have := q J3 s13
            rw [show amT (ratT x (n : Int)) = false by simp [amT, asRat, ratT, g1]] at this
            exact this
def sp__law_stretch_place (K : PySem.W.Frag) : Sp := fun vs H Q _ => ∃ (a : Addr) (ws : List Str) (n : Nat), vs = [.ref a, .int (n : Int)] ∧ SqL K H a (ws.map V.str) ∧ ws.length ≤ 100000 ∧ n ≤ 100 ∧ (∀ w ∈ ws, w.length ≤ 100000) ∧ ∀ J, Same H J → Q (vO (wrS ws n)) J
theorem ar__law_stretch_place (K : PySem.W.Frag) : ∀ vs H Q E, sp__law_stretch_place K vs H Q E → vs.length = 2 := by
  intro vs H Q E h
  obtain ⟨a, _, _, rfl, _⟩ := h
  rfl
abbrev N__law_stretch_place : List Str := ["_law_words", "_law_at", "_law_first", "_law_many"]
theorem sc__law_stretch_place : FnScope N__law_stretch_place ["_law_words", "_law_at"] (defScope S__law_stretch_place) := ⟨rfl, rfl, rfl, by decide +kernel, rfl, by decide +kernel, by decide +kernel⟩
theorem ok__law_stretch_place {P : Program} {w : World} {K : PySem.W.Frag} {mg : Str → Option Value} {base : Heap} {f : Addr} {fd : FuncData} (F : Fun K "_law_stretch_place" "_law_stretch_place" S__law_stretch_place f fd) {f__law_number_in : Addr} {fd__law_number_in : FuncData} (C__law_number_in : Cal P w K mg base "_law_number_in" 1 f__law_number_in fd__law_number_in ["_law_word", "_law_signed"] (sp__law_number_in K)) (m_len : mg "len" = none) :
    FnG P w K mg base CX0 2 f fd ["_law_words", "_law_at"] (sp__law_stretch_place K) := by
  refine Fun_okG F sc__law_stretch_place (ar__law_stretch_place K) (fun cdv A outer s H vs Q E hg hr h => ?_)
  obtain ⟨a, ws, n, rfl, ha, wl, nl, wz, q⟩ := h
  refine ⟨_, (pss_cons (ps_set (i := 2) sc__law_stretch_place.nd rfl (Or.inl rfl) (pe_ifExp (pt_cmpR op_lt (pv 1) (pe_callB (id := "len") (lenK (K := K) rfl) (by rfl) m_len (by decide +kernel) (pa_cons (pv 0) pa_nil)) (nomark _)) (pe_c C__law_number_in hg (hr.mono (by decide)) rfl (pa_cons (pe_ix (ixK (K := K) rfl) (pv 0) (pv 1) (fun _ _ => rfl)) (pa_cons pe_bl pa_nil))) pe_non))
    (pss_cons (ps_if (PW.pt (pw_or (pt_cmpR op_isN1 (pv 2) pe_non (nomark _)) (pw_or1 (pt_cmpR op_ge (pv 2) (pe_op op_pow pe_int pe_int) (nomark _))))) (pss_one (ps_ret (pv 1))) pss_nil)
    (pss_cons (ps_set (i := 3) sc__law_stretch_place.nd rfl (Or.inl rfl) (pe_ifExp (pt_cmpR op_lt (pe_op op_add (pv 1) pe_int) (pe_callB (id := "len") (lenK (K := K) rfl) (by rfl) m_len (by decide +kernel) (pa_cons (pv 0) pa_nil)) (nomark _)) (pe_c C__law_number_in hg (hr.mono (by decide)) rfl (pa_cons (pe_ix (ixK (K := K) rfl) (pv 0) (pe_op op_add (pv 1) pe_int) (fun _ _ => rfl)) (pa_cons pe_bl pa_nil))) pe_non))
    (pss_one (ps_ret (pe_ifExp (PW.pt (pw_and (pt_cmpR op_notN (pv 3) pe_non (nomark _)) (pw_and1 (pt_chain op_le op_le pe_int (pv 3) (pe_op op_sub (pe_op op_pow pe_int pe_int) (pv 2)))))) pe_non (pe_op op_add (pv 1) pe_int))))))), ?_⟩
  have wz' : ∀ n, (wAt ws n).length ≤ 100000 := fun n => wAt_len wz n
  walk_at "rd_6"
  rw [List.length_map]
  by_cases c0 : n < ws.length
  · rw [decide_eq_true (show (n : Int) < (ws.length : Int) by omega)]
    refine iteT ?_
    walk_at "rd_6"
    refine rd_sxL ha (atI_nat (wAt_in c0)) ?_
    walk_at "rd_6"
    refine ⟨wAt ws n, false, rfl, wz' n, fun J1 s1 => ?_⟩
    have ha1 := sql_sameT s1 ha
    walk_at "rd_6"
    rw [show numV false (wAt ws n) = vO (natR (wAt ws n)) from rfl]
    cases e1 : natR (wAt ws n) with
    | none =>
      have r : wrS ws n = some n := by simp only [wrS, e1]
      rw [r] at q
      dsimp only [vO]
      refine rd_isN ?_
      refine rd_isN1 ?_
      refine iteT ?_
      refine iteT ?_
      walk_at "rd_6"
      exact q J1 s1
    | some f =>
      have fl := natR_lt e1
      dsimp only [vO]
      refine rd_isN ?_
      refine rd_isN0 ?_
      refine iteF ?_
      walk_at "rd_6"
      rw [ten30]
      by_cases c : 10 ^ 30 ≤ f
      · have r : wrS ws n = some n := by simp only [wrS, e1, if_pos c]
        rw [r] at q
        rw [decide_eq_true (show (10 : Int) ^ 30 ≤ (f : Int) by omega)]
        refine iteT ?_
        walk_at "rd_6"
        exact q J1 s1
      rw [decide_eq_false (show ¬ (10 : Int) ^ 30 ≤ (f : Int) by omega)]
      refine iteF ?_
      walk_at "rd_6"
      rw [List.length_map]
      by_cases c1 : n + 1 < ws.length
      · rw [decide_eq_true (show (n : Int) + 1 < (ws.length : Int) by omega)]
        refine iteT ?_
        walk_at "rd_6"
        refine rd_sxL ha1 (atI_nat (wAt_in c1)) ?_
        walk_at "rd_6"
        refine ⟨wAt ws (n + 1), false, rfl, wz' (n + 1), fun J2 s2 => ?_⟩
        have s12 := Same.trans s1 s2
        walk_at "rd_6"
        rw [show numV false (wAt ws (n + 1)) = vO (natR (wAt ws (n + 1))) from rfl]
        cases e2 : natR (wAt ws (n + 1)) with
        | none =>
          have r : wrS ws n = some (n + 1) := by simp only [wrS, e1, if_neg c, e2]
          rw [r] at q
          dsimp only [vO]
          refine ⟨rfl, ?_⟩
          refine ⟨false, by simp, ?_⟩
          refine iteF ?_
          refine iteF ?_
          walk_at "rd_6"
          exact q J2 s12
        | some m =>
          have ml := natR_lt e2
          dsimp only [vO]
          refine ⟨rfl, ?_⟩
          refine ⟨true, by simp, ?_⟩
          refine iteT ?_
          walk_at "rd_6"
          by_cases d1 : 1 ≤ m
          · rw [decide_eq_true (show (1 : Int) ≤ (m : Int) by omega)]
            refine iteT ?_
            walk_at "rd_6"
            rw [ten30]
            by_cases d2 : m ≤ 10 ^ 30 - f
            · have r : wrS ws n = none := by simp only [wrS, e1, if_neg c, e2, if_pos (And.intro d1 d2)]
              rw [r] at q
              rw [decide_eq_true (show (m : Int) ≤ 10 ^ 30 - (f : Int) by omega)]
              refine iteT ?_
              walk_at "rd_6"
              exact q J2 s12
            · have r : wrS ws n = some (n + 1) := by simp only [wrS, e1, if_neg c, e2, if_neg (fun h : 1 ≤ m ∧ m ≤ 10 ^ 30 - f => d2 h.2)]
              rw [r] at q
              rw [decide_eq_false (show ¬ (m : Int) ≤ 10 ^ 30 - (f : Int) by omega)]
              refine iteF ?_
              walk_at "rd_6"
              exact q J2 s12
          · have r : wrS ws n = some (n + 1) := by simp only [wrS, e1, if_neg c, e2, if_neg (fun h : 1 ≤ m ∧ m ≤ 10 ^ 30 - f => d1 h.1)]
            rw [r] at q
            rw [decide_eq_false (show ¬ (1 : Int) ≤ (m : Int) by omega)]
            refine iteF ?_
            refine ⟨false, rfl, ?_⟩
            refine iteF ?_
            walk_at "rd_6"
            exact q J2 s12
      · have r : wrS ws n = some (n + 1) := by simp only [wrS, e1, if_neg c, wAt_out (show ws.length ≤ n + 1 by omega), natR_nil]
        rw [r] at q
        rw [decide_eq_false (show ¬ (n : Int) + 1 < (ws.length : Int) by omega)]
        refine iteF ?_
        walk_at "rd_6"
        refine ⟨rfl, ?_⟩
        refine ⟨false, by simp, ?_⟩
        refine iteF ?_
        refine iteF ?_
        walk_at "rd_6"
        exact q J1 s1
  · have r : wrS ws n = some n := by simp only [wrS, wAt_out (show ws.length ≤ n by omega), natR_nil]
    rw [r] at q
    rw [decide_eq_false (show ¬ (n : Int) < (ws.length : Int) by omega)]
    refine iteF ?_
    walk_at "rd_6"
    refine rd_isN ?_
    refine rd_isN1 ?_
    refine iteT ?_
    refine iteT ?_
    walk_at "rd_6"
    exact q H fun _ _ e => e
def sp__law_item_place (K : PySem.W.Frag) : Sp := fun vs H Q _ => ∃ (a : Addr) (ws : List Str), vs = [.ref a, .int 0] ∧ SqL K H a (ws.map V.str) ∧ ws.length ≤ 100000 ∧ (∀ w ∈ ws, w.length ≤ 100000) ∧ (∀ w ∈ ws, PyData.strOk w = true) ∧ ∀ J, Same H J → Q (vO (wrI ws 0)) J
theorem ar__law_item_place (K : PySem.W.Frag) : ∀ vs H Q E, sp__law_item_place K vs H Q E → vs.length = 2 := by
  intro vs H Q E h
  obtain ⟨a, _, rfl, _⟩ := h
  rfl
abbrev N__law_item_place : List Str := ["_law_words", "_law_at", "_law_place", "_law_rest", "_law_spot", "_law_word"]
theorem sc__law_item_place : FnScope N__law_item_place ["_law_words", "_law_at"] (defScope S__law_item_place) := ⟨rfl, rfl, rfl, by decide +kernel, rfl, by decide +kernel, by decide +kernel⟩
theorem ok__law_item_place {P : Program} {w : World} {K : PySem.W.Frag} {mg : Str → Option Value} {base : Heap} {f : Addr} {fd : FuncData} (F : Fun K "_law_item_place" "_law_item_place" S__law_item_place f fd) {f__law_is_amount : Addr} {fd__law_is_amount : FuncData} (C__law_is_amount : Cal P w K mg base "_law_is_amount" 2 f__law_is_amount fd__law_is_amount ["_law_word"] (sp__law_is_amount K)) {f__law_number_in : Addr} {fd__law_number_in : FuncData} (C__law_number_in : Cal P w K mg base "_law_number_in" 1 f__law_number_in fd__law_number_in ["_law_word", "_law_signed"] (sp__law_number_in K)) {f__law_stretch_place : Addr} {fd__law_stretch_place : FuncData} (C__law_stretch_place : Cal P w K mg base "_law_stretch_place" 2 f__law_stretch_place fd__law_stretch_place ["_law_words", "_law_at"] (sp__law_stretch_place K)) (m_enumerate : mg "enumerate" = none) (m_len : mg "len" = none) :
    FnG P w K mg base CX0 3 f fd ["_law_words", "_law_at"] (sp__law_item_place K) := by
  refine Fun_okG F sc__law_item_place (ar__law_item_place K) (fun cdv A outer s H vs Q E hg hr h => ?_)
  obtain ⟨a, ws, rfl, ha, wl, wz, wo, q⟩ := h
  refine ⟨_, (pss_cons (ps_if (PW.pt (pw_or (pt_cmpR op_ge (pv 1) (pe_callB (id := "len") (lenK (K := K) rfl) (by rfl) m_len (by decide +kernel) (pa_cons (pv 0) pa_nil)) (nomark _)) (pw_or1 (pt_cmpR (niTK (K := K) rfl hr) (pe_ix (ixK (K := K) rfl) (pv 0) (pv 1) (fun _ _ => rfl)) (pe_tup (pa_cons pe_str (pa_cons pe_str pa_nil))) rfl)))) (pss_one (ps_ret (pv 1))) pss_nil)
    (pss_cons (ps_set (i := 2) sc__law_item_place.nd rfl (Or.inl rfl) (pe_c C__law_stretch_place hg (hr.mono (by decide)) rfl (pa_cons (pv 0) (pa_cons (pe_op op_add (pv 1) pe_int) pa_nil))))
    (pss_cons (ps_if (pt_cmpR op_notN (pv 2) pe_non (nomark _)) (pss_one (ps_ret (pv 2))) pss_nil)
    (pss_cons (ps_set (i := 3) sc__law_item_place.nd rfl (Or.inl rfl) (pe_slice (slK (K := K) rfl) (pv 0) (po_some (pe_op op_add (pv 1) pe_int)) po_none))
    (pss_cons (ps_if (pt_cmpR op_eq (pe_ix (ixK (K := K) rfl) (pv 0) (pv 1) (fun _ _ => rfl)) pe_str (nomark _)) (pss_cons (ps_if (PW.pt (pw_or (pt_cmpR (eqK (K := K) rfl (room_u hr)) (pv 3) (pe_lst pa_nil) (nomark _)) (pw_or1 (pt_cmpR op_isN1 (pe_c C__law_number_in hg (hr.mono (by decide)) rfl (pa_cons (pe_ix (ixK (K := K) rfl) (pv 3) pe_int (fun _ _ => rfl)) (pa_cons pe_bl pa_nil))) pe_non (nomark _))))) (pss_one (ps_ret (pe_op op_add (pv 1) pe_int))) pss_nil)
    (pss_one (ps_ret (pe_ifExp (pt_cmpR op_gt (pe_callB (id := "len") (lenK (K := K) rfl) (by rfl) m_len (by decide +kernel) (pa_cons (pv 3) pa_nil)) pe_int (nomark _)) (pe_op op_add (pv 1) pe_int) pe_non)))) pss_nil)
    (pss_cons (ps_for PassesOwn.never rfl (piE (K := K) rfl (by rfl) m_enumerate (pa_cons (pv 3) pa_nil)) (pgT (K := K) rfl rfl (pgs_cons (pg_name (i := 4) sc__law_item_place.nd rfl (Or.inl rfl)) (pgs_cons (pg_name (i := 5) sc__law_item_place.nd rfl (Or.inl rfl)) pgs_nil))) (pss_one (ps_if (PW.pt (pw_or (pt_cmpR op_eq (pv 4) pe_int (nomark _)) (pw_or1 (pt_not (pt_val (pe_c C__law_is_amount hg (hr.mono (by decide)) rfl (pa_cons (pv 5) pa_nil))))))) (pss_one (ps_ret (pe_op op_add (pe_op op_add (pv 1) pe_int) (pv 4)))) pss_nil)))
    (pss_one (ps_ret (pe_ifExp (pt_cmpR (eqK (K := K) rfl (room_u hr)) (pv 3) (pe_lst pa_nil) (nomark _)) (pe_op op_add (pv 1) pe_int) pe_non))))))))), ?_⟩
  have wz' : ∀ n, (wAt ws n).length ≤ 100000 := fun n => wAt_len wz n
  walk_at "rd_6"
  rw [List.length_map]
  by_cases c0 : 0 < ws.length
  · rw [decide_eq_false (show ¬ (ws.length : Int) ≤ 0 by omega)]
    refine iteF ?_
    walk_at "rd_6"
    refine rd_sxL ha (atI_nat (j := 0) (wAt_in c0)) ?_
    have ko : PyData.strOk (wAt ws 0) = true := wAt_ok wo 0
    have ek0 : (ws.map V.str)[0]? = some (.str (wAt ws 0)) := wAt_in c0
    generalize hk : wAt ws 0 = kd at ko ek0 ⊢
    have key : (([PyData.str "entry", PyData.str "statement"].any fun z => PyData.eqv z (.str kd)) = true ∧ (kd = "entry" ∨ kd = "statement")) ∨
        (([PyData.str "entry", PyData.str "statement"].any fun z => PyData.eqv z (.str kd)) = false ∧ ¬ (kd = "entry" ∨ kd = "statement")) := by
      by_cases e1 : kd = ("entry" : Str)
      · subst e1
        exact .inl ⟨by decide +kernel, .inl rfl⟩
      · by_cases e2 : kd = ("statement" : Str)
        · subst e2
          exact .inl ⟨by decide +kernel, .inr rfl⟩
        · refine .inr ⟨?_, ?_⟩
          · simp [PyData.eqv, Ne.symm e1, Ne.symm e2]
          · simp [e1, e2]
    walk_at "rd_6"
    rename_i p J nJ sJ eJ
    refine rd_niT (.str _) (.tup (SqT.of eJ) (.cons (.str "entry") (.cons (.str "statement") .nil))) (by simp [SeqAt.shaped, PyData.canLay0, PyData.depth, ko]) (by decide +kernel) ?_
    rcases key with ⟨ek, hd⟩ | ⟨ek, hd⟩
    · rw [ek]
      walk_at "rd_6"
      refine iteF ?_
      walk_at "rd_6"
      have haJ := sql_sameT sJ ha
      refine ⟨a, ws, 1, rfl, haJ, wl, by omega, wz, fun J2 s2 => ?_⟩
      have sJ2 := Same.trans sJ s2
      have ha2 := sql_sameT s2 haJ
      clear sJ eJ nJ haJ s2
      walk_at "rd_6"
      have rI : wrI ws 0 = match wrS ws 1 with
        | some p => some p
        | none => wrL (isE kd) ws 3 (mostN (isE kd)) 3 := by
        unfold wrI
        rw [hk, if_pos hd]
        try rfl
      cases eS : wrS ws 1 with
      | some p =>
        rw [eS] at rI
        rw [rI] at q
        refine ⟨rfl, ?_⟩
        refine ⟨true, by simp [vO], ?_⟩
        refine iteT ?_
        walk_at "rd_6"
        exact q J2 sJ2
      | none =>
        rw [eS] at rI
        dsimp only at rI
        refine ⟨rfl, ?_⟩
        refine ⟨false, by simp [vO], ?_⟩
        refine iteF ?_
        walk_at "rd_6"
        rename_i p3 J3 n3 s3 e3
        rw [show (0 : Int) + 3 = ((3 : Nat) : Int) from rfl, cutV_fromS _ 3, ← List.map_drop] at e3
        have s13 := Same.trans sJ2 s3
        have ha3 := sql_sameT s3 ha2
        have l2 : 3 ≤ ws.length := by
          obtain ⟨f, m, _, em, _⟩ := wrS_sound eS
          have : 2 < ws.length := wAt_lt fun z => by
            rw [z, natR_nil] at em
            cases em
          omega
        have lrest : (ws.drop 3).length = ws.length - 3 := List.length_drop ..
        have wr : ∀ k, wAt (ws.drop 3) k = wAt ws (3 + k) := fun k => by simp only [wAt, List.getElem?_drop]
        have okr : ∀ w ∈ ws.drop 3, PyData.strOk w = true := fun w hw => wo w (List.mem_of_mem_drop hw)
        refine rd_sxL ha3 (atI_nat (j := 0) ek0) ?_
        walk_at "rd_6"
        refine rd_eqStr ?_
        cases hen : isE kd with
        | true =>
          have e1 : kd = "entry" := of_decide_eq_true hen
          rw [hen] at rI
          rw [show decide (kd = ("statement" : Str)) = false by rw [e1]; decide +kernel]
          refine ⟨false, rfl, ?_⟩
          refine iteF ?_
          walk_at "rd_6"
          have rI : wrI ws 0 = wrL true ws 3 (4 - 0) (3 + 0) := rI
          refine rd_forE ?_
          walk_at "rd_6"
          refine ⟨p3, (ws.drop 3).map V.str, rfl, SqL.of e3, ?_⟩
          refine lp_enum (xs := (ws.drop 3).map V.str) (fun i σ' M => ∃ (o4 o5 : Option V), σ' = [some (.ref a), some (.int 0), some (vO none), some (.ref p3), o4, o5] ∧ Same J3 M ∧ wrI ws 0 = wrL true ws 3 (4 - i) (3 + i) ∧ i ≤ 4) ⟨none, none, rfl, fun _ _ e => e, rI, by decide⟩ (fun i σ M _ w => ?_) (fun i r σ M T J hr w nT sT eT => ?_) (fun σ M w => ?_)
          · obtain ⟨o4, o5, rfl, sM, _⟩ := w
            exact SqL.of (sM _ _ e3)
          · obtain ⟨o4, o5, rfl, sM, rw_, i4⟩ := w
            have sJ := Same.trans s13 (Same.trans sM sT)
            rw [List.getElem?_map] at hr
            obtain ⟨w5, hw5, rfl⟩ := Option.map_eq_some_iff.mp hr
            have li : i < (ws.drop 3).length := (List.getElem?_eq_some_iff.mp hw5).1
            rw [lrest] at li
            have ew5 : wAt ws (3 + i) = w5 := by
              rw [← wr i]
              simp only [wAt, hw5]
              rfl
            have lw5 : w5.length ≤ 100000 := by rw [← ew5]; exact wz' _
            walk_at "rd_6"
            by_cases ci : i = 4
            · subst ci
              rw [show 4 - 4 = 0 from rfl, wrL, if_pos (by omega)] at rw_
              rw [decide_eq_true (show ((4 : Nat) : Int) = 4 from rfl)]
              refine iteT ?_
              refine iteT ?_
              walk_at "rd_6"
              have := q J sJ
              rw [rw_] at this
              exact this
            · rw [decide_eq_false (show ¬ (i : Int) = 4 by omega)]
              refine iteF ?_
              walk_at "rd_6"
              refine ⟨w5, rfl, lw5, fun J5 s5 => ?_⟩
              have s15 := Same.trans sJ s5
              rw [show 4 - i = (4 - (i + 1)) + 1 by omega, wrL, if_neg (by omega), ew5] at rw_
              walk_at "rd_6"
              cases ea : (amR w5).isSome with
              | true =>
                rw [if_pos (show rdW true w5 = true from ea)] at rw_
                refine iteF ?_
                walk_at "rd_6"
                exact ⟨_, _, rfl, Same.trans sM (Same.trans sT s5), rw_, by omega⟩
              | false =>
                rw [if_neg (show ¬ rdW true w5 = true by rw [show rdW true w5 = false from ea]; decide)] at rw_
                refine iteT ?_
                walk_at "rd_6"
                have := q J5 s15
                rw [rw_] at this
                rw [show (0 : Int) + 3 + (i : Int) = ((3 + i : Nat) : Int) by omega]
                exact this
          · obtain ⟨o4, o5, rfl, sM, rw_, i4⟩ := w
            rw [List.length_map, lrest] at rw_ i4
            have s1M := Same.trans s13 sM
            walk_at "rd_6"
            rename_i p6 J6 n6 s6 e6
            refine rd_eqNilS (SqL.of (s6 _ _ (sM _ _ e3))) okr e6 ?_
            by_cases c : ws.drop 3 = []
            · have l3 : ws.length = 3 := by
                have := lrest
                rw [c, List.length_nil] at this
                omega
              rw [l3, show 4 - (3 - 3) = 3 + 1 from rfl, show 3 + (3 - 3) = 3 from rfl, wrL, if_neg (by omega), wAt_out (by omega), if_neg (by rw [rdW_nil]; decide)] at rw_
              rw [decide_eq_true c]
              refine ⟨true, rfl, ?_⟩
              refine iteT ?_
              walk_at "rd_6"
              have := q J6 (Same.trans s1M s6)
              rw [rw_] at this
              exact this
            · have l3 : 3 < ws.length := by
                rcases Nat.lt_or_ge 3 ws.length with z | z
                · exact z
                · exact absurd (List.drop_of_length_le z) c
              have rn : wrI ws 0 = none := by
                rw [rw_, show 3 + (ws.length - 3) = ws.length by omega]
                cases 4 - (ws.length - 3) with
                | zero => rw [wrL, if_neg (by omega)]
                | succ k => rw [wrL, if_pos ⟨rfl, l3⟩]
              rw [decide_eq_false c]
              refine ⟨false, rfl, ?_⟩
              refine iteF ?_
              walk_at "rd_6"
              have := q J6 (Same.trans s1M s6)
              rw [rn] at this
              exact this
        | false =>
          have e0 : ¬ kd = "entry" := of_decide_eq_false hen
          have e1 : kd = "statement" := hd.resolve_left e0
          rw [hen] at rI
          rw [show decide (kd = ("statement" : Str)) = true from decide_eq_true e1]
          refine ⟨true, rfl, ?_⟩
          refine iteT ?_
          walk_at "rd_6"
          have rI : wrI ws 0 = wrL false ws 3 1 3 := rI
          rename_i p4 J4 n4 s4 e4
          have s14 := Same.trans s13 s4
          have e34 := s4 _ _ e3
          refine rd_eqNilS (SqL.of e34) okr e4 ?_
          by_cases c : ws.drop 3 = []
          · have l3 : ws.length = 3 := by
              have := lrest
              rw [c, List.length_nil] at this
              omega
            rw [wrL, if_neg (by omega), wAt_out (by omega), if_neg (by rw [rdW_nil]; decide)] at rI
            rw [decide_eq_true c]
            refine ⟨true, rfl, ?_⟩
            refine iteT ?_
            refine iteT ?_
            walk_at "rd_6"
            have := q J4 s14
            rw [rI] at this
            exact this
          · have l3 : 3 < ws.length := by
              rcases Nat.lt_or_ge 3 ws.length with z | z
              · exact z
              · exact absurd (List.drop_of_length_le z) c
            rw [wrL, if_neg (by omega)] at rI
            rw [decide_eq_false c]
            refine ⟨false, rfl, ?_⟩
            refine iteF ?_
            walk_at "rd_6"
            refine rd_sxL (SqL.of e34) (atI_nat (j := 0) (wAt_in (ws := ws.drop 3) (by rw [lrest]; omega))) ?_
            walk_at "rd_6"
            refine ⟨wAt (ws.drop 3) 0, true, rfl, by rw [wr]; exact wz' _, fun J5 s5 => ?_⟩
            have s15 := Same.trans s14 s5
            have e35 := s5 _ _ e34
            rw [show numV true (wAt (ws.drop 3) 0) = vI (intR (wAt ws 3)) by rw [wr]; rfl]
            walk_at "rd_6"
            cases ei : intR (wAt ws 3) with
            | none =>
              rw [if_neg (by show ¬ rdW false (wAt ws 3) = true; rw [rdW]; simp [ei])] at rI
              dsimp only [vI]
              refine rd_isN ?_
              refine rd_isN1 ?_
              refine iteT ?_
              walk_at "rd_6"
              have := q J5 s15
              rw [rI] at this
              exact this
            | some z0 =>
              rw [if_pos (by show rdW false (wAt ws 3) = true; rw [rdW]; simp [ei]), wrL] at rI
              dsimp only [vI]
              refine rd_isN ?_
              refine rd_isN0 ?_
              refine iteF ?_
              walk_at "rd_6"
              rw [List.length_map, lrest]
              by_cases c2 : 4 < ws.length
              · rw [if_pos c2] at rI
                rw [decide_eq_true (show (1 : Int) < ((ws.length - 3 : Nat) : Int) by omega)]
                refine iteT ?_
                walk_at "rd_6"
                have := q J5 s15
                rw [rI] at this
                exact this
              · rw [if_neg c2] at rI
                rw [decide_eq_false (show ¬ (1 : Int) < ((ws.length - 3 : Nat) : Int) by omega)]
                refine iteF ?_
                walk_at "rd_6"
                have := q J5 s15
                rw [rI] at this
                exact this
    · rw [ek]
      walk_at "rd_6"
      refine iteT ?_
      walk_at "rd_6"
      have : wrI ws 0 = some 0 := by
        unfold wrI
        rw [hk, if_neg hd]
      rw [this] at q
      exact q J sJ
  · have ew : ws = [] := List.length_eq_zero_iff.mp (by omega)
    rw [decide_eq_true (show (ws.length : Int) ≤ 0 by omega)]
    refine iteT ?_
    refine iteT ?_
    walk_at "rd_6"
    have : wrI ws 0 = some 0 := by
      rw [ew]
      decide +kernel
    rw [this] at q
    exact q H fun _ _ e => e

/-! ### words otherwise -/
theorem strOk_app {a c : Str} (h : PyData.strOk a = true) (k : PyData.strOk c = true) : PyData.strOk (a ++ c) = true := strOk_of fun x hx => by
  rw [TL.tl_append] at hx
  rcases List.mem_append.mp hx with z | z
  · exact strOk_lt h z
  · exact strOk_lt k z
theorem strOk_tail {a : Str} (h : PyData.strOk a = true) : PyData.strOk (cutS a (some 1) none) = true := strOk_of fun x hx => by
  have : x ∈ TL.tl (tailS a) := hx
  rw [tl_tail] at this
  exact strOk_lt h (List.mem_of_mem_drop this)
theorem long_len : (txI (10 ^ Int.toNat 50 * 10 ^ Int.toNat 50)).length ≤ 150 := by
  rw [show (10 : Int) ^ Int.toNat 50 * 10 ^ Int.toNat 50 = ((10 ^ 100 : Nat) : Int) by decide +kernel, TL.len_tl, txI_nat]
  have := TL.numL_len (n := 10 ^ 100) (k := 101) (by decide) (by decide)
  omega
/-- a list of words, none longer than L -/
structure Wds (H : Hp) (a : Addr) (ws : List Str) (n L : Nat) : Prop where
  at_ : H a = some (.lst (ws.map V.str))
  len : ws.length ≤ n
  ln : ∀ w ∈ ws, w.length ≤ L
  ok : ∀ w ∈ ws, PyData.strOk w = true
def sp__law_odd_words (K : PySem.W.Frag) : Sp := fun vs H Q _ => ∃ (b a : Addr) (ws : List Str) (n L : Nat), vs = [.ref b, .ref a] ∧ Bag b H ∧ a ≠ b ∧ Wds H a ws n L ∧ ws ≠ [] ∧ n ≤ 20 ∧ 150 ≤ L ∧ L ≤ 1000 ∧
  ∀ a' ws' J, a' ≠ b → Wds J a' ws' (n + 1) (L + 1) → Kp b H J → Bag b J → Q (.ref a') J
theorem ar__law_odd_words (K : PySem.W.Frag) : ∀ vs H Q E, sp__law_odd_words K vs H Q E → vs.length = 2 := by
  intro vs H Q E h
  obtain ⟨b, a, _, _, _, rfl, _⟩ := h
  rfl
abbrev N__law_odd_words : List Str := ["_law_bag_here", "_law_words", "_law_at", "_law_way", "_law_some", "_law_odd"]
theorem sc__law_odd_words : FnScope N__law_odd_words ["_law_bag_here", "_law_words"] (defScope S__law_odd_words) := ⟨rfl, rfl, rfl, by decide +kernel, rfl, by decide +kernel, by decide +kernel⟩
theorem ok__law_odd_words {P : Program} {w : World} {K : PySem.W.Frag} {mg : Str → Option Value} {base : Heap} {f : Addr} {fd : FuncData} (F : Fun K "_law_odd_words" "_law_odd_words" S__law_odd_words f fd) {f__law_take : Addr} {fd__law_take : FuncData} (C__law_take : Cal P w K mg base "_law_take" 1 f__law_take fd__law_take ["_law_bag_here", "_law_size"] (sp__law_take K)) (m_len : mg "len" = none) (m_str : mg "str" = none) :
    FnG P w K mg base CX0 2 f fd ["_law_bag_here", "_law_words"] (sp__law_odd_words K) := by
  refine Fun_okG F sc__law_odd_words (ar__law_odd_words K) (fun cdv A outer s H vs Q E hg hr h => ?_)
  obtain ⟨b, a, ws, n, L, rfl, hb, mab, W, wne, n20, La, Lb, q⟩ := h
  refine ⟨_, (pss_cons (ps_par (i := 2) (j := 3) rfl sc__law_odd_words.nd rfl rfl (by decide) rfl rfl (pa_cons (pe_c C__law_take hg (hr.mono (by decide)) rfl (pa_cons (pv 0) (pa_cons (pe_callB (id := "len") (lenK (K := K) rfl) (by rfl) m_len (by decide +kernel) (pa_cons (pv 1) pa_nil)) pa_nil))) (pa_cons (pe_c C__law_take hg (hr.mono (by decide)) rfl (pa_cons (pv 0) (pa_cons pe_int pa_nil))) pa_nil)) (by rfl))
    (pss_cons (ps_set (i := 4) sc__law_odd_words.nd rfl (Or.inl rfl) (pe_lst (pa_cons pe_str (pa_cons pe_str (pa_cons pe_str (pa_cons pe_str (pa_cons pe_str (pa_cons pe_str (pa_cons pe_str (pa_cons pe_str (pa_cons pe_str (pa_cons pe_str (pa_cons pe_str (pa_cons pe_str (pa_cons pe_str (pa_cons pe_str (pa_cons pe_str (pa_cons pe_str pa_nil))))))))))))))))))
    (pss_cons (ps_expr (pe_bm PySem.F.plainAttrs_list PySem.F.slot_list_extend PySem.F.type_list_extend mt_extend (pv 4) (pa_cons (pe_lst (pa_cons pe_str (pa_cons pe_str (pa_cons pe_str (pa_cons pe_str (pa_cons pe_str (pa_cons pe_str (pa_cons pe_str (pa_cons pe_str (pa_cons pe_str (pa_cons pe_str (pa_cons pe_str (pa_cons pe_str pa_nil))))))))))))) pa_nil)))
    (pss_cons (ps_expr (pe_bm PySem.F.plainAttrs_list PySem.F.slot_list_extend PySem.F.type_list_extend mt_extend (pv 4) (pa_cons (pe_lst (pa_cons (pe_callTy (T := "str") call_str_int (by rfl) m_str (by decide +kernel) (pa_cons (pe_op op_pow pe_int pe_int) pa_nil)) (pa_cons (pe_callTy (T := "str") call_str_int (by rfl) m_str (by decide +kernel) (pa_cons (pe_op op_ml (pe_op op_pow pe_int pe_int) (pe_op op_pow pe_int pe_int)) pa_nil)) (pa_cons pe_str (pa_cons pe_str (pa_cons (pe_op op_add_str (pe_ix (ixK (K := K) rfl) (pv 1) (pv 2) (fun _ _ => rfl)) pe_str) (pa_cons (pe_op op_add_str pe_str (pe_ix (ixK (K := K) rfl) (pv 1) (pv 2) (fun _ _ => rfl))) pa_nil))))))) pa_nil)))
    (pss_cons (ps_expr (pe_bm PySem.F.plainAttrs_list PySem.F.slot_list_extend PySem.F.type_list_extend mt_extend (pv 4) (pa_cons (pe_lst (pa_cons (pe_op op_add_str pe_str (pe_ix (ixK (K := K) rfl) (pv 1) (pv 2) (fun _ _ => rfl))) (pa_cons (pe_slice sl_str (pe_ix (ixK (K := K) rfl) (pv 1) (pv 2) (fun _ _ => rfl)) (po_some pe_int) po_none) pa_nil))) pa_nil)))
    (pss_cons (ps_set (i := 5) sc__law_odd_words.nd rfl (Or.inl rfl) (pe_ix (ixK (K := K) rfl) (pv 4) (pe_c C__law_take hg (hr.mono (by decide)) rfl (pa_cons (pv 0) (pa_cons (pe_callB (id := "len") (lenK (K := K) rfl) (by rfl) m_len (by decide +kernel) (pa_cons (pv 4) pa_nil)) pa_nil))) (fun _ _ => rfl)))
    (pss_cons (ps_if (pt_cmpR op_lt (pv 3) pe_int (nomark _)) (pss_one (ps_ret (pe_op op_cat (pe_op op_cat (pe_slice (slK (K := K) rfl) (pv 1) po_none (po_some (pv 2))) (pe_lst (pa_cons (pv 5) pa_nil))) (pe_slice (slK (K := K) rfl) (pv 1) (po_some (pe_op op_add (pv 2) pe_int)) po_none)))) pss_nil)
    (pss_cons (ps_if (pt_cmpR op_eq (pv 3) pe_int (nomark _)) (pss_one (ps_ret (pe_op op_cat (pe_slice (slK (K := K) rfl) (pv 1) po_none (po_some (pv 2))) (pe_slice (slK (K := K) rfl) (pv 1) (po_some (pe_op op_add (pv 2) pe_int)) po_none)))) pss_nil)
    (pss_cons (ps_if (pt_cmpR op_eq (pv 3) pe_int (nomark _)) (pss_one (ps_ret (pe_op op_cat (pe_op op_cat (pe_slice (slK (K := K) rfl) (pv 1) po_none (po_some (pv 2))) (pe_lst (pa_cons (pv 5) pa_nil))) (pe_slice (slK (K := K) rfl) (pv 1) (po_some (pv 2)) po_none)))) pss_nil)
    (pss_one (ps_ret (pe_ix (ixK (K := K) rfl) (pe_lst (pa_cons (pe_slice (slK (K := K) rfl) (pv 1) po_none (po_some (pv 2))) (pa_cons (pe_op op_cat (pv 1) (pe_lst (pa_cons (pv 5) pa_nil))) pa_nil))) (pe_op op_sub (pv 3) pe_int) (fun _ _ => rfl))))))))))))), ?_⟩
  have ha := W.at_
  have l1 : 1 ≤ ws.length := List.length_pos_iff.mpr wne
  have ln := W.len
  walk_at "rd_6"
  rw [List.length_map]
  refine ⟨b, (ws.length : Int), rfl, hb, by omega, by omega, fun r1 J1 r1a r1b k1 g1 => ?_⟩
  obtain ⟨k, rfl⟩ : ∃ k : Nat, r1 = (k : Int) := ⟨r1.toNat, by omega⟩
  have kl : k < ws.length := by omega
  have ha1 := k1 _ _ mab ha
  walk_at "rd_6"
  refine ⟨b, 7, rfl, g1, by decide, by decide, fun r2 J2 r2a r2b k2 g2 => ?_⟩
  have ha2 := k2 _ _ mab ha1
  have K2 := k1.trans k2
  have ewk := wAt_in kl
  have lwk : (wAt ws k).length ≤ L := wAt_len W.ln k
  have owk : PyData.strOk (wAt ws k) = true := wAt_ok W.ok k
  generalize wAt ws k = wk at ewk lwk owk
  clear k1 k2 g1 ha1
  walk_at "rd_6"
  rename_i p3 J3 n3 s3 e3 p4 J4 n4 s4 e4
  have nH := K2.free g2 n3
  have m3b : p3 ≠ b := g2.ne n3
  have m3a : a ≠ p3 := ne_of_none ha2 n3
  refine rd_extK (s4 _ _ e3) e4 (Nat.le_of_ble_eq_true rfl) fun J5 u5 e5 => ?_
  have s24 := Same.trans s3 s4
  have ha5 := u5.lst m3a (s24 _ _ ha2)
  have g5 := u5.bag m3b (g2.same s24)
  have K5 : Kp b H J5 := (K2.trans (Kp.of s24)).pu u5 nH
  clear e3 e4 s3 s4 n3 n4 u5 s24 ha2 g2 K2
  walk_at "rd_6"
  refine ⟨by decide +kernel, ?_⟩
  walk_at "rd_6"
  refine ⟨by decide +kernel, ?_⟩
  walk_at "rd_6"
  refine rd_sxL (SqL.of ha5) (atI_nat ewk) ?_
  walk_at "rd_6"
  have sl := sizeLine_eq
  have l0 : ("0" : Str).length = 1 := by decide
  have lm : ("-" : Str).length = 1 := by decide
  refine ⟨_, _, rfl, rfl, by omega, ?_⟩
  walk_at "rd_6"
  refine rd_sxL (SqL.of ha5) (atI_nat ewk) ?_
  refine ⟨_, _, rfl, rfl, by omega, ?_⟩
  walk_at "rd_6"
  rename_i p6 J6 n6 s6 e6
  refine rd_extK (s6 _ _ e5) e6 (Nat.le_of_ble_eq_true rfl) fun J7 u7 e7 => ?_
  have ha7 := u7.lst m3a (s6 _ _ ha5)
  have g7 := u7.bag m3b (g5.same s6)
  have K7 : Kp b H J7 := (K5.trans (Kp.of s6)).pu u7 nH
  clear e5 e6 s6 n6 u7 ha5 g5 K5
  walk_at "rd_6"
  refine rd_sxL (SqL.of ha7) (atI_nat ewk) ?_
  refine ⟨_, _, rfl, rfl, by omega, ?_⟩
  walk_at "rd_6"
  refine rd_sxL (SqL.of ha7) (atI_nat ewk) ?_
  walk_at "rd_6"
  refine ⟨_, rfl, by omega, ?_⟩
  walk_at "rd_6"
  rename_i p8 J8 n8 s8 e8
  refine rd_extK (s8 _ _ e7) e8 (Nat.le_of_ble_eq_true rfl) fun J9 u9 e9 => ?_
  have ha9 := u9.lst m3a (s8 _ _ ha7)
  have g9 := u9.bag m3b (g7.same s8)
  have K9 : Kp b H J9 := (K7.trans (Kp.of s8)).pu u9 nH
  clear e7 e8 s8 n8 u9 ha7 g7 K7
  walk_at "rd_6"
  refine ⟨b, 36, rfl, g9, by decide, by decide, fun rA JA rAa rAb kA gA => ?_⟩
  have haA := kA _ _ mab ha9
  have KA := K9.trans kA
  have e9A := kA _ _ m3b e9
  clear e9 ha9 g9 K9 kA
  refine rd_pick e9A rAa rAb fun v hv => ?_
  obtain ⟨od, rfl, lo, oo⟩ : ∃ od : Str, v = .str od ∧ od.length ≤ L + 1 ∧ PyData.strOk od = true := by
    have tlen := cutS_length wk (some 1) none
    simp only [List.mem_append, List.mem_cons, List.not_mem_nil, or_false, or_assoc] at hv
    rcases hv with rfl | rfl | rfl | rfl | rfl | rfl | rfl | rfl | rfl | rfl | rfl | rfl | rfl | rfl | rfl | rfl | rfl | rfl | rfl | rfl | rfl | rfl | rfl | rfl | rfl | rfl | rfl | rfl | rfl | rfl | rfl | rfl | rfl | rfl | rfl | rfl
    all_goals first
      | exact ⟨_, rfl, Nat.le_trans (m := 150) (by decide +kernel) (by omega), by decide +kernel⟩
      | exact ⟨_, rfl, by rw [Str.length_append]; omega, strOk_app owk (by decide +kernel)⟩
      | exact ⟨_, rfl, by rw [Str.length_append]; omega, strOk_app (by decide +kernel) owk⟩
      | exact ⟨_, rfl, by omega, strOk_tail owk⟩
      | exact ⟨_, rfl, Nat.le_trans long_len (by omega), txI_ok⟩
      | exact ⟨_, rfl, Nat.le_trans (txI_len (by decide +kernel)) (by omega), txI_ok⟩
  clear hv e9A m3a m3b nH
  have big : ∀ (a' : Addr) (ws' : List Str) (J : Hp), a' ≠ b → J a' = some (.lst (ws'.map V.str)) → ws'.length ≤ ws.length + 1 → (∀ w ∈ ws', w ∈ ws ∨ w = od) → Kp b H J → Bag b J → Q (.ref a') J := fun a' ws' J na ea le mem k g =>
    q a' ws' J na ⟨ea, by omega, fun w hw => (mem w hw).elim (fun z => Nat.le_succ_of_le (W.ln w z)) (fun z => by rw [z]; exact lo), fun w hw => (mem w hw).elim (W.ok w) (fun z => by rw [z]; exact oo)⟩ k g
  have lnk : (ws.take k).length = k := by rw [List.length_take]; omega
  have ldr : ∀ j, (ws.drop j).length = ws.length - j := fun j => List.length_drop ..
  have mt : ∀ w ∈ ws.take k, w ∈ ws ∨ w = od := fun w hw => .inl (List.mem_of_mem_take hw)
  have md : ∀ j, ∀ w ∈ ws.drop j, w ∈ ws ∨ w = od := fun j w hw => .inl (List.mem_of_mem_drop hw)
  walk_at "rd_6"
  by_cases w3 : r2 < 3
  · rw [decide_eq_true w3]
    refine iteT ?_
    walk_at "rd_6"
    rename_i pB JB nB sB eB pC JC nC sC eC
    rw [cutV_toS _ k, ← List.map_take] at eB
    refine rd_catK (sC _ _ eB) eC (by rw [List.length_map, lnk]; simp only [List.length_cons, List.length_nil]; omega) fun pD JD nD sD eD => ?_
    have sBD := Same.trans sB (Same.trans sC sD)
    have haD := sBD _ _ haA
    walk_at "rd_6"
    rename_i pE JE nE sE eE
    rw [show (k : Int) + 1 = ((k + 1 : Nat) : Int) by omega, cutV_fromS _ (k + 1), ← List.map_drop] at eE
    refine rd_catK (sE _ _ eD) eE (by simp only [List.length_append, List.length_map, lnk, ldr, List.length_cons, List.length_nil]; omega) fun pF JF nF sF eF => ?_
    have sBF := Same.trans sBD (Same.trans sE sF)
    walk_at "rd_6"
    have gE := gA.same (Same.trans sBD sE)
    refine big pF (ws.take k ++ [od] ++ ws.drop (k + 1)) JF (gE.ne nF) (by rw [eF]; simp) (by simp only [List.length_append, lnk, ldr, List.length_cons, List.length_nil]; omega) (fun w hw => ?_) (KA.trans (Kp.of sBF)) (gA.same sBF)
    rcases List.mem_append.mp hw with hw | hw
    · rcases List.mem_append.mp hw with hw | hw
      · exact mt w hw
      · exact .inr (List.mem_singleton.mp hw)
    · exact md _ w hw
  rw [decide_eq_false w3]
  refine iteF ?_
  walk_at "rd_6"
  by_cases w4 : r2 = 3
  · rw [decide_eq_true w4]
    refine iteT ?_
    walk_at "rd_6"
    rename_i pB JB nB sB eB pE JE nE sE eE
    rw [cutV_toS _ k, ← List.map_take] at eB
    rw [show (k : Int) + 1 = ((k + 1 : Nat) : Int) by omega, cutV_fromS _ (k + 1), ← List.map_drop] at eE
    refine rd_catK (sE _ _ eB) eE (by simp only [List.length_map, lnk, ldr]; omega) fun pF JF nF sF eF => ?_
    have sBF := Same.trans sB (Same.trans sE sF)
    walk_at "rd_6"
    have gE := gA.same (Same.trans sB sE)
    refine big pF (ws.take k ++ ws.drop (k + 1)) JF (gE.ne nF) (by rw [eF]; simp) (by simp only [List.length_append, lnk, ldr]; omega) (fun w hw => ?_) (KA.trans (Kp.of sBF)) (gA.same sBF)
    rcases List.mem_append.mp hw with hw | hw
    · exact mt w hw
    · exact md _ w hw
  rw [decide_eq_false w4]
  refine iteF ?_
  walk_at "rd_6"
  by_cases w5 : r2 = 4
  · rw [decide_eq_true w5]
    refine iteT ?_
    walk_at "rd_6"
    rename_i pB JB nB sB eB pC JC nC sC eC
    rw [cutV_toS _ k, ← List.map_take] at eB
    refine rd_catK (sC _ _ eB) eC (by rw [List.length_map, lnk]; simp only [List.length_cons, List.length_nil]; omega) fun pD JD nD sD eD => ?_
    have sBD := Same.trans sB (Same.trans sC sD)
    have haD := sBD _ _ haA
    walk_at "rd_6"
    rename_i pE JE nE sE eE
    rw [cutV_fromS _ k, ← List.map_drop] at eE
    refine rd_catK (sE _ _ eD) eE (by simp only [List.length_append, List.length_map, lnk, ldr, List.length_cons, List.length_nil]; omega) fun pF JF nF sF eF => ?_
    have sBF := Same.trans sBD (Same.trans sE sF)
    walk_at "rd_6"
    have gE := gA.same (Same.trans sBD sE)
    refine big pF (ws.take k ++ [od] ++ ws.drop k) JF (gE.ne nF) (by rw [eF]; simp) (by simp only [List.length_append, lnk, ldr, List.length_cons, List.length_nil]; omega) (fun w hw => ?_) (KA.trans (Kp.of sBF)) (gA.same sBF)
    rcases List.mem_append.mp hw with hw | hw
    · rcases List.mem_append.mp hw with hw | hw
      · exact mt w hw
      · exact .inr (List.mem_singleton.mp hw)
    · exact md _ w hw
  rw [decide_eq_false w5]
  refine iteF ?_
  walk_at "rd_6"
  rename_i pB JB nB sB eB pC JC nC sC eC
  rw [cutV_toS _ k, ← List.map_take] at eB
  have haC := sC _ _ (sB _ _ haA)
  refine rd_catK haC eC (by simp only [List.length_map, List.length_cons, List.length_nil]; omega) fun pD JD nD sD eD => ?_
  have sBD := Same.trans sB (Same.trans sC sD)
  walk_at "rd_6"
  rename_i pE JE nE sE eE
  have sBE := Same.trans sBD sE
  have gC := gA.same (Same.trans sB sC)
  refine rd_pick eE (by omega) (by simp only [List.length_cons, List.length_nil]; omega) fun v hv => ?_
  simp only [List.mem_cons, List.not_mem_nil, or_false] at hv
  rcases hv with rfl | rfl
  · exact big pB (ws.take k) JE (gA.ne nB) ((Same.trans sC (Same.trans sD sE)) _ _ eB) (by omega) mt (KA.trans (Kp.of sBE)) (gA.same sBE)
  · refine big pD (ws ++ [od]) JE (gC.ne nD) (by rw [sE _ _ eD]; simp) (by simp) (fun w hw => ?_) (KA.trans (Kp.of sBE)) (gA.same sBE)
    rcases List.mem_append.mp hw with hw | hw
    · exact .inl hw
    · exact .inr (List.mem_singleton.mp hw)

/-! ### what the program told, and what is due -/
def placeV : Option Nat → V
  | none => .str "read"
  | some n => .int (n : Int)
def sp__law_place_told (K : PySem.W.Frag) : Sp := fun vs H Q _ => (∃ (x : Str), vs = [.str x] ∧ x.length ≤ 50000 ∧ PyData.strOk x = true ∧ ∀ J, Same H J → Q (placeV (wrI (Txt.split x " ") 0)) J) ∨
  ∃ v t b, vs = [v] ∧ ThAt K b H v t ∧ (∀ s, t ≠ .str s) ∧ ∀ J, Same H J → Q (.int 0) J
theorem ar__law_place_told (K : PySem.W.Frag) : ∀ vs H Q E, sp__law_place_told K vs H Q E → vs.length = 1 := by
  intro vs H Q E h
  rcases h with ⟨x, rfl, _⟩ | ⟨v, t, b, rfl, _⟩ <;> rfl
abbrev N__law_place_told : List Str := ["_law_thing", "e", "_law_others"]
theorem sc__law_place_told : FnScope N__law_place_told ["_law_thing"] (defScope S__law_place_told) := ⟨rfl, rfl, rfl, by decide +kernel, rfl, by decide +kernel, by decide +kernel⟩
theorem ok__law_place_told {P : Program} {w : World} {K : PySem.W.Frag} {mg : Str → Option Value} {base : Heap} {f : Addr} {fd : FuncData} (F : Fun K "_law_place_told" "_law_place_told" S__law_place_told f fd) {f_read_item : Addr} {fd_read_item : FuncData} (C_read_item : CalX P w K mg base "read_item" 6 f_read_item fd_read_item ["text"] (sp_read_item K)) {cE cT bC bD bI bR bS oK : Addr} (XE : ErrZ K mg cE cT bC bD bI bR bS oK) (m_isinstance : mg "isinstance" = none) :
    FnG P w K mg base CX0 7 f fd ["_law_thing"] (sp__law_place_told K) := by
  refine Fun_okG F sc__law_place_told (ar__law_place_told K) (fun cdv A outer s H vs Q E hg hr h => ?_)
  have h0 := h
  refine ⟨_, (pss_cons (ps_try_as (i := 1) rfl rfl sc__law_place_told.nd rfl rfl ⟨rfl, by decide, .inl XE.gE⟩ takes0 (fun W pn xe tk _ => (pss_one (ps_expr (pe_cx tk C_read_item hg (hr.mono (by decide)) rfl (pa_cons (pv 0) pa_nil))))) (fun a oe cls d pn hz hf => (pss_cons (ps_set (i := 2) sc__law_place_told.nd rfl (Or.inl rfl) (pe_callB (id := "isinstance") (call_isX hz hf) (by rfl) m_isinstance (by decide +kernel) (pa_cons (pv 1) (pa_cons (pe_tup (pa_cons (pe_glob (v := V.ref bC) (u := Value.ref bC) rfl XE.gC rfl) (pa_cons (pe_glob (v := V.ref bD) (u := Value.ref bD) rfl XE.gD rfl) (pa_cons (pe_glob (v := V.ref bI) (u := Value.ref bI) rfl XE.gI rfl) (pa_cons (pe_glob (v := V.ref bR) (u := Value.ref bR) rfl XE.gR rfl) (pa_cons (pe_glob (v := V.ref bS) (u := Value.ref bS) rfl XE.gS rfl) (pa_cons (pe_glob (v := V.ref oK) (u := Value.ref oK) rfl XE.gO rfl) pa_nil))))))) pa_nil))))
    (pss_one (ps_ret (pe_ifExp (PW.pt (pw_and (pt_val (pe_callB (id := "isinstance") (call_isX hz hf) (by rfl) m_isinstance (by decide +kernel) (pa_cons (pv 1) (pa_cons (pe_glob (v := V.ref cT) (u := Value.ref cT) rfl XE.gX rfl) pa_nil)))) (pw_and1 (pt_not (pt_val (pv 2)))))) (pe_xf XE.i.xf XE.no hz hf (pv 1)) pe_str))))))
    (pss_one (ps_ret pe_str))), ?_⟩
  rcases h0 with ⟨x, rfl, xl, xo, q⟩ | ⟨v, t, b, rfl, ht, hs, q⟩
  · walk_at "rd_6"
    refine rd_callX ?_
    walk_at "rd_6"
    refine .inl ⟨x, rfl, xl, xo, fun i ei ok v J s h => ?_, fun n ew J J2 d C s1 nd s2 e2 hB => ?_⟩
    · walk_at "rd_6"
      have := q J s
      rw [ei, wrI_none ok] at this
      exact this
    · obtain rfl := XE.is hB
      have sJ := Same.trans s1 s2
      have q := q
      rw [ew] at q
      refine ⟨true, XE.catE, fun _ a na => ?_, fun z => by cases z⟩
      walk_at "rd_6"
      rename_i tp J3 n3 s3 e3
      refine ⟨C, false, rfl, XE.i, .inr ⟨d, _, rfl, s3 _ _ e2⟩, .inr ⟨tp, _, _, rfl, e3, .cons (.own _) (.cons (.own _) (.cons (.own _) (.cons (.own _) (.cons (.own _) (.cons (.own _) .nil))))), XE.off⟩, ?_⟩
      walk_at "rd_6"
      refine ⟨C, true, rfl, XE.i, .inr ⟨d, _, rfl, s3 _ _ e2⟩, .inl ⟨_, _, rfl, .own _, XE.onX⟩, ?_⟩
      walk_at "rd_6"
      refine iteT ?_
      walk_at "rd_6"
      refine iteT ?_
      refine rd_xf ?_
      walk_at "rd_6"
      exact ⟨rfl, rfl, d, _, _, rfl, s3 _ _ e2, rfl, q J3 (Same.trans sJ s3)⟩
  · walk_at "rd_6"
    refine rd_callX ?_
    walk_at "rd_6"
    refine .inr ⟨v, t, b, rfl, ht, hs, fun J J2 d C s1 nd s2 e2 hB => ?_⟩
    obtain rfl := XE.is hB
    have sJ := Same.trans s1 s2
    refine ⟨true, XE.catE, fun _ a na => ?_, fun z => by cases z⟩
    walk_at "rd_6"
    rename_i tp J3 n3 s3 e3
    refine ⟨C, false, rfl, XE.i, .inr ⟨d, _, rfl, s3 _ _ e2⟩, .inr ⟨tp, _, _, rfl, e3, .cons (.own _) (.cons (.own _) (.cons (.own _) (.cons (.own _) (.cons (.own _) (.cons (.own _) .nil))))), XE.off⟩, ?_⟩
    walk_at "rd_6"
    refine ⟨C, true, rfl, XE.i, .inr ⟨d, _, rfl, s3 _ _ e2⟩, .inl ⟨_, _, rfl, .own _, XE.onX⟩, ?_⟩
    walk_at "rd_6"
    refine iteT ?_
    walk_at "rd_6"
    refine iteT ?_
    refine rd_xf ?_
    walk_at "rd_6"
    exact ⟨rfl, rfl, d, _, _, rfl, s3 _ _ e2, rfl, q J3 (Same.trans sJ s3)⟩
def sp__law_due (K : PySem.W.Frag) : Sp := fun vs H Q _ => ∃ (x : Str), vs = [.str x] ∧ x.length ≤ 50000 ∧ PyData.strOk x = true ∧ ∀ J, Same H J → Q (placeV (wrI (Txt.split x " ") 0)) J
theorem ar__law_due (K : PySem.W.Frag) : ∀ vs H Q E, sp__law_due K vs H Q E → vs.length = 1 := by
  intro vs H Q E h
  obtain ⟨x, rfl, _⟩ := h
  rfl
abbrev N__law_due : List Str := ["_law_text", "_law_place"]
theorem sc__law_due : FnScope N__law_due ["_law_text"] (defScope S__law_due) := ⟨rfl, rfl, rfl, by decide +kernel, rfl, by decide +kernel, by decide +kernel⟩
theorem ok__law_due {P : Program} {w : World} {K : PySem.W.Frag} {mg : Str → Option Value} {base : Heap} {f : Addr} {fd : FuncData} (F : Fun K "_law_due" "_law_due" S__law_due f fd) {f__law_item_place : Addr} {fd__law_item_place : FuncData} (C__law_item_place : Cal P w K mg base "_law_item_place" 3 f__law_item_place fd__law_item_place ["_law_words", "_law_at"] (sp__law_item_place K)) :
    FnG P w K mg base CX0 4 f fd ["_law_text"] (sp__law_due K) := by
  refine Fun_okG F sc__law_due (ar__law_due K) (fun cdv A outer s H vs Q E hg hr h => ?_)
  obtain ⟨x, rfl, xl, xo, q⟩ := h
  refine ⟨_, (pss_cons (ps_set (i := 1) sc__law_due.nd rfl (Or.inl rfl) (pe_c C__law_item_place hg (hr.mono (by decide)) rfl (pa_cons (pe_split (pv 0) pe_str) (pa_cons pe_int pa_nil))))
    (pss_one (ps_ret (pe_ifExp (pt_cmpR op_isN1 (pv 1) pe_non (nomark _)) pe_str (pv 1))))), ?_⟩
  have sl := sizeLine_eq
  obtain ⟨sw, sn, se⟩ := split_facts xo
  walk_at "rd_6"
  refine rd_m1 ?_
  walk_at "rd_6"
  refine ⟨⟨_, rfl⟩, ?_⟩
  walk_at "rd_6"
  refine ⟨_, _, rfl, rfl, by decide +kernel, by omega, ?_⟩
  intro a1 n1
  have s1 := same_new (H := H) (p := a1) (o := .lst ((Txt.split x " ").map V.str)) n1
  have e1 : upd H a1 (.lst ((Txt.split x " ").map V.str)) a1 = some (.lst ((Txt.split x " ").map V.str)) := upd_same
  generalize upd H a1 (.lst ((Txt.split x " ").map V.str)) = J1 at s1 e1 ⊢
  walk_at "rd_6"
  refine ⟨a1, Txt.split x " ", rfl, SqL.of e1, by omega, fun w hw => by have := (sw w hw).1; omega, fun w hw => (sw w hw).2, fun J2 s2 => ?_⟩
  have s12 := Same.trans s1 s2
  walk_at "rd_6"
  cases ew : wrI (Txt.split x " ") 0 with
  | none =>
    rw [ew] at q
    dsimp only [vO]
    refine rd_isN ?_
    refine rd_isN1 ?_
    refine iteT ?_
    walk_at "rd_6"
    exact q J2 s12
  | some n =>
    rw [ew] at q
    dsimp only [vO]
    refine rd_isN ?_
    refine rd_isN0 ?_
    refine iteF ?_
    walk_at "rd_6"
    exact q J2 s12

/-! ### items, compared; signs of a text; repr of what is told -/
theorem txI_asc {i : Int} : ∀ c ∈ TL.tl (txI i), c < 128 := fun c hc => by
  rcases Int.lt_or_le i 0 with h | h
  · obtain ⟨n, rfl⟩ : ∃ n : Nat, i = -(n : Int) := ⟨i.natAbs, by omega⟩
    rw [txI_neg (by omega), List.mem_cons] at hc
    rcases hc with rfl | hc
    · decide
    · have := TL.numL_digits n c hc; omega
  · obtain ⟨n, rfl⟩ : ∃ n : Nat, i = (n : Int) := ⟨i.natAbs, by omega⟩
    rw [txI_nat] at hc
    have := TL.numL_digits n c hc
    omega
theorem amW_asc {x y : Int} : ∀ c ∈ TL.tl (amW x y), c < 128 := fun c hc => by
  unfold amW at hc
  split at hc
  · exact txI_asc c hc
  · rw [TL.tl_append, TL.tl_append, List.mem_append, List.mem_append] at hc
    rcases hc with (hc | hc) | hc
    · exact txI_asc c hc
    · rw [show TL.tl ("/" : Str) = [47] by decide +kernel, List.mem_singleton] at hc
      subst hc
      decide
    · exact txI_asc c hc
theorem txt_asc {i : Itm} : ∀ c ∈ TL.tl (txtI i), c < 128 := fun c hc => by
  unfold txtI at hc
  rw [TL.join_eq, TL.tl_join] at hc
  rcases joinL_mem hc with k | ⟨l, hl, k⟩
  · rw [show TL.tl (" " : Str) = [32] by decide +kernel, List.mem_singleton] at k
    subst k
    decide
  · obtain ⟨w, hw, rfl⟩ := List.mem_map.mp hl
    cases i with
    | en e =>
      simp only [wdsI, List.mem_cons, List.mem_map] at hw
      rcases hw with rfl | rfl | rfl | ⟨r, _, rfl⟩
      · exact (show ∀ c ∈ TL.tl ("entry" : Str), c < 128 by decide +kernel) c k
      · exact txI_asc c k
      · exact txI_asc c k
      · exact amW_asc c k
    | st s =>
      simp only [wdsI, List.mem_cons, List.not_mem_nil, or_false] at hw
      rcases hw with rfl | rfl | rfl | rfl
      · exact (show ∀ c ∈ TL.tl ("statement" : Str), c < 128 by decide +kernel) c k
      · exact txI_asc c k
      · exact txI_asc c k
      · exact txI_asc c k
theorem lay_ams : ∀ am : List (Int × Int), PyData.canLayAll0 (thDs (amsTh am)) = true ∧ PyData.depthAll (thDs (amsTh am)) ≤ 2
  | [] => by simp [amsTh, thDs, PyData.canLayAll0, PyData.depthAll]
  | r :: am => by
    obtain ⟨a, b⟩ := lay_ams am
    constructor
    · simp only [amsTh, List.map_cons, thDs, thD, PyData.canLayAll0, PyData.canLay0, Bool.and_true] at *
      exact a
    · have e : (thD (ratT r.1 r.2)).depth ≤ 2 := by simp [ratT, thD, thDs, PyData.depth, PyData.depthAll]
      simp only [amsTh, List.map_cons, thDs, PyData.depthAll] at *
      omega
theorem lay_itm (i : Itm) : SeqAt.shaped (thD (thgI i)) = true ∧ (thD (thgI i)).canLay0 = true := by
  have hk : ∀ en, PyData.strOk (kdE en) = true := fun en => by cases en <;> decide +kernel
  cases i with
  | en e =>
    obtain ⟨a, b⟩ := lay_ams e.am
    have c : (thD (thgI (.en e))).canLay0 = true := by
      simp [thgI, itT, thD, thDs, PyData.canLay0, PyData.canLayAll0, hk, a]
    refine ⟨?_, c⟩
    have d : (thD (thgI (.en e))).depth ≤ 64 := by
      simp only [thgI, itT, thD, thDs, PyData.depth, PyData.depthAll] at *
      omega
    simp [SeqAt.shaped, c, d]
  | st s =>
    have c : (thD (thgI (.st s))).canLay0 = true := by
      simp [thgI, itT, thD, thDs, PyData.canLay0, PyData.canLayAll0, hk]
    refine ⟨?_, c⟩
    have d : (thD (thgI (.st s))).depth ≤ 64 := by
      simp only [thgI, itT, thD, thDs, PyData.depth, PyData.depthAll] at *
      omega
    simp [SeqAt.shaped, c, d]
theorem num_of {i : Itm} (h : OkI i) : NumOk i := by
  cases i with
  | en e => trivial
  | st s => exact h.2.2
theorem rd_eqItm {K : PySem.W.Frag} {b : Addr} {H : Hp} {Q : VK} {v w : V} {i : Itm} (h : ThAt K b H v (thgI i)) (k : ThAt K b H w (thgI i)) (q : Q (.bl true) H) : rEqD K v w H Q := by
  obtain ⟨s, c⟩ := lay_itm i
  refine ⟨_, _, h.dp, k.dp, s, s, ?_⟩
  rw [PySem.SeqAt.eqv_refl _ c]
  exact q
theorem rd_reprTh {K : PySem.W.Frag} {b : Addr} {H : Hp} {Q : VK} {v : V} {t : Th} (th : ThAt K b H v t) (z : szC t ≤ 100000) (d : dC t ≤ 8) (q : Q (.str (thD t).shown) H) : rReprH K [v] H Q :=
  rd_reprH th.dp th.sm (Nat.le_trans th.szle (Nat.le_trans z (by decide))) (Nat.le_trans (depth_le t) (Nat.le_trans d (by decide))) q
def plT : Option Nat → Th
  | none => .str "read"
  | some n => .int (n : Int)
theorem rd_reprPl {K : PySem.W.Frag} {H : Hp} {Q : VK} {o : Option Nat} (b : Addr) (h : ∀ n, o = some n → n ≤ 7) (q : Q (.str (thD (plT o)).shown) H) : rReprH K [placeV o] H Q := by
  cases o with
  | none => exact rd_reprTh (b := b) (t := .str "read") (.str _) (by rw [szC]; decide +kernel) (by rw [dC]; decide) q
  | some n =>
    have := h n rfl
    exact rd_reprTh (b := b) (t := .int (n : Int)) (.int _ (by unfold Bd; have : n < 2 ^ 900 := Nat.lt_of_le_of_lt this (by decide); omega)) (by rw [szC]; omega) (by rw [dC]; decide) q
theorem rd_eqPl {H : Hp} {Q : VK} {o : Option Nat} (q : Q (.bl o.isNone) H) : rEq (placeV o) (.str "read") H Q := by
  cases o with
  | none => exact ⟨rfl, by
      rw [show decide (placeV none = V.str "read") = true from decide_eq_true rfl]
      exact q⟩
  | some n => exact ⟨rfl, by
      rw [show decide (placeV (some n) = V.str "read") = false from decide_eq_false (by intro h; cases h)]
      exact q⟩
theorem join_ifS {tt : TT} {A B : TS} {E : Ends} {σ : L2.St} {H : Hp} (P : L2.St → Hp → Prop) (rest : ∀ σ' H', P σ' H' → E.nx σ' H') (go : ∀ E' : Ends, (∀ σ' H', P σ' H' → E'.nx σ' H') → tIfS tt A B E' σ H) : tIfS tt A B E σ H := go E rest
theorem Wds.mono {H : Hp} {a : Addr} {ws : List Str} {n L m M : Nat} (h : Wds H a ws n L) (i : n ≤ m) (j : L ≤ M) : Wds H a ws m M := ⟨h.at_, Nat.le_trans h.len i, fun w hw => Nat.le_trans (h.ln w hw) j, h.ok⟩
theorem txt_ok {i : Itm} : PyData.strOk (txtI i) = true := join_ok wds_ok
theorem Wds.same {H J : Hp} {a : Addr} {ws : List Str} {n L : Nat} (s : Same H J) (h : Wds H a ws n L) : Wds J a ws n L := ⟨s _ _ h.at_, h.len, h.ln, h.ok⟩
theorem Wds.kp {H J : Hp} {a b : Addr} {ws : List Str} {n L : Nat} (m : a ≠ b) (k : Kp b H J) (h : Wds H a ws n L) : Wds J a ws n L := ⟨k _ _ m h.at_, h.len, h.ln, h.ok⟩
theorem wdA_inj : ∀ xs ys : List (Int × Int), (∀ r ∈ xs, 0 < r.2 ∧ Int.gcd r.1 r.2 = 1 ∧ r.1.natAbs ≤ 1000000 ∧ r.2 ≤ 1000000) → (∀ r ∈ ys, 0 < r.2 ∧ Int.gcd r.1 r.2 = 1 ∧ r.1.natAbs ≤ 1000000 ∧ r.2 ≤ 1000000) → xs.map wdA = ys.map wdA → xs = ys
  | [], [], _, _, _ => rfl
  | [], _ :: _, _, _, h => by simp at h
  | _ :: _, [], _, _, h => by simp at h
  | x :: xs, y :: ys, hx, hy, h => by
    simp only [List.map_cons, List.cons.injEq] at h
    have a := amR_of (hx x (List.mem_cons_self ..))
    rw [h.1, amR_of (hy y (List.mem_cons_self ..))] at a
    rw [Option.some.inj a, wdA_inj xs ys (fun r z => hx r (List.mem_cons_of_mem _ z)) (fun r z => hy r (List.mem_cons_of_mem _ z)) h.2]
theorem nat_inj {a b : Nat} (ha : a ≤ 10 ^ 30) (hb : b ≤ 10 ^ 30) (h : txI (a : Int) = txI (b : Int)) : a = b := by
  have z := natR_nat (n := a) (Nat.lt_of_le_of_lt ha (by decide))
  rw [h, natR_nat (n := b) (Nat.lt_of_le_of_lt hb (by decide))] at z
  exact (Option.some.inj z).symm
theorem wds_inj {i j : Itm} (hi : OkI i) (hj : OkI j) (h : wdsI i = wdsI j) : i = j := by
  cases i with
  | en e =>
    cases j with
    | en f =>
      simp only [wdsI, List.cons.injEq, true_and] at h
      obtain ⟨h1, h2, h3⟩ := h
      obtain ⟨o1, _, _, d1, m1⟩ := hi
      obtain ⟨o2, _, _, d2, m2⟩ := hj
      have a1 := nat_inj (by omega) (by omega) h1
      have a2 := nat_inj (by omega) (by omega) h2
      have a3 := wdA_inj _ _ o1 o2 h3
      cases e
      cases f
      simp only at a1 a2 a3
      rw [a1, a2, a3]
    | st s =>
      simp only [wdsI, List.cons.injEq] at h
      exact absurd h.1 (by decide +kernel)
  | st s =>
    cases j with
    | en f =>
      simp only [wdsI, List.cons.injEq] at h
      exact absurd h.1 (by decide +kernel)
    | st u =>
      simp only [wdsI, List.cons.injEq, true_and, and_true] at h
      obtain ⟨h1, h2, h3⟩ := h
      obtain ⟨d1, m1, z1⟩ := hi
      obtain ⟨d2, m2, z2⟩ := hj
      have a1 := nat_inj (by omega) (by omega) h1
      have a2 := nat_inj (by omega) (by omega) h2
      have a3 := intR_of z1
      rw [h3, intR_of z2] at a3
      have a3 := Option.some.inj a3
      cases s
      cases u
      simp only at a1 a2 a3
      rw [a1, a2, a3]
theorem sz_zero : (thD (.int 0)).shown = ("0" : Str) := by decide +kernel

/-! ### the law: right -/
def sp__law_right (K : PySem.W.Frag) : Sp := fun vs H Q _ => ∃ (b : Addr), vs = [.ref b] ∧ Bag b H ∧ ∀ J, Kp b H J → Bag b J → Q (.bl true) J
theorem ar__law_right (K : PySem.W.Frag) : ∀ vs H Q E, sp__law_right K vs H Q E → vs.length = 1 := by
  intro vs H Q E h
  obtain ⟨b, rfl, _⟩ := h
  rfl
abbrev N__law_right : List Str := ["_law_bag_here", "_law_item", "_law_text", "_law_turn", "_law_words", "_law_odd", "_law_things", "_law_thing"]
theorem sc__law_right : FnScope N__law_right ["_law_bag_here"] (defScope S__law_right) := ⟨rfl, rfl, rfl, by decide +kernel, rfl, by decide +kernel, by decide +kernel⟩
theorem ok__law_right {P : Program} {w : World} {K : PySem.W.Frag} {mg : Str → Option Value} {base : Heap} {f : Addr} {fd : FuncData} (F : Fun K "_law_right" "_law_right" S__law_right f fd) {f_read_item : Addr} {fd_read_item : FuncData} (C_read_item : CalX P w K mg base "read_item" 6 f_read_item fd_read_item ["text"] (sp_read_item K)) {f__law_place_told : Addr} {fd__law_place_told : FuncData} (C__law_place_told : Cal P w K mg base "_law_place_told" 7 f__law_place_told fd__law_place_told ["_law_thing"] (sp__law_place_told K)) {f__law_due : Addr} {fd__law_due : FuncData} (C__law_due : Cal P w K mg base "_law_due" 4 f__law_due fd__law_due ["_law_text"] (sp__law_due K)) {f_item_text : Addr} {fd_item_text : FuncData} (C_item_text : Cal P w K mg base "item_text" 7 f_item_text fd_item_text ["item"] (sp_item_text K)) {f__law_take : Addr} {fd__law_take : FuncData} (C__law_take : Cal P w K mg base "_law_take" 1 f__law_take fd__law_take ["_law_bag_here", "_law_size"] (sp__law_take K)) {f__law_odd_words : Addr} {fd__law_odd_words : FuncData} (C__law_odd_words : Cal P w K mg base "_law_odd_words" 2 f__law_odd_words fd__law_odd_words ["_law_bag_here", "_law_words"] (sp__law_odd_words K)) {f__law_any_item : Addr} {fd__law_any_item : FuncData} (C__law_any_item : Cal P w K mg base "_law_any_item" 4 f__law_any_item fd__law_any_item ["_law_bag_here"] (sp__law_any_item K)) (m_all : mg "all" = none) (m_repr : mg "repr" = none) (m_range : mg "range" = none) :
    FnG P w K mg base CX0 8 f fd ["_law_bag_here"] (sp__law_right K) := by
  refine Fun_okG F sc__law_right (ar__law_right K) (fun cdv A outer s H vs Q E hg hr h => ?_)
  obtain ⟨b, rfl, hb, q⟩ := h
  refine ⟨_, (pss_cons (ps_set (i := 1) sc__law_right.nd rfl (Or.inl rfl) (pe_c C__law_any_item hg (hr.mono (by decide)) rfl (pa_cons (pv 0) pa_nil)))
    (pss_cons (ps_set (i := 2) sc__law_right.nd rfl (Or.inl rfl) (pe_c C_item_text hg (hr.mono (by decide)) rfl (pa_cons (pv 1) pa_nil)))
    (pss_cons (ps_for PassesOwn.never rfl (pi_range1 rfl m_range (pa_cons pe_int pa_nil)) (pg_name (i := 3) sc__law_right.nd rfl (Or.inl rfl)) (pss_cons (ps_set (i := 4) sc__law_right.nd rfl (Or.inl rfl) (pe_c C__law_odd_words hg (hr.mono (by decide)) rfl (pa_cons (pv 0) (pa_cons (pe_split (pv 2) pe_str) pa_nil))))
    (pss_cons (ps_if (PW.pt (pw_and (pt_cmpR (neK (K := K) rfl (room_u hr)) (pv 4) (pe_lst pa_nil) (nomark _)) (pw_and1 (pt_cmpR op_eq (pe_c C__law_take hg (hr.mono (by decide)) rfl (pa_cons (pv 0) (pa_cons pe_int pa_nil))) pe_int (nomark _))))) (pss_one (ps_set (i := 4) sc__law_right.nd rfl (Or.inl rfl) (pe_c C__law_odd_words hg (hr.mono (by decide)) rfl (pa_cons (pv 0) (pa_cons (pv 4) pa_nil))))) pss_nil)
    (pss_cons (ps_set (i := 5) sc__law_right.nd rfl (Or.inl rfl) (pe_join pe_str (pv 4)))
    (pss_cons (ps_if (pt_cmpR op_ne (pe_callB (id := "repr") (reprH (K := K) rfl hg (room_u hr)) (by rfl) m_repr (by decide +kernel) (pa_cons (pe_c C__law_place_told hg (hr.mono (by decide)) rfl (pa_cons (pv 5) pa_nil)) pa_nil)) (pe_callB (id := "repr") (reprH (K := K) rfl hg (room_u hr)) (by rfl) m_repr (by decide +kernel) (pa_cons (pe_c C__law_due hg (hr.mono (by decide)) rfl (pa_cons (pv 5) pa_nil)) pa_nil)) (nomark _)) (pss_one (ps_ret pe_bl)) pss_nil)
    (pss_one (ps_if (PW.pt (pw_and (pt_cmpR op_eq (pe_c C__law_due hg (hr.mono (by decide)) rfl (pa_cons (pv 5) pa_nil)) pe_str (nomark _)) (pw_and1 (pt_cmpR op_ne (pe_c C_item_text hg (hr.mono (by decide)) rfl (pa_cons (pe_cx takes_no C_read_item hg (hr.mono (by decide)) rfl (pa_cons (pv 5) pa_nil)) pa_nil)) (pv 5) (nomark _))))) (pss_one (ps_ret pe_bl)) pss_nil)))))))
    (pss_cons (ps_for PassesOwn.never rfl (piT (K := K) rfl (pe_tup (pa_strT (pat_cons (pet_pe pe_str) (pat_cons (pet_pe (pe_op op_add_str pe_str (pv 2))) (pat_cons (pet_pe (pe_op op_add_str (pv 2) pe_str)) (pat_cons (pet_repl1 (pv 2)) (pat_cons (pet_pe (pe_upper (pv 2))) pat_nil)))))))) (pg_name (i := 5) sc__law_right.nd rfl (Or.inl rfl)) (pss_one (ps_if (pt_cmpR op_ne (pe_callB (id := "repr") (reprH (K := K) rfl hg (room_u hr)) (by rfl) m_repr (by decide +kernel) (pa_cons (pe_c C__law_place_told hg (hr.mono (by decide)) rfl (pa_cons (pv 5) pa_nil)) pa_nil)) (pe_callB (id := "repr") (reprH (K := K) rfl hg (room_u hr)) (by rfl) m_repr (by decide +kernel) (pa_cons (pe_c C__law_due hg (hr.mono (by decide)) rfl (pa_cons (pv 5) pa_nil)) pa_nil)) (nomark _)) (pss_one (ps_ret pe_bl)) pss_nil)))
    (pss_cons (ps_set (i := 6) sc__law_right.nd rfl (Or.inl rfl) (pe_lst (pa_cons pe_non (pa_cons pe_int (pa_cons pe_bl (pa_cons (pv 1) (pa_cons (pe_lst (pa_cons (pv 2) pa_nil)) (pa_cons (pe_tup pa_nil) pa_nil))))))))
    (pss_one (ps_ret (pe_and (pe_callB (id := "all") (allK (K := K) rfl rfl) (by rfl) m_all (by decide +kernel) (pa_cons (pe_lc (own := [("_law_thing", 7)]) rfl sc__law_right.nd (piL (K := K) rfl (pv 6)) (blkOk_by (own := [("_law_thing", 7)]) (N := N__law_right) (sc := defScope S__law_right) (by decide +kernel)) (fun _ _ _ _ _ => (pg_name (i := 7) sc__law_right.nd rfl (Or.inl rfl))) (fun _ _ _ _ _ => pts_nil) (fun _ _ _ _ _ => (pe_cmpR op_eq (pe_callB (id := "repr") (reprH (K := K) rfl hg (room_u hr)) (by rfl) m_repr (by decide +kernel) (pa_cons (pe_c C__law_place_told hg (hr.mono (by decide)) rfl (pa_cons (pv 7) pa_nil)) pa_nil)) pe_str (nomark _)))) pa_nil)) (pe_one (pe_cmpR (eqK (K := K) rfl (room_u hr)) (pe_cx takes_no C_read_item hg (hr.mono (by decide)) rfl (pa_cons (pv 2) pa_nil)) (pv 1) (nomark _))))))))))), ?_⟩
  walk_at "rd_6"
  refine ⟨b, rfl, hb, fun p i J1 hi hn np k1 g1 => ?_⟩
  have ok := okI_of hi hn
  walk_at "rd_6"
  refine ⟨.ref p, i, rfl, hi, hn, fun J2 s2 => ?_⟩
  have hi2 := hi.mono fun p xs h => s2 _ _ h
  have K2 := k1.trans (Kp.of s2)
  have g2 := g1.same s2
  clear k1 s2 g1 hi
  have tl := txt_len ok
  have tk : PyData.strOk (txtI i) = true := txt_ok
  have es : Txt.split (txtI i) " " = wdsI i := split_words (wds_ne i) wds_free
  walk_at "rd_6"
  refine lp_rng (fun _ σ' M => Kp b J2 M ∧ Bag b M ∧ ∃ o3 o4 o5 o6 o7, σ' = [some (.ref b), some (.ref p), some (.str (txtI i)), o3, o4, o5, o6, o7]) ⟨Kp.refl, g2, none, none, none, none, none, rfl⟩ (fun n σ M hn3 z => ?_) (fun σ M z => ?_)
  · obtain ⟨kM, gM, o3, o4, o5, o6, o7, rfl⟩ := z
    walk_at "rd_6"
    refine rd_m1 ?_
    walk_at "rd_6"
    refine ⟨⟨_, rfl⟩, ?_⟩
    walk_at "rd_6"
    have sl := sizeLine_eq
    refine ⟨_, _, rfl, rfl, by decide +kernel, by omega, ?_⟩
    intro a1 n1
    rw [es]
    have s1 := same_new (H := M) (p := a1) (o := .lst ((wdsI i).map V.str)) n1
    have e1 : upd M a1 (.lst ((wdsI i).map V.str)) a1 = some (.lst ((wdsI i).map V.str)) := upd_same
    have m1 := gM.ne n1
    generalize upd M a1 (.lst ((wdsI i).map V.str)) = M1 at s1 e1 ⊢
    walk_at "rd_6"
    obtain ⟨wl1, wl2⟩ := wds_len ok
    refine ⟨b, a1, wdsI i, 7, 203, rfl, gM.same s1, m1, ⟨e1, wl2, wl1, wds_ok⟩, wds_ne i, by decide, by decide, by decide, fun a2 w2 M2 m2 W2 k2 g3 => ?_⟩
    have KM2 := (kM.trans (Kp.of s1)).trans k2
    clear k2 s1 e1 gM kM
    dsimp only [gName, tSeq, tAsg]
    refine join_ifS (fun σ' M => ∃ a ws, σ' = [some (.ref b), some (.ref p), some (.str (txtI i)), some (.int (0 + (n : Int))), some (.ref a), o5, o6, o7] ∧ Wds M a ws 9 205 ∧ Kp b J2 M ∧ Bag b M) (fun σ M w => ?rest) (fun E' nx => ?go)
    case go =>
      walk_at "rd_6"
      rename_i p4 M4 n4 s4 e4
      have W4 := Wds.same s4 W2
      have K4 := KM2.trans (Kp.of s4)
      have g4 := g3.same s4
      refine rd_neNilT (SqL.of W4.at_) W4.ok e4 ?_
      by_cases c : w2 = []
      · rw [decide_eq_true c]
        refine ⟨false, rfl, ?_⟩
        refine iteF ?_
        refine iteF ?_
        walk_at "rd_6"
        exact nx _ _ ⟨_, _, rfl, W4.mono (by decide) (by decide), K4, g4⟩
      · rw [decide_eq_false c]
        refine ⟨true, rfl, ?_⟩
        refine iteT ?_
        walk_at "rd_6"
        refine ⟨b, 3, rfl, g4, by decide, by decide, fun r M5 ra rb k5 g5 => ?_⟩
        have W5 := Wds.kp m2 k5 W4
        walk_at "rd_6"
        by_cases z : r = 0
        · rw [decide_eq_true z]
          refine iteT ?_
          walk_at "rd_6"
          refine ⟨b, a2, w2, 8, 204, rfl, g5, m2, W5, c, by decide, by decide, by decide, fun a3 w3 M6 m3 W6 k6 g6 => ?_⟩
          walk_at "rd_6"
          exact nx _ _ ⟨_, _, rfl, W6, (K4.trans k5).trans k6, g6⟩
        · rw [decide_eq_false z]
          refine iteF ?_
          walk_at "rd_6"
          exact nx _ _ ⟨_, _, rfl, W5.mono (by decide) (by decide), K4.trans k5, g5⟩
    case rest =>
      obtain ⟨a, ws, rfl, W, K5, g5⟩ := w
      walk_at "rd_6"
      refine rd_m1 ?_
      walk_at "rd_6"
      refine ⟨⟨_, rfl⟩, ?_⟩
      walk_at "rd_6"
      have jl := sum_lens W.ln
      have e5 : (" " : Str).length = 1 := by decide
      have m9 : ws.length * 205 ≤ 9 * 205 := Nat.mul_le_mul_right _ W.len
      have l9 := W.len
      have jn := join_len " " ws
      rw [e5] at jn
      refine ⟨_, _, ws, rfl, rfl, .inl (SqL.of W.at_), by rw [e5]; omega, ?_⟩
      have ol : (Txt.join " " ws).length ≤ 2000 := by omega
      have ook : PyData.strOk (Txt.join " " ws) = true := join_ok W.ok
      clear W jn jl m9 l9
      dsimp only [gName]
      generalize Txt.join " " ws = od at ol ook ⊢
      walk_at "rd_6"
      refine .inl ⟨od, rfl, by omega, ook, fun M6 s6 => ?_⟩
      walk_at "rd_6"
      refine rd_reprPl b (fun n e => wrI_le e) ?_
      walk_at "rd_6"
      refine ⟨od, rfl, by omega, ook, fun M7 s7 => ?_⟩
      walk_at "rd_6"
      refine rd_reprPl b (fun n e => wrI_le e) ?_
      walk_at "rd_6"
      refine iteF ?_
      walk_at "rd_6"
      refine ⟨od, rfl, by omega, ook, fun M8 s8 => ?_⟩
      walk_at "rd_6"
      have s58 := Same.trans s6 (Same.trans s7 s8)
      refine rd_eqPl ?_
      cases ew : wrI (Txt.split od " ") 0 with
      | some k =>
        refine ⟨false, rfl, ?_⟩
        refine iteF ?_
        refine iteF ?_
        walk_at "rd_6"
        exact ⟨K5.trans (Kp.of s58), g5.same s58, _, _, _, _, _, rfl⟩
      | none =>
        refine ⟨true, rfl, ?_⟩
        refine iteT ?_
        walk_at "rd_6"
        refine rd_callX ?_
        walk_at "rd_6"
        refine .inl ⟨od, rfl, by omega, ook, fun i2 ei ok2 v M9 s9 h9 => ?_, fun k e => ?_⟩
        · walk_at "rd_6"
          refine ⟨v, i2, rfl, h9, num_of ok2, fun MA sA => ?_⟩
          have s5A := Same.trans s58 (Same.trans s9 sA)
          walk_at "rd_6"
          refine rd_neStr ?_
          rw [decide_eq_true (show txtI i2 = od by unfold txtI; rw [← ei]; exact join_split' od)]
          refine ⟨false, rfl, ?_⟩
          refine iteF ?_
          walk_at "rd_6"
          exact ⟨K5.trans (Kp.of s5A), g5.same s5A, _, _, _, _, _, rfl⟩
        · rw [ew] at e
          cases e
  · obtain ⟨kM, gM, o3, o4, o5, o6, o7, rfl⟩ := z
    walk_at "rd_6"
    refine rd_forT ?_
    walk_at "rd_6"
    have sl := sizeLine_eq
    have e5 : (" " : Str).length = 1 := by decide
    refine ⟨_, _, rfl, rfl, by omega, ?_⟩
    walk_at "rd_6"
    refine ⟨_, _, rfl, rfl, by omega, ?_⟩
    walk_at "rd_6"
    refine rd_repl1 ?_
    walk_at "rd_6"
    refine ⟨_, rfl, by omega, tk, fun rp rpl rpk => ?_⟩
    walk_at "rd_6"
    refine rd_m0 ?_
    walk_at "rd_6"
    refine ⟨⟨_, rfl⟩, ?_⟩
    walk_at "rd_6"
    refine ⟨_, rfl, rfl, by omega, ?_⟩
    obtain ⟨ul, uk⟩ := up_len (txt_asc (i := i))
    generalize Txt.upper (txtI i) = up at ul uk ⊢
    walk_at "rd_6"
    rename_i p6 M6 n6 s6 e6
    have k6 := kM.trans (Kp.of s6)
    have g6 := gM.same s6
    clear s6 kM gM n6
    have ea := Str.length_append (" " : Str) (txtI i)
    have eb := Str.length_append (txtI i) (" " : Str)
    have xs6 : ∀ x ∈ [V.str "", V.str " ", V.str (" " ++ txtI i), V.str (txtI i ++ " "), V.str rp, V.str up], ∃ z : Str, x = .str z ∧ z.length ≤ 50000 ∧ PyData.strOk z = true := fun x hx => by
      simp only [List.mem_cons, List.not_mem_nil, or_false] at hx
      rcases hx with rfl | rfl | rfl | rfl | rfl | rfl
      · exact ⟨_, rfl, by decide, by decide +kernel⟩
      · exact ⟨_, rfl, by decide, by decide +kernel⟩
      · exact ⟨_, rfl, by omega, strOk_app (by decide +kernel) tk⟩
      · exact ⟨_, rfl, by omega, strOk_app tk (by decide +kernel)⟩
      · exact ⟨_, rfl, by omega, rpk⟩
      · exact ⟨_, rfl, by omega, uk⟩
    generalize [V.str "", V.str " ", V.str (" " ++ txtI i), V.str (txtI i ++ " "), V.str rp, V.str up] = xs at e6 xs6
    refine lp_tup (xs := xs) (fun _ σ' J => Same M6 J ∧ ∃ o5, σ' = [some (.ref b), some (.ref p), some (.str (txtI i)), o3, o4, o5, o6, o7]) ⟨fun _ _ e => e, o5, rfl⟩ (fun j σ J _ z => ?_) (fun j v σ J hv z => ?_) (fun σ J z => ?_)
    · exact SqT.of (z.1 _ _ e6)
    · obtain ⟨sJ, o5, rfl⟩ := z
      obtain ⟨od, rfl, ol, ook⟩ := xs6 v (List.mem_of_getElem? hv)
      walk_at "rd_6"
      refine .inl ⟨od, rfl, by omega, ook, fun M7 s7 => ?_⟩
      walk_at "rd_6"
      refine rd_reprPl b (fun n e => wrI_le e) ?_
      walk_at "rd_6"
      refine ⟨od, rfl, by omega, ook, fun M8 s8 => ?_⟩
      walk_at "rd_6"
      refine rd_reprPl b (fun n e => wrI_le e) ?_
      walk_at "rd_6"
      refine iteF ?_
      walk_at "rd_6"
      exact ⟨Same.trans sJ (Same.trans s7 s8), _, rfl⟩
    · obtain ⟨sJ, o5, rfl⟩ := z
      have k7 := k6.trans (Kp.of sJ)
      have g7 := g6.same sJ
      clear sJ k6 g6 e6 xs6
      walk_at "rd_6"
      have hi7 := hi2.mono fun p xs h => k7.tup g2 h
      rename_i J7 l8 M8 n8 s8 e8 l9 M9 n9 s9 e9 lT MT nT sT eT
      have s7T := Same.trans s8 (Same.trans s9 sT)
      have hiT := hi7.mono fun p xs h => s7T _ _ h
      have kT := k7.trans (Kp.of s7T)
      have gT := g7.same s7T
      have m8 : l8 ≠ b := g7.ne n8
      have all : ∀ v ∈ [V.non, .int 0, .bl true, .ref p, .ref l8, .ref l9], ∃ t, ThAt K b MT v t ∧ ∀ s, t ≠ .str s := fun v hv => by
        simp only [List.mem_cons, List.not_mem_nil, or_false] at hv
        rcases hv with rfl | rfl | rfl | rfl | rfl | rfl
        · exact ⟨.non, .non, fun s z => by cases z⟩
        · exact ⟨.int 0, .int _ (by unfold Bd; decide), fun s z => by cases z⟩
        · exact ⟨.bl true, .bl _, fun s z => by cases z⟩
        · exact ⟨thgI i, thI_itm hiT hn, fun s z => by cases i <;> cases z⟩
        · exact ⟨.lst [.str (txtI i)], .lst m8 ((Same.trans s9 sT) _ _ e8) (.cons (.str _) .nil), fun s z => by cases z⟩
        · exact ⟨.tup [], .tup (SqT.of (sT _ _ e9)) .nil, fun s z => by cases z⟩
      clear e8 e9 s8 s9 sT n8 n9 nT s7T k7 g7 hi7
      have lx : [V.non, .int 0, .bl true, .ref p, .ref l8, .ref l9].length ≤ 500 := by simp only [List.length_cons, List.length_nil]; omega
      generalize [V.non, .int 0, .bl true, .ref p, .ref l8, .ref l9] = xs at eT all lx
      intro D nD
      refine lc_growL (xs := xs) (fun ys _ => ys = (List.replicate ys.length true).map V.bl) eT lx nD (fun J k => by simp) (fun j v ys J hx i5 hy k hD hP => ?_) fun ys J hy k hD hP => ?_
      · have sJ : Same MT J := fun a o h => k a o (ne_of_none h nD) h
        obtain ⟨t, ht, nt⟩ := all v (List.mem_of_getElem? hx)
        walk_at "rd_6"
        refine ⟨rfl, ?_⟩
        walk_at "rd_6"
        refine .inr ⟨v, t, b, rfl, ht.same sJ, nt, fun J3 s3 => ?_⟩
        walk_at "rd_6"
        refine rd_reprTh (b := b) (t := .int 0) (.int _ (by unfold Bd; decide)) (by rw [szC]; decide) (by rw [dC]; decide) ?_
        walk_at "rd_6"
        refine rd_eqStr ?_
        rw [sz_zero]
        exact lcEnd_mk (s3 _ _ hD) hy i5 (k.trans (Kp.of s3)) fun J4 _ _ => by
          rw [List.length_append, List.length_singleton, List.replicate_succ', List.map_append, ← hP]
          rfl
      · have sJ : Same MT J := fun a o h => k a o (ne_of_none h nD) h
        walk_at "rd_6"
        refine rd_all (bs := List.replicate ys.length true) (SqL.of (by rw [hD, ← hP])) ?_
        refine ⟨true, by simp, ?_⟩
        refine iteT ?_
        walk_at "rd_6"
        refine rd_callX ?_
        walk_at "rd_6"
        refine .inl ⟨txtI i, rfl, by omega, tk, fun i2 ei ok2 v M s h => ?_, fun n e => ?_⟩
        · rw [es] at ei
          obtain rfl := wds_inj ok ok2 ei
          walk_at "rd_6"
          have sM := Same.trans sJ s
          refine rd_eqItm (b := b) (thI_itm h hn) (thI_itm (hiT.mono fun p xs h => sM _ _ h) hn) ?_
          walk_at "rd_6"
          exact q _ ((K2.trans kT).trans (Kp.of sM)) (gT.same sM)
        · rw [es, wrI_none ok] at e
          cases e

def sp_law (K : PySem.W.Frag) : Sp := fun vs H Q _ => ∃ (a : Addr) (ns : List Int), vs = [.ref a] ∧ Scr K H a (ns.map V.int) ∧ ns.length ≤ 63 ∧ ∀ H', Q (.bl true) H'
theorem ar_law (K : PySem.W.Frag) : ∀ vs H Q E, sp_law K vs H Q E → vs.length = 1 := by
  intro vs H Q E h
  obtain ⟨a, ns, rfl, _⟩ := h
  rfl
abbrev N_law : List Str := ["_law_script", "_law_k", "_law_bag_here", "_law_turn"]
theorem sc_law : FnScope N_law ["_law_script"] (defScope S_law) := ⟨rfl, rfl, rfl, by decide +kernel, rfl, by decide +kernel, by decide +kernel⟩
theorem ok_law {P : Program} {w : World} {K : PySem.W.Frag} {mg : Str → Option Value} {base : Heap} {f : Addr} {fd : FuncData} (F : Fun K "law" "law" S_law f fd) {f__law_right : Addr} {fd__law_right : FuncData} (C__law_right : Cal P w K mg base "_law_right" 8 f__law_right fd__law_right ["_law_bag_here"] (sp__law_right K)) {f__law_bag : Addr} {fd__law_bag : FuncData} (C__law_bag : Cal P w K mg base "_law_bag" 1 f__law_bag fd__law_bag ["_law_script", "_law_at"] (sp__law_bag K)) (m_range : mg "range" = none) (m_max : mg "max" = none) (m_min : mg "min" = none) (m_len : mg "len" = none) :
    FnG P w K mg base CX0 9 f fd ["_law_script"] (sp_law K) := by
  refine Fun_okG F sc_law (ar_law K) (fun cdv A outer s H vs Q E hg hr h => ?_)
  obtain ⟨a, ns, rfl, hS, hl, q⟩ := h
  refine ⟨_, (pss_cons (ps_for PassesOwn.never rfl (pi_range1 rfl m_range (pa_cons (pe_callB (id := "max") (call_max2 rfl) (by rfl) m_max (by decide +kernel) (pa_cons pe_int (pa_cons (pe_callB (id := "min") (call_min2 rfl) (by rfl) m_min (by decide +kernel) (pa_cons pe_int (pa_cons (pe_callB (id := "len") (lenK (K := K) rfl) (by rfl) m_len (by decide +kernel) (pa_cons (pv 0) pa_nil)) pa_nil))) pa_nil))) pa_nil)) (pg_name (i := 1) sc_law.nd rfl (Or.inl rfl)) (pss_cons (ps_set (i := 2) sc_law.nd rfl (Or.inl rfl) (pe_c C__law_bag hg (hr.mono (by decide)) rfl (pa_cons (pv 0) (pa_cons (pv 1) pa_nil))))
    (pss_one (ps_for PassesOwn.never rfl (pi_range1 rfl m_range (pa_cons pe_int pa_nil)) (pg_name (i := 3) sc_law.nd rfl (Or.inl rfl)) (pss_one (ps_if (pt_not (pt_val (pe_c C__law_right hg (hr.mono (by decide)) rfl (pa_cons (pv 2) pa_nil)))) (pss_one (ps_ret pe_bl)) pss_nil))))))
    (pss_one (ps_ret pe_bl))), ?_⟩
  walk_at "rd_6"
  refine lp_rng (fun _ σ' H' => Scr K H' a (ns.map V.int) ∧ ∃ o1 o2 o3, σ' = [some (.ref a), o1, o2, o3]) ⟨hS, none, none, none, rfl⟩ (fun i σ1 H1 hi w => ?_) (fun σ1 H1 w => ?_)
  · obtain ⟨hS1, o1, o2, o3, rfl⟩ := w
    have hi2 : i < 4 ∨ i < 2 := by
      rw [List.length_map] at hi
      split at hi <;> split at hi <;> omega
    walk_at "rd_6"
    refine ⟨a, ns, _, rfl, hS1, hl, by omega, by omega, fun b J0 nb s0 g0 => ?_⟩
    have hS0 : Scr K J0 a (ns.map V.int) := hS1.same s0
    walk_at "rd_6"
    refine lp_rng (fun _ σ' H' => Scr K H' a (ns.map V.int) ∧ Bag b H' ∧ ∃ o3, σ' = [some (.ref a), some (.int (0 + (i : Int))), some (.ref b), o3]) ⟨hS0, g0, o3, rfl⟩ (fun j σ2 H2 hj w => ?_) (fun σ2 H2 w => ?_)
    · obtain ⟨hS2, g2, o3, rfl⟩ := w
      walk_at "rd_6"
      refine ⟨b, rfl, g2, fun J2 k2 g3 => ?_⟩
      walk_at "rd_6"
      refine iteF ?_
      walk_at "rd_6"
      exact ⟨hS2.kp k2 g2, g3, _, rfl⟩
    · obtain ⟨hS2, g2, o3, rfl⟩ := w
      exact ⟨hS2, _, _, _, rfl⟩
  · obtain ⟨hS1, o1, o2, o3, rfl⟩ := w
    walk_at "rd_6"
    exact q _

theorem all_mk {l : PySem.W.OpenLaw} {w : World} {K : PySem.W.Frag} {h : Heap} {mg : Str → Option Value} {fa : Addr} (X : K.In h) (G : h.Ns mainGlobals mg) (hfa : mg "law" = some (.ref fa))
    {X_BadText : Addr} (aX_BadText : PySem.W.nsIn K mainGlobals "BadText" = some (some (.ref X_BadText))) {nm_BadText q_BadText : Str} {N_BadText : Addr} {bs_BadText bm_BadText : List Value} {sn_BadText sub_BadText ab_BadText col_BadText dd_BadText : _} {k0_BadText k1_BadText k2_BadText k3_BadText k5_BadText : _}
    (lk_BadText : K.lookup X_BadText = some (excClassObj nm_BadText q_BadText X_BadText N_BadText bs_BadText bm_BadText true sn_BadText sub_BadText ab_BadText col_BadText dd_BadText k0_BadText k1_BadText k2_BadText k3_BadText k5_BadText "ValueError.__new__")) (rv_BadText : PySem.HandSPX.refsVE bm_BadText = true)
    (sa_BadText : PySem.W.findIn K (.ref X_BadText) "__setattr__" = some (some (.builtin "object.__setattr__"))) (ex_BadText : PySem.W.subIn K (.ref X_BadText) (.type "BaseException") = some true) (ty_BadText : PySem.W.typeIn K (.ref X_BadText) = some (.type "type")) (kx_BadText : PySem.W.keepIn K (.ref X_BadText) = true) (no_BadText : PySem.W.findIn K (.ref X_BadText) "place" = some none)
    {D_CutError : Addr} (aD_CutError : PySem.W.nsIn K mainGlobals "CutError" = some (some (.ref D_CutError))) (gD_CutError : PySem.W.specialIn K (.ref D_CutError) "__getattribute__" = some (some (.builtin "type.__getattribute__"))) (tD_CutError : PySem.W.typeIn K (.ref D_CutError) = some (.type "type")) (rD_CutError : PySem.W.readsIn K D_CutError (.type "type") = true) (iD_CutError : PySem.W.findCls K (.ref D_CutError) (.type "type") "__init__" = some (.val (.builtin "ValueError.__init__")))
    {cE : Addr} (n_cE : PySem.W.nsIn K mainGlobals "CutError" = some (some (.ref cE))) {bC : Addr} (n_bC : PySem.W.nsIn K mainGlobals "BadCut" = some (some (.ref bC))) {bD : Addr} (n_bD : PySem.W.nsIn K mainGlobals "BadDay" = some (some (.ref bD))) {bI : Addr} (n_bI : PySem.W.nsIn K mainGlobals "BadItem" = some (some (.ref bI))) {bR : Addr} (n_bR : PySem.W.nsIn K mainGlobals "BadRow" = some (some (.ref bR))) {bS : Addr} (n_bS : PySem.W.nsIn K mainGlobals "BadStretch" = some (some (.ref bS))) {oK : Addr} (n_oK : PySem.W.nsIn K mainGlobals "OtherKind" = some (some (.ref oK)))
    (x0 : PySem.W.isClsIn K X_BadText = true) (x4 : PySem.W.findIn K (.ref X_BadText) "__getattribute__" = some (some (.builtin "BaseException.__getattribute__"))) (x5 : PySem.W.findIn K (.ref X_BadText) "__getattr__" = some none) (x7 : PySem.W.findIn K (.ref X_BadText) "__class__" = some (some (.builtin "object.__class__"))) (x8 : PySem.W.specialIn K (.builtin "object.__class__") "__get__" = some (some (.builtin "getset_descriptor.__get__"))) (x9 : PySem.W.takesIn K (.builtin "object.__class__") = some true) (x10 : PySem.W.mroIn K X_BadText (.type "object") = some true) (xhd : PySem.W.hasDictIn K X_BadText = true)
    (catE : PySem.W.exmOne K (.ref X_BadText) (.ref cE) = some true) (xoff : PySem.W.kitAny K (.ref X_BadText) [.ref bC, .ref bD, .ref bI, .ref bR, .ref bS, .ref oK] = some false) (xonI : PySem.W.kitOne K (.ref X_BadText) (.ref X_BadText) = some true)
    {f0 : Addr} {od0 an0 : Option Addr} {sl0 : Array (Option Value)} {oc0 kV0 dc0 pm0 cd0 ct0 : Value}
    (a0 : PySem.W.nsIn K mainGlobals "_law_bag" = some (some (.ref f0)))
    (l0 : K.lookup f0 = some ⟨oc0, od0, .func (PySem.W.fnOf "_law_bag" "_law_bag" (defArgs S__law_bag) (defBody S__law_bag) (defScope S__law_bag) .none kV0 dc0 pm0 an0 cd0 ct0), sl0⟩) (c0 : PySem.W.codeIn K cd0 "_law_bag" = true) (k0 : PySem.W.keepIn K (.ref f0) = true)
    {f1 : Addr} {od1 an1 : Option Addr} {sl1 : Array (Option Value)} {oc1 kV1 dc1 pm1 cd1 ct1 : Value}
    (a1 : PySem.W.nsIn K mainGlobals "_law_take" = some (some (.ref f1)))
    (l1 : K.lookup f1 = some ⟨oc1, od1, .func (PySem.W.fnOf "_law_take" "_law_take" (defArgs S__law_take) (defBody S__law_take) (defScope S__law_take) .none kV1 dc1 pm1 an1 cd1 ct1), sl1⟩) (c1 : PySem.W.codeIn K cd1 "_law_take" = true) (k1 : PySem.W.keepIn K (.ref f1) = true)
    {f2 : Addr} {od2 an2 : Option Addr} {sl2 : Array (Option Value)} {oc2 kV2 dc2 pm2 cd2 ct2 : Value}
    (a2 : PySem.W.nsIn K mainGlobals "_law_part" = some (some (.ref f2)))
    (l2 : K.lookup f2 = some ⟨oc2, od2, .func (PySem.W.fnOf "_law_part" "_law_part" (defArgs S__law_part) (defBody S__law_part) (defScope S__law_part) .none kV2 dc2 pm2 an2 cd2 ct2), sl2⟩) (c2 : PySem.W.codeIn K cd2 "_law_part" = true) (k2 : PySem.W.keepIn K (.ref f2) = true)
    {f3 : Addr} {od3 an3 : Option Addr} {sl3 : Array (Option Value)} {oc3 kV3 dc3 pm3 cd3 ct3 : Value}
    (a3 : PySem.W.nsIn K mainGlobals "_law_lowest" = some (some (.ref f3)))
    (l3 : K.lookup f3 = some ⟨oc3, od3, .func (PySem.W.fnOf "_law_lowest" "_law_lowest" (defArgs S__law_lowest) (defBody S__law_lowest) (defScope S__law_lowest) .none kV3 dc3 pm3 an3 cd3 ct3), sl3⟩) (c3 : PySem.W.codeIn K cd3 "_law_lowest" = true) (k3 : PySem.W.keepIn K (.ref f3) = true)
    {f4 : Addr} {od4 an4 : Option Addr} {sl4 : Array (Option Value)} {oc4 kV4 dc4 pm4 cd4 ct4 : Value}
    (a4 : PySem.W.findIn K (.ref X_BadText) "__init__" = some (some (.ref f4))) (i4 : PySem.W.typeIn K (.ref f4) = some (.type "function"))
    (l4 : K.lookup f4 = some ⟨oc4, od4, .func (PySem.W.fnOf "__init__" "BadText.__init__" (defArgs S_BadText___init__) (defBody S_BadText___init__) (defScope S_BadText___init__) .none kV4 dc4 pm4 an4 cd4 ct4), sl4⟩) (c4 : PySem.W.codeIn K cd4 "BadText.__init__" = true) (k4 : PySem.W.keepIn K (.ref f4) = true)
    {f5 : Addr} {od5 an5 : Option Addr} {sl5 : Array (Option Value)} {oc5 kV5 dc5 pm5 cd5 ct5 : Value}
    (a5 : PySem.W.nsIn K mainGlobals "is_int" = some (some (.ref f5)))
    (l5 : K.lookup f5 = some ⟨oc5, od5, .func (PySem.W.fnOf "is_int" "is_int" (defArgs S_is_int) (defBody S_is_int) (defScope S_is_int) .none kV5 dc5 pm5 an5 cd5 ct5), sl5⟩) (c5 : PySem.W.codeIn K cd5 "is_int" = true) (k5 : PySem.W.keepIn K (.ref f5) = true)
    {f6 : Addr} {od6 an6 : Option Addr} {sl6 : Array (Option Value)} {oc6 kV6 dc6 pm6 cd6 ct6 : Value}
    (a6 : PySem.W.nsIn K mainGlobals "is_ratio" = some (some (.ref f6)))
    (l6 : K.lookup f6 = some ⟨oc6, od6, .func (PySem.W.fnOf "is_ratio" "is_ratio" (defArgs S_is_ratio) (defBody S_is_ratio) (defScope S_is_ratio) .none kV6 dc6 pm6 an6 cd6 ct6), sl6⟩) (c6 : PySem.W.codeIn K cd6 "is_ratio" = true) (k6 : PySem.W.keepIn K (.ref f6) = true)
    {f7 : Addr} {od7 an7 : Option Addr} {sl7 : Array (Option Value)} {oc7 kV7 dc7 pm7 cd7 ct7 : Value}
    (a7 : PySem.W.nsIn K mainGlobals "is_day" = some (some (.ref f7)))
    (l7 : K.lookup f7 = some ⟨oc7, od7, .func (PySem.W.fnOf "is_day" "is_day" (defArgs S_is_day) (defBody S_is_day) (defScope S_is_day) .none kV7 dc7 pm7 an7 cd7 ct7), sl7⟩) (c7 : PySem.W.codeIn K cd7 "is_day" = true) (k7 : PySem.W.keepIn K (.ref f7) = true)
    {f8 : Addr} {od8 an8 : Option Addr} {sl8 : Array (Option Value)} {oc8 kV8 dc8 pm8 cd8 ct8 : Value}
    (a8 : PySem.W.nsIn K mainGlobals "_is_many" = some (some (.ref f8)))
    (l8 : K.lookup f8 = some ⟨oc8, od8, .func (PySem.W.fnOf "_is_many" "_is_many" (defArgs S__is_many) (defBody S__is_many) (defScope S__is_many) .none kV8 dc8 pm8 an8 cd8 ct8), sl8⟩) (c8 : PySem.W.codeIn K cd8 "_is_many" = true) (k8 : PySem.W.keepIn K (.ref f8) = true)
    {f9 : Addr} {od9 an9 : Option Addr} {sl9 : Array (Option Value)} {oc9 kV9 dc9 pm9 cd9 ct9 : Value}
    (a9 : PySem.W.nsIn K mainGlobals "is_amount" = some (some (.ref f9)))
    (l9 : K.lookup f9 = some ⟨oc9, od9, .func (PySem.W.fnOf "is_amount" "is_amount" (defArgs S_is_amount) (defBody S_is_amount) (defScope S_is_amount) .none kV9 dc9 pm9 an9 cd9 ct9), sl9⟩) (c9 : PySem.W.codeIn K cd9 "is_amount" = true) (k9 : PySem.W.keepIn K (.ref f9) = true)
    {f10 : Addr} {od10 an10 : Option Addr} {sl10 : Array (Option Value)} {oc10 kV10 dc10 pm10 cd10 ct10 : Value}
    (a10 : PySem.W.nsIn K mainGlobals "_is_amounts" = some (some (.ref f10)))
    (l10 : K.lookup f10 = some ⟨oc10, od10, .func (PySem.W.fnOf "_is_amounts" "_is_amounts" (defArgs S__is_amounts) (defBody S__is_amounts) (defScope S__is_amounts) .none kV10 dc10 pm10 an10 cd10 ct10), sl10⟩) (c10 : PySem.W.codeIn K cd10 "_is_amounts" = true) (k10 : PySem.W.keepIn K (.ref f10) = true)
    {f11 : Addr} {od11 an11 : Option Addr} {sl11 : Array (Option Value)} {oc11 kV11 dc11 pm11 cd11 ct11 : Value}
    (a11 : PySem.W.nsIn K mainGlobals "wrong_part" = some (some (.ref f11)))
    (l11 : K.lookup f11 = some ⟨oc11, od11, .func (PySem.W.fnOf "wrong_part" "wrong_part" (defArgs S_wrong_part) (defBody S_wrong_part) (defScope S_wrong_part) .none kV11 dc11 pm11 an11 cd11 ct11), sl11⟩) (c11 : PySem.W.codeIn K cd11 "wrong_part" = true) (k11 : PySem.W.keepIn K (.ref f11) = true)
    {f12 : Addr} {od12 an12 : Option Addr} {sl12 : Array (Option Value)} {oc12 kV12 dc12 pm12 cd12 ct12 : Value}
    (a12 : PySem.W.nsIn K mainGlobals "check_item" = some (some (.ref f12)))
    (l12 : K.lookup f12 = some ⟨oc12, od12, .func (PySem.W.fnOf "check_item" "check_item" (defArgs S_check_item) (defBody S_check_item) (defScope S_check_item) .none kV12 dc12 pm12 an12 cd12 ct12), sl12⟩) (c12 : PySem.W.codeIn K cd12 "check_item" = true) (k12 : PySem.W.keepIn K (.ref f12) = true)
    {f13 : Addr} {od13 an13 : Option Addr} {sl13 : Array (Option Value)} {oc13 kV13 dc13 pm13 cd13 ct13 : Value}
    (a13 : PySem.W.nsIn K mainGlobals "ratio_text" = some (some (.ref f13)))
    (l13 : K.lookup f13 = some ⟨oc13, od13, .func (PySem.W.fnOf "ratio_text" "ratio_text" (defArgs S_ratio_text) (defBody S_ratio_text) (defScope S_ratio_text) .none kV13 dc13 pm13 an13 cd13 ct13), sl13⟩) (c13 : PySem.W.codeIn K cd13 "ratio_text" = true) (k13 : PySem.W.keepIn K (.ref f13) = true)
    {f14 : Addr} {od14 an14 : Option Addr} {sl14 : Array (Option Value)} {oc14 kV14 dc14 pm14 cd14 ct14 : Value}
    (a14 : PySem.W.nsIn K mainGlobals "word_at" = some (some (.ref f14)))
    (l14 : K.lookup f14 = some ⟨oc14, od14, .func (PySem.W.fnOf "word_at" "word_at" (defArgs S_word_at) (defBody S_word_at) (defScope S_word_at) .none kV14 dc14 pm14 an14 cd14 ct14), sl14⟩) (c14 : PySem.W.codeIn K cd14 "word_at" = true) (k14 : PySem.W.keepIn K (.ref f14) = true)
    {f15 : Addr} {od15 an15 : Option Addr} {sl15 : Array (Option Value)} {oc15 kV15 dc15 pm15 cd15 ct15 : Value}
    (a15 : PySem.W.nsIn K mainGlobals "read_natural" = some (some (.ref f15)))
    (l15 : K.lookup f15 = some ⟨oc15, od15, .func (PySem.W.fnOf "read_natural" "read_natural" (defArgs S_read_natural) (defBody S_read_natural) (defScope S_read_natural) .none kV15 dc15 pm15 an15 cd15 ct15), sl15⟩) (c15 : PySem.W.codeIn K cd15 "read_natural" = true) (k15 : PySem.W.keepIn K (.ref f15) = true)
    {f16 : Addr} {od16 an16 : Option Addr} {sl16 : Array (Option Value)} {oc16 kV16 dc16 pm16 cd16 ct16 : Value}
    (a16 : PySem.W.nsIn K mainGlobals "_read_integer" = some (some (.ref f16)))
    (l16 : K.lookup f16 = some ⟨oc16, od16, .func (PySem.W.fnOf "_read_integer" "_read_integer" (defArgs S__read_integer) (defBody S__read_integer) (defScope S__read_integer) .none kV16 dc16 pm16 an16 cd16 ct16), sl16⟩) (c16 : PySem.W.codeIn K cd16 "_read_integer" = true) (k16 : PySem.W.keepIn K (.ref f16) = true)
    {f17 : Addr} {od17 an17 : Option Addr} {sl17 : Array (Option Value)} {oc17 kV17 dc17 pm17 cd17 ct17 : Value}
    (a17 : PySem.W.nsIn K mainGlobals "_read_amount" = some (some (.ref f17)))
    (l17 : K.lookup f17 = some ⟨oc17, od17, .func (PySem.W.fnOf "_read_amount" "_read_amount" (defArgs S__read_amount) (defBody S__read_amount) (defScope S__read_amount) .none kV17 dc17 pm17 an17 cd17 ct17), sl17⟩) (c17 : PySem.W.codeIn K cd17 "_read_amount" = true) (k17 : PySem.W.keepIn K (.ref f17) = true)
    {f18 : Addr} {od18 an18 : Option Addr} {sl18 : Array (Option Value)} {oc18 kV18 dc18 pm18 cd18 ct18 : Value}
    (a18 : PySem.W.nsIn K mainGlobals "wrong_in_stretch" = some (some (.ref f18)))
    (l18 : K.lookup f18 = some ⟨oc18, od18, .func (PySem.W.fnOf "wrong_in_stretch" "wrong_in_stretch" (defArgs S_wrong_in_stretch) (defBody S_wrong_in_stretch) (defScope S_wrong_in_stretch) .none kV18 dc18 pm18 an18 cd18 ct18), sl18⟩) (c18 : PySem.W.codeIn K cd18 "wrong_in_stretch" = true) (k18 : PySem.W.keepIn K (.ref f18) = true)
    {f19 : Addr} {od19 an19 : Option Addr} {sl19 : Array (Option Value)} {oc19 kV19 dc19 pm19 cd19 ct19 : Value}
    (a19 : PySem.W.nsIn K mainGlobals "wrong_in_item" = some (some (.ref f19)))
    (l19 : K.lookup f19 = some ⟨oc19, od19, .func (PySem.W.fnOf "wrong_in_item" "wrong_in_item" (defArgs S_wrong_in_item) (defBody S_wrong_in_item) (defScope S_wrong_in_item) .none kV19 dc19 pm19 an19 cd19 ct19), sl19⟩) (c19 : PySem.W.codeIn K cd19 "wrong_in_item" = true) (k19 : PySem.W.keepIn K (.ref f19) = true)
    {f20 : Addr} {od20 an20 : Option Addr} {sl20 : Array (Option Value)} {oc20 kV20 dc20 pm20 cd20 ct20 : Value}
    (a20 : PySem.W.nsIn K mainGlobals "item_text" = some (some (.ref f20)))
    (l20 : K.lookup f20 = some ⟨oc20, od20, .func (PySem.W.fnOf "item_text" "item_text" (defArgs S_item_text) (defBody S_item_text) (defScope S_item_text) .none kV20 dc20 pm20 an20 cd20 ct20), sl20⟩) (c20 : PySem.W.codeIn K cd20 "item_text" = true) (k20 : PySem.W.keepIn K (.ref f20) = true)
    {f21 : Addr} {od21 an21 : Option Addr} {sl21 : Array (Option Value)} {oc21 kV21 dc21 pm21 cd21 ct21 : Value}
    (a21 : PySem.W.nsIn K mainGlobals "item_from" = some (some (.ref f21)))
    (l21 : K.lookup f21 = some ⟨oc21, od21, .func (PySem.W.fnOf "item_from" "item_from" (defArgs S_item_from) (defBody S_item_from) (defScope S_item_from) .none kV21 dc21 pm21 an21 cd21 ct21), sl21⟩) (c21 : PySem.W.codeIn K cd21 "item_from" = true) (k21 : PySem.W.keepIn K (.ref f21) = true)
    {f22 : Addr} {od22 an22 : Option Addr} {sl22 : Array (Option Value)} {oc22 kV22 dc22 pm22 cd22 ct22 : Value}
    (a22 : PySem.W.nsIn K mainGlobals "read_item" = some (some (.ref f22)))
    (l22 : K.lookup f22 = some ⟨oc22, od22, .func (PySem.W.fnOf "read_item" "read_item" (defArgs S_read_item) (defBody S_read_item) (defScope S_read_item) .none kV22 dc22 pm22 an22 cd22 ct22), sl22⟩) (c22 : PySem.W.codeIn K cd22 "read_item" = true) (k22 : PySem.W.keepIn K (.ref f22) = true)
    {f23 : Addr} {od23 an23 : Option Addr} {sl23 : Array (Option Value)} {oc23 kV23 dc23 pm23 cd23 ct23 : Value}
    (a23 : PySem.W.nsIn K mainGlobals "_law_amount" = some (some (.ref f23)))
    (l23 : K.lookup f23 = some ⟨oc23, od23, .func (PySem.W.fnOf "_law_amount" "_law_amount" (defArgs S__law_amount) (defBody S__law_amount) (defScope S__law_amount) .none kV23 dc23 pm23 an23 cd23 ct23), sl23⟩) (c23 : PySem.W.codeIn K cd23 "_law_amount" = true) (k23 : PySem.W.keepIn K (.ref f23) = true)
    {f24 : Addr} {od24 an24 : Option Addr} {sl24 : Array (Option Value)} {oc24 kV24 dc24 pm24 cd24 ct24 : Value}
    (a24 : PySem.W.nsIn K mainGlobals "_law_any_item" = some (some (.ref f24)))
    (l24 : K.lookup f24 = some ⟨oc24, od24, .func (PySem.W.fnOf "_law_any_item" "_law_any_item" (defArgs S__law_any_item) (defBody S__law_any_item) (defScope S__law_any_item) .none kV24 dc24 pm24 an24 cd24 ct24), sl24⟩) (c24 : PySem.W.codeIn K cd24 "_law_any_item" = true) (k24 : PySem.W.keepIn K (.ref f24) = true)
    {f25 : Addr} {od25 an25 : Option Addr} {sl25 : Array (Option Value)} {oc25 kV25 dc25 pm25 cd25 ct25 : Value}
    (a25 : PySem.W.nsIn K mainGlobals "_law_number_in" = some (some (.ref f25)))
    (l25 : K.lookup f25 = some ⟨oc25, od25, .func (PySem.W.fnOf "_law_number_in" "_law_number_in" (defArgs S__law_number_in) (defBody S__law_number_in) (defScope S__law_number_in) .none kV25 dc25 pm25 an25 cd25 ct25), sl25⟩) (c25 : PySem.W.codeIn K cd25 "_law_number_in" = true) (k25 : PySem.W.keepIn K (.ref f25) = true)
    {f26 : Addr} {od26 an26 : Option Addr} {sl26 : Array (Option Value)} {oc26 kV26 dc26 pm26 cd26 ct26 : Value}
    (a26 : PySem.W.nsIn K mainGlobals "_law_is_amount" = some (some (.ref f26)))
    (l26 : K.lookup f26 = some ⟨oc26, od26, .func (PySem.W.fnOf "_law_is_amount" "_law_is_amount" (defArgs S__law_is_amount) (defBody S__law_is_amount) (defScope S__law_is_amount) .none kV26 dc26 pm26 an26 cd26 ct26), sl26⟩) (c26 : PySem.W.codeIn K cd26 "_law_is_amount" = true) (k26 : PySem.W.keepIn K (.ref f26) = true)
    {f27 : Addr} {od27 an27 : Option Addr} {sl27 : Array (Option Value)} {oc27 kV27 dc27 pm27 cd27 ct27 : Value}
    (a27 : PySem.W.nsIn K mainGlobals "_law_stretch_place" = some (some (.ref f27)))
    (l27 : K.lookup f27 = some ⟨oc27, od27, .func (PySem.W.fnOf "_law_stretch_place" "_law_stretch_place" (defArgs S__law_stretch_place) (defBody S__law_stretch_place) (defScope S__law_stretch_place) .none kV27 dc27 pm27 an27 cd27 ct27), sl27⟩) (c27 : PySem.W.codeIn K cd27 "_law_stretch_place" = true) (k27 : PySem.W.keepIn K (.ref f27) = true)
    {f28 : Addr} {od28 an28 : Option Addr} {sl28 : Array (Option Value)} {oc28 kV28 dc28 pm28 cd28 ct28 : Value}
    (a28 : PySem.W.nsIn K mainGlobals "_law_item_place" = some (some (.ref f28)))
    (l28 : K.lookup f28 = some ⟨oc28, od28, .func (PySem.W.fnOf "_law_item_place" "_law_item_place" (defArgs S__law_item_place) (defBody S__law_item_place) (defScope S__law_item_place) .none kV28 dc28 pm28 an28 cd28 ct28), sl28⟩) (c28 : PySem.W.codeIn K cd28 "_law_item_place" = true) (k28 : PySem.W.keepIn K (.ref f28) = true)
    {f29 : Addr} {od29 an29 : Option Addr} {sl29 : Array (Option Value)} {oc29 kV29 dc29 pm29 cd29 ct29 : Value}
    (a29 : PySem.W.nsIn K mainGlobals "_law_odd_words" = some (some (.ref f29)))
    (l29 : K.lookup f29 = some ⟨oc29, od29, .func (PySem.W.fnOf "_law_odd_words" "_law_odd_words" (defArgs S__law_odd_words) (defBody S__law_odd_words) (defScope S__law_odd_words) .none kV29 dc29 pm29 an29 cd29 ct29), sl29⟩) (c29 : PySem.W.codeIn K cd29 "_law_odd_words" = true) (k29 : PySem.W.keepIn K (.ref f29) = true)
    {f30 : Addr} {od30 an30 : Option Addr} {sl30 : Array (Option Value)} {oc30 kV30 dc30 pm30 cd30 ct30 : Value}
    (a30 : PySem.W.nsIn K mainGlobals "_law_place_told" = some (some (.ref f30)))
    (l30 : K.lookup f30 = some ⟨oc30, od30, .func (PySem.W.fnOf "_law_place_told" "_law_place_told" (defArgs S__law_place_told) (defBody S__law_place_told) (defScope S__law_place_told) .none kV30 dc30 pm30 an30 cd30 ct30), sl30⟩) (c30 : PySem.W.codeIn K cd30 "_law_place_told" = true) (k30 : PySem.W.keepIn K (.ref f30) = true)
    {f31 : Addr} {od31 an31 : Option Addr} {sl31 : Array (Option Value)} {oc31 kV31 dc31 pm31 cd31 ct31 : Value}
    (a31 : PySem.W.nsIn K mainGlobals "_law_due" = some (some (.ref f31)))
    (l31 : K.lookup f31 = some ⟨oc31, od31, .func (PySem.W.fnOf "_law_due" "_law_due" (defArgs S__law_due) (defBody S__law_due) (defScope S__law_due) .none kV31 dc31 pm31 an31 cd31 ct31), sl31⟩) (c31 : PySem.W.codeIn K cd31 "_law_due" = true) (k31 : PySem.W.keepIn K (.ref f31) = true)
    {f32 : Addr} {od32 an32 : Option Addr} {sl32 : Array (Option Value)} {oc32 kV32 dc32 pm32 cd32 ct32 : Value}
    (a32 : PySem.W.nsIn K mainGlobals "_law_right" = some (some (.ref f32)))
    (l32 : K.lookup f32 = some ⟨oc32, od32, .func (PySem.W.fnOf "_law_right" "_law_right" (defArgs S__law_right) (defBody S__law_right) (defScope S__law_right) .none kV32 dc32 pm32 an32 cd32 ct32), sl32⟩) (c32 : PySem.W.codeIn K cd32 "_law_right" = true) (k32 : PySem.W.keepIn K (.ref f32) = true)
    {f33 : Addr} {od33 an33 : Option Addr} {sl33 : Array (Option Value)} {oc33 kV33 dc33 pm33 cd33 ct33 : Value}
    (a33 : PySem.W.nsIn K mainGlobals "law" = some (some (.ref f33)))
    (l33 : K.lookup f33 = some ⟨oc33, od33, .func (PySem.W.fnOf "law" "law" (defArgs S_law) (defBody S_law) (defScope S_law) .none kV33 dc33 pm33 an33 cd33 ct33), sl33⟩) (c33 : PySem.W.codeIn K cd33 "law" = true) (k33 : PySem.W.keepIn K (.ref f33) = true)
    (cg0 : PySem.W.nsIn K mainGlobals "gcd" = some (some (.builtin "math.gcd")))
    {gt1 : Nat} (cg1 : PySem.W.nsIn K mainGlobals "LAST_DAY" = some (some (.int 1000000000000000000000000000000 gt1)))
    {gt2 : Nat} (cg2 : PySem.W.nsIn K mainGlobals "AMOUNT_BOUND" = some (some (.int 1000000 gt2)))
    {gt3 : Nat} (cg3 : PySem.W.nsIn K mainGlobals "MOST_AMOUNTS" = some (some (.int 4 gt3)))
    {gt4 : Nat} (cg4 : PySem.W.nsIn K mainGlobals "DIGITS" = some (some (.str "0123456789" gt4)))
    {gt5 : Nat} (cg5 : PySem.W.nsIn K mainGlobals "MOST_DIGITS" = some (some (.int 100 gt5)))
    (z0 : PySem.W.nsIn K mainGlobals "abs" = some none)
    (z1 : PySem.W.nsIn K mainGlobals "len" = some none)
    (z2 : PySem.W.nsIn K mainGlobals "isinstance" = some none)
    (z3 : PySem.W.nsIn K mainGlobals "bool" = some none)
    (z4 : PySem.W.nsIn K mainGlobals "int" = some none)
    (z5 : PySem.W.nsIn K mainGlobals "tuple" = some none)
    (z6 : PySem.W.nsIn K mainGlobals "all" = some none)
    (z7 : PySem.W.nsIn K mainGlobals "str" = some none)
    (z8 : PySem.W.nsIn K mainGlobals "range" = some none)
    (z9 : PySem.W.nsIn K mainGlobals "enumerate" = some none)
    (z10 : PySem.W.nsIn K mainGlobals "repr" = some none)
    (z11 : PySem.W.nsIn K mainGlobals "max" = some none)
    (z12 : PySem.W.nsIn K mainGlobals "min" = some none)
    : ∃ fd : FuncData, (∀ (s : Shared) (v : Value), BindsTo s fd ⟨[v], []⟩ [("_law_script", v)]) ∧ ∀ base : Heap, K.In base → base.Ns mainGlobals mg → FnG l.prog w K mg base CX0 9 fa fd ["_law_script"] (sp_law K) := by
  have e := hfa.symm.trans (PySem.W.mg_of X G a33)
  cases e
  have F0 := fun_mk (st := S__law_bag) l0 c0 k0
  have b0 := F0.binds (ps := ["_law_script", "_law_at"]) fun _ _ _ _ _ _ us hl => match us, hl with | [_, _], _ => rfl
  have F1 := fun_mk (st := S__law_take) l1 c1 k1
  have b1 := F1.binds (ps := ["_law_bag_here", "_law_size"]) fun _ _ _ _ _ _ us hl => match us, hl with | [_, _], _ => rfl
  have F2 := fun_mk (st := S__law_part) l2 c2 k2
  have b2 := F2.binds (ps := ["_law_one", "_law_other"]) fun _ _ _ _ _ _ us hl => match us, hl with | [_, _], _ => rfl
  have F3 := fun_mk (st := S__law_lowest) l3 c3 k3
  have b3 := F3.binds (ps := ["_law_top", "_law_under"]) fun _ _ _ _ _ _ us hl => match us, hl with | [_, _], _ => rfl
  have F4 := fun_mk (st := S_BadText___init__) l4 c4 k4
  have b4 := F4.binds (ps := ["self", "place"]) fun _ _ _ _ _ _ us hl => match us, hl with | [_, _], _ => rfl
  have F5 := fun_mk (st := S_is_int) l5 c5 k5
  have b5 := F5.binds (ps := ["thing"]) fun _ _ _ _ _ _ us hl => match us, hl with | [_], _ => rfl
  have F6 := fun_mk (st := S_is_ratio) l6 c6 k6
  have b6 := F6.binds (ps := ["thing"]) fun _ _ _ _ _ _ us hl => match us, hl with | [_], _ => rfl
  have F7 := fun_mk (st := S_is_day) l7 c7 k7
  have b7 := F7.binds (ps := ["thing"]) fun _ _ _ _ _ _ us hl => match us, hl with | [_], _ => rfl
  have F8 := fun_mk (st := S__is_many) l8 c8 k8
  have b8 := F8.binds (ps := ["thing", "first"]) fun _ _ _ _ _ _ us hl => match us, hl with | [_, _], _ => rfl
  have F9 := fun_mk (st := S_is_amount) l9 c9 k9
  have b9 := F9.binds (ps := ["thing"]) fun _ _ _ _ _ _ us hl => match us, hl with | [_], _ => rfl
  have F10 := fun_mk (st := S__is_amounts) l10 c10 k10
  have b10 := F10.binds (ps := ["thing"]) fun _ _ _ _ _ _ us hl => match us, hl with | [_], _ => rfl
  have F11 := fun_mk (st := S_wrong_part) l11 c11 k11
  have b11 := F11.binds (ps := ["thing"]) fun _ _ _ _ _ _ us hl => match us, hl with | [_], _ => rfl
  have F12 := fun_mk (st := S_check_item) l12 c12 k12
  have b12 := F12.binds (ps := ["thing"]) fun _ _ _ _ _ _ us hl => match us, hl with | [_], _ => rfl
  have F13 := fun_mk (st := S_ratio_text) l13 c13 k13
  have b13 := F13.binds (ps := ["ratio"]) fun _ _ _ _ _ _ us hl => match us, hl with | [_], _ => rfl
  have F14 := fun_mk (st := S_word_at) l14 c14 k14
  have b14 := F14.binds (ps := ["words", "at"]) fun _ _ _ _ _ _ us hl => match us, hl with | [_, _], _ => rfl
  have F15 := fun_mk (st := S_read_natural) l15 c15 k15
  have b15 := F15.binds (ps := ["word"]) fun _ _ _ _ _ _ us hl => match us, hl with | [_], _ => rfl
  have F16 := fun_mk (st := S__read_integer) l16 c16 k16
  have b16 := F16.binds (ps := ["word"]) fun _ _ _ _ _ _ us hl => match us, hl with | [_], _ => rfl
  have F17 := fun_mk (st := S__read_amount) l17 c17 k17
  have b17 := F17.binds (ps := ["word"]) fun _ _ _ _ _ _ us hl => match us, hl with | [_], _ => rfl
  have F18 := fun_mk (st := S_wrong_in_stretch) l18 c18 k18
  have b18 := F18.binds (ps := ["words", "at"]) fun _ _ _ _ _ _ us hl => match us, hl with | [_, _], _ => rfl
  have F19 := fun_mk (st := S_wrong_in_item) l19 c19 k19
  have b19 := F19.binds (ps := ["words", "at"]) fun _ _ _ _ _ _ us hl => match us, hl with | [_, _], _ => rfl
  have F20 := fun_mk (st := S_item_text) l20 c20 k20
  have b20 := F20.binds (ps := ["item"]) fun _ _ _ _ _ _ us hl => match us, hl with | [_], _ => rfl
  have F21 := fun_mk (st := S_item_from) l21 c21 k21
  have b21 := F21.binds (ps := ["words", "at"]) fun _ _ _ _ _ _ us hl => match us, hl with | [_, _], _ => rfl
  have F22 := fun_mk (st := S_read_item) l22 c22 k22
  have b22 := F22.binds (ps := ["text"]) fun _ _ _ _ _ _ us hl => match us, hl with | [_], _ => rfl
  have F23 := fun_mk (st := S__law_amount) l23 c23 k23
  have b23 := F23.binds (ps := ["_law_bag_here"]) fun _ _ _ _ _ _ us hl => match us, hl with | [_], _ => rfl
  have F24 := fun_mk (st := S__law_any_item) l24 c24 k24
  have b24 := F24.binds (ps := ["_law_bag_here"]) fun _ _ _ _ _ _ us hl => match us, hl with | [_], _ => rfl
  have F25 := fun_mk (st := S__law_number_in) l25 c25 k25
  have b25 := F25.binds (ps := ["_law_word", "_law_signed"]) fun _ _ _ _ _ _ us hl => match us, hl with | [_, _], _ => rfl
  have F26 := fun_mk (st := S__law_is_amount) l26 c26 k26
  have b26 := F26.binds (ps := ["_law_word"]) fun _ _ _ _ _ _ us hl => match us, hl with | [_], _ => rfl
  have F27 := fun_mk (st := S__law_stretch_place) l27 c27 k27
  have b27 := F27.binds (ps := ["_law_words", "_law_at"]) fun _ _ _ _ _ _ us hl => match us, hl with | [_, _], _ => rfl
  have F28 := fun_mk (st := S__law_item_place) l28 c28 k28
  have b28 := F28.binds (ps := ["_law_words", "_law_at"]) fun _ _ _ _ _ _ us hl => match us, hl with | [_, _], _ => rfl
  have F29 := fun_mk (st := S__law_odd_words) l29 c29 k29
  have b29 := F29.binds (ps := ["_law_bag_here", "_law_words"]) fun _ _ _ _ _ _ us hl => match us, hl with | [_, _], _ => rfl
  have F30 := fun_mk (st := S__law_place_told) l30 c30 k30
  have b30 := F30.binds (ps := ["_law_thing"]) fun _ _ _ _ _ _ us hl => match us, hl with | [_], _ => rfl
  have F31 := fun_mk (st := S__law_due) l31 c31 k31
  have b31 := F31.binds (ps := ["_law_text"]) fun _ _ _ _ _ _ us hl => match us, hl with | [_], _ => rfl
  have F32 := fun_mk (st := S__law_right) l32 c32 k32
  have b32 := F32.binds (ps := ["_law_bag_here"]) fun _ _ _ _ _ _ us hl => match us, hl with | [_], _ => rfl
  have F33 := fun_mk (st := S_law) l33 c33 k33
  have c_gcd := PySem.W.mg_of X G cg0
  have c_LAST_DAY := PySem.W.mg_of X G cg1
  have c_AMOUNT_BOUND := PySem.W.mg_of X G cg2
  have c_MOST_AMOUNTS := PySem.W.mg_of X G cg3
  have c_DIGITS := PySem.W.mg_of X G cg4
  have c_MOST_DIGITS := PySem.W.mg_of X G cg5
  have m_abs := PySem.W.mg_none_of X G z0
  have m_len := PySem.W.mg_none_of X G z1
  have m_isinstance := PySem.W.mg_none_of X G z2
  have m_bool := PySem.W.mg_none_of X G z3
  have m_int := PySem.W.mg_none_of X G z4
  have m_tuple := PySem.W.mg_none_of X G z5
  have m_all := PySem.W.mg_none_of X G z6
  have m_str := PySem.W.mg_none_of X G z7
  have m_range := PySem.W.mg_none_of X G z8
  have m_enumerate := PySem.W.mg_none_of X G z9
  have m_repr := PySem.W.mg_none_of X G z10
  have m_max := PySem.W.mg_none_of X G z11
  have m_min := PySem.W.mg_none_of X G z12
  have G_CutError : ExcB0 K mg "CutError" D_CutError := ⟨⟨gD_CutError, tD_CutError, rD_CutError, iD_CutError⟩, PySem.W.mg_of X G aD_CutError⟩
  have O_BadText : OexC K X_BadText := ⟨⟨_, _, _, _, _, _, _, _, _, _, _, _, _, _, _, lk_BadText, rv_BadText⟩, sa_BadText, ex_BadText, ty_BadText, kx_BadText⟩
  have XE : ErrZ K mg cE X_BadText bC bD bI bR bS oK := ⟨aX_BadText, ⟨(show (PySem.W.clsIn K X_BadText).isSome = true from x0), x4, x5, ex_BadText, x7, x8, x9, x10, xhd⟩, no_BadText, PySem.W.mg_of X G n_cE, PySem.W.mg_of X G aX_BadText, PySem.W.mg_of X G n_bC, PySem.W.mg_of X G n_bD, PySem.W.mg_of X G n_bI, PySem.W.mg_of X G n_bR, PySem.W.mg_of X G n_bS, PySem.W.mg_of X G n_oK, catE, xoff, xonI⟩
  refine ⟨PySem.W.fnOf "law" "law" (defArgs S_law) (defBody S_law) (defScope S_law) .none kV33 dc33 pm33 an33 cd33 ct33, fun s v => .of_eq rfl, fun base _ _ => ?_⟩
  have C__law_bag : Cal l.prog w K mg base "_law_bag" 1 f0 _ ["_law_script", "_law_at"] (sp__law_bag K) := ⟨ok__law_bag F0 m_abs m_len, b0, k0, PySem.W.mg_of X G a0⟩
  have C__law_take : Cal l.prog w K mg base "_law_take" 1 f1 _ ["_law_bag_here", "_law_size"] (sp__law_take K) := ⟨ok__law_take F1, b1, k1, PySem.W.mg_of X G a1⟩
  have C__law_part : Cal l.prog w K mg base "_law_part" 1 f2 _ ["_law_one", "_law_other"] (sp__law_part K) := ⟨ok__law_part F2 m_abs, b2, k2, PySem.W.mg_of X G a2⟩
  have C__law_lowest : Cal l.prog w K mg base "_law_lowest" 2 f3 _ ["_law_top", "_law_under"] (sp__law_lowest K) := ⟨ok__law_lowest F3 C__law_part, b3, k3, PySem.W.mg_of X G a3⟩
  have R_BadText : ExcC l.prog w K mg base "BadText" "place" 1 X_BadText f4 _ ["self", "place"] (sp_BadText___init__ K) := ⟨O_BadText, no_BadText, aX_BadText, a4, i4, ok_BadText___init__ F4 G_CutError, b4, PySem.W.mg_of X G aX_BadText⟩
  have C_is_int : Cal l.prog w K mg base "is_int" 1 f5 _ ["thing"] (sp_is_int K) := ⟨ok_is_int F5 m_isinstance m_bool m_int, b5, k5, PySem.W.mg_of X G a5⟩
  have C_is_ratio : Cal l.prog w K mg base "is_ratio" 2 f6 _ ["thing"] (sp_is_ratio K) := ⟨ok_is_ratio F6 C_is_int c_gcd m_len m_isinstance m_tuple, b6, k6, PySem.W.mg_of X G a6⟩
  have C_is_day : Cal l.prog w K mg base "is_day" 2 f7 _ ["thing"] (sp_is_day K) := ⟨ok_is_day F7 C_is_int c_LAST_DAY, b7, k7, PySem.W.mg_of X G a7⟩
  have C__is_many : Cal l.prog w K mg base "_is_many" 2 f8 _ ["thing", "first"] (sp__is_many K) := ⟨ok__is_many F8 C_is_int c_LAST_DAY, b8, k8, PySem.W.mg_of X G a8⟩
  have C_is_amount : Cal l.prog w K mg base "is_amount" 3 f9 _ ["thing"] (sp_is_amount K) := ⟨ok_is_amount F9 C_is_ratio c_AMOUNT_BOUND, b9, k9, PySem.W.mg_of X G a9⟩
  have C__is_amounts : Cal l.prog w K mg base "_is_amounts" 4 f10 _ ["thing"] (sp__is_amounts K) := ⟨ok__is_amounts F10 C_is_amount c_MOST_AMOUNTS m_all m_len m_isinstance m_tuple, b10, k10, PySem.W.mg_of X G a10⟩
  have C_wrong_part : Cal l.prog w K mg base "wrong_part" 5 f11 _ ["thing"] (sp_wrong_part K) := ⟨ok_wrong_part F11 C__is_amounts C_is_int C__is_many C_is_day m_len m_isinstance m_tuple, b11, k11, PySem.W.mg_of X G a11⟩
  have C_check_item : Cal l.prog w K mg base "check_item" 6 f12 _ ["thing"] (sp_check_item K) := ⟨ok_check_item F12 C_wrong_part, b12, k12, PySem.W.mg_of X G a12⟩
  have C_ratio_text : Cal l.prog w K mg base "ratio_text" 1 f13 _ ["ratio"] (sp_ratio_text K) := ⟨ok_ratio_text F13 m_str, b13, k13, PySem.W.mg_of X G a13⟩
  have C_word_at : Cal l.prog w K mg base "word_at" 1 f14 _ ["words", "at"] (sp_word_at K) := ⟨ok_word_at F14 m_len, b14, k14, PySem.W.mg_of X G a14⟩
  have C_read_natural : Cal l.prog w K mg base "read_natural" 1 f15 _ ["word"] (sp_read_natural K) := ⟨ok_read_natural F15 c_DIGITS c_MOST_DIGITS m_int m_len m_all, b15, k15, PySem.W.mg_of X G a15⟩
  have C__read_integer : Cal l.prog w K mg base "_read_integer" 2 f16 _ ["word"] (sp__read_integer K) := ⟨ok__read_integer F16 C_read_natural, b16, k16, PySem.W.mg_of X G a16⟩
  have C__read_amount : Cal l.prog w K mg base "_read_amount" 4 f17 _ ["word"] (sp__read_amount K) := ⟨ok__read_amount F17 C_is_amount C_read_natural C__read_integer, b17, k17, PySem.W.mg_of X G a17⟩
  have C_wrong_in_stretch : Cal l.prog w K mg base "wrong_in_stretch" 2 f18 _ ["words", "at"] (sp_wrong_in_stretch K) := ⟨ok_wrong_in_stretch F18 C_read_natural C_word_at c_LAST_DAY, b18, k18, PySem.W.mg_of X G a18⟩
  have C_wrong_in_item : Cal l.prog w K mg base "wrong_in_item" 5 f19 _ ["words", "at"] (sp_wrong_in_item K) := ⟨ok_wrong_in_item F19 C_word_at C__read_amount C__read_integer C_wrong_in_stretch c_MOST_AMOUNTS m_len m_range, b19, k19, PySem.W.mg_of X G a19⟩
  have C_item_text : Cal l.prog w K mg base "item_text" 7 f20 _ ["item"] (sp_item_text K) := ⟨ok_item_text F20 C_ratio_text C_check_item m_str, b20, k20, PySem.W.mg_of X G a20⟩
  have C_item_from : Cal l.prog w K mg base "item_from" 5 f21 _ ["words", "at"] (sp_item_from K) := ⟨ok_item_from F21 C__read_amount m_int m_tuple, b21, k21, PySem.W.mg_of X G a21⟩
  have C_read_item : CalX l.prog w K mg base "read_item" 6 f22 _ ["text"] (sp_read_item K) := ⟨ok_read_item F22 C_item_from C_wrong_in_item R_BadText m_isinstance m_str, b22, k22, PySem.W.mg_of X G a22⟩
  have C__law_amount : Cal l.prog w K mg base "_law_amount" 3 f23 _ ["_law_bag_here"] (sp__law_amount K) := ⟨ok__law_amount F23 C__law_lowest C__law_take, b23, k23, PySem.W.mg_of X G a23⟩
  have C__law_any_item : Cal l.prog w K mg base "_law_any_item" 4 f24 _ ["_law_bag_here"] (sp__law_any_item K) := ⟨ok__law_any_item F24 C__law_take C__law_amount m_tuple m_range m_int, b24, k24, PySem.W.mg_of X G a24⟩
  have C__law_number_in : Cal l.prog w K mg base "_law_number_in" 1 f25 _ ["_law_word", "_law_signed"] (sp__law_number_in K) := ⟨ok__law_number_in F25 m_int m_all m_len, b25, k25, PySem.W.mg_of X G a25⟩
  have C__law_is_amount : Cal l.prog w K mg base "_law_is_amount" 2 f26 _ ["_law_word"] (sp__law_is_amount K) := ⟨ok__law_is_amount F26 C__law_part C__law_number_in, b26, k26, PySem.W.mg_of X G a26⟩
  have C__law_stretch_place : Cal l.prog w K mg base "_law_stretch_place" 2 f27 _ ["_law_words", "_law_at"] (sp__law_stretch_place K) := ⟨ok__law_stretch_place F27 C__law_number_in m_len, b27, k27, PySem.W.mg_of X G a27⟩
  have C__law_item_place : Cal l.prog w K mg base "_law_item_place" 3 f28 _ ["_law_words", "_law_at"] (sp__law_item_place K) := ⟨ok__law_item_place F28 C__law_is_amount C__law_number_in C__law_stretch_place m_enumerate m_len, b28, k28, PySem.W.mg_of X G a28⟩
  have C__law_odd_words : Cal l.prog w K mg base "_law_odd_words" 2 f29 _ ["_law_bag_here", "_law_words"] (sp__law_odd_words K) := ⟨ok__law_odd_words F29 C__law_take m_len m_str, b29, k29, PySem.W.mg_of X G a29⟩
  have C__law_place_told : Cal l.prog w K mg base "_law_place_told" 7 f30 _ ["_law_thing"] (sp__law_place_told K) := ⟨ok__law_place_told F30 C_read_item XE m_isinstance, b30, k30, PySem.W.mg_of X G a30⟩
  have C__law_due : Cal l.prog w K mg base "_law_due" 4 f31 _ ["_law_text"] (sp__law_due K) := ⟨ok__law_due F31 C__law_item_place, b31, k31, PySem.W.mg_of X G a31⟩
  have C__law_right : Cal l.prog w K mg base "_law_right" 8 f32 _ ["_law_bag_here"] (sp__law_right K) := ⟨ok__law_right F32 C_read_item C__law_place_told C__law_due C_item_text C__law_take C__law_odd_words C__law_any_item m_all m_repr m_range, b32, k32, PySem.W.mg_of X G a32⟩
  exact ok_law F33 C__law_right C__law_bag m_range m_max m_min m_len
theorem factsH {l : PySem.W.OpenLaw} {w : World} {K : PySem.W.Frag} {h : Heap} {mg : Str → Option Value} {fa : Addr} (X : K.In h) (G : h.Ns mainGlobals mg) (hfa : mg "law" = some (.ref fa)) (c : SaysO faH fnH K) :
    ∃ fd : FuncData, (∀ (s : Shared) (v : Value), BindsTo s fd ⟨[v], []⟩ [("_law_script", v)]) ∧ ∀ base : Heap, K.In base → base.Ns mainGlobals mg → FnG l.prog w K mg base CX0 9 fa fd ["_law_script"] (sp_law K) := by
  have q0 : fc0 K = true := c.fact 0 rfl
  have q1 : fc1 K = true := c.fact 1 rfl
  have q2 : fc2 K = true := c.fact 2 rfl
  have q3 : fc3 K = true := c.fact 3 rfl
  have q4 : fc4 K = true := c.fact 4 rfl
  have q5 : fc5 K = true := c.fact 5 rfl
  have q6 : fc6 K = true := c.fact 6 rfl
  have q7 : fc7 K = true := c.fact 7 rfl
  have q8 : fc8 K = true := c.fact 8 rfl
  have q9 : fc9 K = true := c.fact 9 rfl
  have q10 : fc10 K = true := c.fact 10 rfl
  have q11 : fc11 K = true := c.fact 11 rfl
  have q12 : fc12 K = true := c.fact 12 rfl
  have q13 : fc13 K = true := c.fact 13 rfl
  have q14 : fc14 K = true := c.fact 14 rfl
  have q15 : fc15 K = true := c.fact 15 rfl
  have q16 : fc16 K = true := c.fact 16 rfl
  have q17 : fc17 K = true := c.fact 17 rfl
  have q18 : fc18 K = true := c.fact 18 rfl
  have q19 : fc19 K = true := c.fact 19 rfl
  have q20 : fc20 K = true := c.fact 20 rfl
  have q21 : fc21 K = true := c.fact 21 rfl
  have q22 : fc22 K = true := c.fact 22 rfl
  have q23 : fc23 K = true := c.fact 23 rfl
  have q24 : fc24 K = true := c.fact 24 rfl
  have q25 : fc25 K = true := c.fact 25 rfl
  have q26 : fc26 K = true := c.fact 26 rfl
  have q27 : fc27 K = true := c.fact 27 rfl
  have q28 : fc28 K = true := c.fact 28 rfl
  have q29 : fc29 K = true := c.fact 29 rfl
  have q30 : fc30 K = true := c.fact 30 rfl
  have q31 : fc31 K = true := c.fact 31 rfl
  have q32 : fc32 K = true := c.fact 32 rfl
  have q33 : fc33 K = true := c.fact 33 rfl
  have q34 : fc34 K = true := c.fact 34 rfl
  have q35 : fc35 K = true := c.fact 35 rfl
  have q36 : fc36 K = true := c.fact 36 rfl
  have q37 : fc37 K = true := c.fact 37 rfl
  have q38 : fc38 K = true := c.fact 38 rfl
  have q39 : fc39 K = true := c.fact 39 rfl
  have q40 : fc40 K = true := c.fact 40 rfl
  have q41 : fc41 K = true := c.fact 41 rfl
  have q42 : fc42 K = true := c.fact 42 rfl
  have q43 : fc43 K = true := c.fact 43 rfl
  have q44 : fc44 K = true := c.fact 44 rfl
  have q45 : fc45 K = true := c.fact 45 rfl
  have q46 : fc46 K = true := c.fact 46 rfl
  have q47 : fc47 K = true := c.fact 47 rfl
  have q48 : fc48 K = true := c.fact 48 rfl
  have q49 : fc49 K = true := c.fact 49 rfl
  have q50 : fc50 K = true := c.fact 50 rfl
  have q51 : fc51 K = true := c.fact 51 rfl
  have q52 : fc52 K = true := c.fact 52 rfl
  have q53 : fc53 K = true := c.fact 53 rfl
  have q54 : fc54 K = true := c.fact 54 rfl
  have q55 : fc55 K = true := c.fact 55 rfl
  have q56 : fc56 K = true := c.fact 56 rfl
  have q57 : fc57 K = true := c.fact 57 rfl
  have q58 : fc58 K = true := c.fact 58 rfl
  have q59 : fc59 K = true := c.fact 59 rfl
  have q60 : fc60 K = true := c.fact 60 rfl
  have q61 : fc61 K = true := c.fact 61 rfl
  have q62 : fc62 K = true := c.fact 62 rfl
  have q63 : fc63 K = true := c.fact 63 rfl
  have q64 : fc64 K = true := c.fact 64 rfl
  have q65 : fc65 K = true := c.fact 65 rfl
  have q66 : fc66 K = true := c.fact 66 rfl
  have q67 : fc67 K = true := c.fact 67 rfl
  have q68 : fc68 K = true := c.fact 68 rfl
  have q69 : fc69 K = true := c.fact 69 rfl
  have q70 : fc70 K = true := c.fact 70 rfl
  have q71 : fc71 K = true := c.fact 71 rfl
  have q72 : fc72 K = true := c.fact 72 rfl
  have q73 : fc73 K = true := c.fact 73 rfl
  have q74 : fc74 K = true := c.fact 74 rfl
  have q75 : fc75 K = true := c.fact 75 rfl
  have q76 : fc76 K = true := c.fact 76 rfl
  have q77 : fc77 K = true := c.fact 77 rfl
  have q78 : fc78 K = true := c.fact 78 rfl
  have q79 : fc79 K = true := c.fact 79 rfl
  have q80 : fc80 K = true := c.fact 80 rfl
  have q81 : fc81 K = true := c.fact 81 rfl
  have q82 : fc82 K = true := c.fact 82 rfl
  have q83 : fc83 K = true := c.fact 83 rfl
  obtain ⟨nm_BadText, qn_BadText, N_BadText, bs_BadText, bm_BadText, sn_BadText, su_BadText, ab_BadText, co_BadText, dd_BadText, k0_BadText, k1_BadText, k2_BadText, k3_BadText, k5_BadText, lk_BadText, rv_BadText⟩ := excO_ok q1
  obtain ⟨_, _, _, _, _, _, _, _, _, l0, c0, k0⟩ := c.def_ 0 (d := ⟨fun K => (He.ga K "_law_bag"), "_law_bag", "_law_bag", defArgs S__law_bag, defBody S__law_bag, defScope S__law_bag⟩) rfl
  obtain ⟨_, _, _, _, _, _, _, _, _, l1, c1, k1⟩ := c.def_ 1 (d := ⟨fun K => (He.ga K "_law_take"), "_law_take", "_law_take", defArgs S__law_take, defBody S__law_take, defScope S__law_take⟩) rfl
  obtain ⟨_, _, _, _, _, _, _, _, _, l2, c2, k2⟩ := c.def_ 2 (d := ⟨fun K => (He.ga K "_law_part"), "_law_part", "_law_part", defArgs S__law_part, defBody S__law_part, defScope S__law_part⟩) rfl
  obtain ⟨_, _, _, _, _, _, _, _, _, l3, c3, k3⟩ := c.def_ 3 (d := ⟨fun K => (He.ga K "_law_lowest"), "_law_lowest", "_law_lowest", defArgs S__law_lowest, defBody S__law_lowest, defScope S__law_lowest⟩) rfl
  obtain ⟨_, _, _, _, _, _, _, _, _, l4, c4, k4⟩ := c.def_ 4 (d := ⟨fun K => (He.ma K (He.ga K "BadText") "__init__"), "__init__", "BadText.__init__", defArgs S_BadText___init__, defBody S_BadText___init__, defScope S_BadText___init__⟩) rfl
  obtain ⟨_, _, _, _, _, _, _, _, _, l5, c5, k5⟩ := c.def_ 5 (d := ⟨fun K => (He.ga K "is_int"), "is_int", "is_int", defArgs S_is_int, defBody S_is_int, defScope S_is_int⟩) rfl
  obtain ⟨_, _, _, _, _, _, _, _, _, l6, c6, k6⟩ := c.def_ 6 (d := ⟨fun K => (He.ga K "is_ratio"), "is_ratio", "is_ratio", defArgs S_is_ratio, defBody S_is_ratio, defScope S_is_ratio⟩) rfl
  obtain ⟨_, _, _, _, _, _, _, _, _, l7, c7, k7⟩ := c.def_ 7 (d := ⟨fun K => (He.ga K "is_day"), "is_day", "is_day", defArgs S_is_day, defBody S_is_day, defScope S_is_day⟩) rfl
  obtain ⟨_, _, _, _, _, _, _, _, _, l8, c8, k8⟩ := c.def_ 8 (d := ⟨fun K => (He.ga K "_is_many"), "_is_many", "_is_many", defArgs S__is_many, defBody S__is_many, defScope S__is_many⟩) rfl
  obtain ⟨_, _, _, _, _, _, _, _, _, l9, c9, k9⟩ := c.def_ 9 (d := ⟨fun K => (He.ga K "is_amount"), "is_amount", "is_amount", defArgs S_is_amount, defBody S_is_amount, defScope S_is_amount⟩) rfl
  obtain ⟨_, _, _, _, _, _, _, _, _, l10, c10, k10⟩ := c.def_ 10 (d := ⟨fun K => (He.ga K "_is_amounts"), "_is_amounts", "_is_amounts", defArgs S__is_amounts, defBody S__is_amounts, defScope S__is_amounts⟩) rfl
  obtain ⟨_, _, _, _, _, _, _, _, _, l11, c11, k11⟩ := c.def_ 11 (d := ⟨fun K => (He.ga K "wrong_part"), "wrong_part", "wrong_part", defArgs S_wrong_part, defBody S_wrong_part, defScope S_wrong_part⟩) rfl
  obtain ⟨_, _, _, _, _, _, _, _, _, l12, c12, k12⟩ := c.def_ 12 (d := ⟨fun K => (He.ga K "check_item"), "check_item", "check_item", defArgs S_check_item, defBody S_check_item, defScope S_check_item⟩) rfl
  obtain ⟨_, _, _, _, _, _, _, _, _, l13, c13, k13⟩ := c.def_ 13 (d := ⟨fun K => (He.ga K "ratio_text"), "ratio_text", "ratio_text", defArgs S_ratio_text, defBody S_ratio_text, defScope S_ratio_text⟩) rfl
  obtain ⟨_, _, _, _, _, _, _, _, _, l14, c14, k14⟩ := c.def_ 14 (d := ⟨fun K => (He.ga K "word_at"), "word_at", "word_at", defArgs S_word_at, defBody S_word_at, defScope S_word_at⟩) rfl
  obtain ⟨_, _, _, _, _, _, _, _, _, l15, c15, k15⟩ := c.def_ 15 (d := ⟨fun K => (He.ga K "read_natural"), "read_natural", "read_natural", defArgs S_read_natural, defBody S_read_natural, defScope S_read_natural⟩) rfl
  obtain ⟨_, _, _, _, _, _, _, _, _, l16, c16, k16⟩ := c.def_ 16 (d := ⟨fun K => (He.ga K "_read_integer"), "_read_integer", "_read_integer", defArgs S__read_integer, defBody S__read_integer, defScope S__read_integer⟩) rfl
  obtain ⟨_, _, _, _, _, _, _, _, _, l17, c17, k17⟩ := c.def_ 17 (d := ⟨fun K => (He.ga K "_read_amount"), "_read_amount", "_read_amount", defArgs S__read_amount, defBody S__read_amount, defScope S__read_amount⟩) rfl
  obtain ⟨_, _, _, _, _, _, _, _, _, l18, c18, k18⟩ := c.def_ 18 (d := ⟨fun K => (He.ga K "wrong_in_stretch"), "wrong_in_stretch", "wrong_in_stretch", defArgs S_wrong_in_stretch, defBody S_wrong_in_stretch, defScope S_wrong_in_stretch⟩) rfl
  obtain ⟨_, _, _, _, _, _, _, _, _, l19, c19, k19⟩ := c.def_ 19 (d := ⟨fun K => (He.ga K "wrong_in_item"), "wrong_in_item", "wrong_in_item", defArgs S_wrong_in_item, defBody S_wrong_in_item, defScope S_wrong_in_item⟩) rfl
  obtain ⟨_, _, _, _, _, _, _, _, _, l20, c20, k20⟩ := c.def_ 20 (d := ⟨fun K => (He.ga K "item_text"), "item_text", "item_text", defArgs S_item_text, defBody S_item_text, defScope S_item_text⟩) rfl
  obtain ⟨_, _, _, _, _, _, _, _, _, l21, c21, k21⟩ := c.def_ 21 (d := ⟨fun K => (He.ga K "item_from"), "item_from", "item_from", defArgs S_item_from, defBody S_item_from, defScope S_item_from⟩) rfl
  obtain ⟨_, _, _, _, _, _, _, _, _, l22, c22, k22⟩ := c.def_ 22 (d := ⟨fun K => (He.ga K "read_item"), "read_item", "read_item", defArgs S_read_item, defBody S_read_item, defScope S_read_item⟩) rfl
  obtain ⟨_, _, _, _, _, _, _, _, _, l23, c23, k23⟩ := c.def_ 23 (d := ⟨fun K => (He.ga K "_law_amount"), "_law_amount", "_law_amount", defArgs S__law_amount, defBody S__law_amount, defScope S__law_amount⟩) rfl
  obtain ⟨_, _, _, _, _, _, _, _, _, l24, c24, k24⟩ := c.def_ 24 (d := ⟨fun K => (He.ga K "_law_any_item"), "_law_any_item", "_law_any_item", defArgs S__law_any_item, defBody S__law_any_item, defScope S__law_any_item⟩) rfl
  obtain ⟨_, _, _, _, _, _, _, _, _, l25, c25, k25⟩ := c.def_ 25 (d := ⟨fun K => (He.ga K "_law_number_in"), "_law_number_in", "_law_number_in", defArgs S__law_number_in, defBody S__law_number_in, defScope S__law_number_in⟩) rfl
  obtain ⟨_, _, _, _, _, _, _, _, _, l26, c26, k26⟩ := c.def_ 26 (d := ⟨fun K => (He.ga K "_law_is_amount"), "_law_is_amount", "_law_is_amount", defArgs S__law_is_amount, defBody S__law_is_amount, defScope S__law_is_amount⟩) rfl
  obtain ⟨_, _, _, _, _, _, _, _, _, l27, c27, k27⟩ := c.def_ 27 (d := ⟨fun K => (He.ga K "_law_stretch_place"), "_law_stretch_place", "_law_stretch_place", defArgs S__law_stretch_place, defBody S__law_stretch_place, defScope S__law_stretch_place⟩) rfl
  obtain ⟨_, _, _, _, _, _, _, _, _, l28, c28, k28⟩ := c.def_ 28 (d := ⟨fun K => (He.ga K "_law_item_place"), "_law_item_place", "_law_item_place", defArgs S__law_item_place, defBody S__law_item_place, defScope S__law_item_place⟩) rfl
  obtain ⟨_, _, _, _, _, _, _, _, _, l29, c29, k29⟩ := c.def_ 29 (d := ⟨fun K => (He.ga K "_law_odd_words"), "_law_odd_words", "_law_odd_words", defArgs S__law_odd_words, defBody S__law_odd_words, defScope S__law_odd_words⟩) rfl
  obtain ⟨_, _, _, _, _, _, _, _, _, l30, c30, k30⟩ := c.def_ 30 (d := ⟨fun K => (He.ga K "_law_place_told"), "_law_place_told", "_law_place_told", defArgs S__law_place_told, defBody S__law_place_told, defScope S__law_place_told⟩) rfl
  obtain ⟨_, _, _, _, _, _, _, _, _, l31, c31, k31⟩ := c.def_ 31 (d := ⟨fun K => (He.ga K "_law_due"), "_law_due", "_law_due", defArgs S__law_due, defBody S__law_due, defScope S__law_due⟩) rfl
  obtain ⟨_, _, _, _, _, _, _, _, _, l32, c32, k32⟩ := c.def_ 32 (d := ⟨fun K => (He.ga K "_law_right"), "_law_right", "_law_right", defArgs S__law_right, defBody S__law_right, defScope S__law_right⟩) rfl
  obtain ⟨_, _, _, _, _, _, _, _, _, l33, c33, k33⟩ := c.def_ 33 (d := ⟨fun K => (He.ga K "law"), "law", "law", defArgs S_law, defBody S_law, defScope S_law⟩) rfl
  obtain ⟨_, cg1⟩ := intC_ok q66
  obtain ⟨_, cg2⟩ := intC_ok q67
  obtain ⟨_, cg3⟩ := intC_ok q68
  obtain ⟨_, cg4⟩ := strC_ok q69
  obtain ⟨_, cg5⟩ := intC_ok q70
  exact all_mk X G hfa (He.eqO_ok q0) lk_BadText rv_BadText (He.eqO_ok q2) (of_decide_eq_true q4) (of_decide_eq_true q5) q3 (He.eqO_ok q6) (He.eqO_ok q7) (He.eqO_ok q8) (of_decide_eq_true q9) q10 (iniB_ok q11) (He.eqO_ok q12) (He.eqO_ok q13) (He.eqO_ok q14) (He.eqO_ok q15) (He.eqO_ok q16) (He.eqO_ok q17) (He.eqO_ok q18) q19 (He.eqO_ok q20) (He.eqO_ok q21) (He.eqO_ok q22) (He.eqO_ok q23) (of_decide_eq_true q24) (of_decide_eq_true q25) q26 (of_decide_eq_true q27) (of_decide_eq_true q28) (of_decide_eq_true q29) (He.eqO_ok q30) l0 c0 k0 (He.eqO_ok q31) l1 c1 k1 (He.eqO_ok q32) l2 c2 k2 (He.eqO_ok q33) l3 c3 k3 (He.eqO_ok q34) (of_decide_eq_true q35) l4 c4 k4 (He.eqO_ok q36) l5 c5 k5 (He.eqO_ok q37) l6 c6 k6 (He.eqO_ok q38) l7 c7 k7 (He.eqO_ok q39) l8 c8 k8 (He.eqO_ok q40) l9 c9 k9 (He.eqO_ok q41) l10 c10 k10 (He.eqO_ok q42) l11 c11 k11 (He.eqO_ok q43) l12 c12 k12 (He.eqO_ok q44) l13 c13 k13 (He.eqO_ok q45) l14 c14 k14 (He.eqO_ok q46) l15 c15 k15 (He.eqO_ok q47) l16 c16 k16 (He.eqO_ok q48) l17 c17 k17 (He.eqO_ok q49) l18 c18 k18 (He.eqO_ok q50) l19 c19 k19 (He.eqO_ok q51) l20 c20 k20 (He.eqO_ok q52) l21 c21 k21 (He.eqO_ok q53) l22 c22 k22 (He.eqO_ok q54) l23 c23 k23 (He.eqO_ok q55) l24 c24 k24 (He.eqO_ok q56) l25 c25 k25 (He.eqO_ok q57) l26 c26 k26 (He.eqO_ok q58) l27 c27 k27 (He.eqO_ok q59) l28 c28 k28 (He.eqO_ok q60) l29 c29 k29 (He.eqO_ok q61) l30 c30 k30 (He.eqO_ok q62) l31 c31 k31 (He.eqO_ok q63) l32 c32 k32 (He.eqO_ok q64) l33 c33 k33 (He.eqO_ok q65) cg1 cg2 cg3 cg4 cg5 (He.eqO_ok q71) (He.eqO_ok q72) (He.eqO_ok q73) (He.eqO_ok q74) (He.eqO_ok q75) (He.eqO_ok q76) (He.eqO_ok q77) (He.eqO_ok q78) (He.eqO_ok q79) (He.eqO_ok q80) (He.eqO_ok q81) (He.eqO_ok q82) (He.eqO_ok q83)
end Ob
open PySem PySem.W PySem.Calls PyProof.Rows
set_option maxRecDepth 100000 in
set_option maxHeartbeats 0 in
theorem PySem.Challenge.cw_onecut_k63_texts_refused_holds : PySem.Challenge.rw_onecut_k63_texts_refused.Holds := by
  w_on; o_law
  refine HandSHeadRun.head_imp (r := OpenLaw.row PySem.Challenge.rw_onecut_k63_texts_refused) (q := view (OpenLaw.row PySem.Challenge.rw_onecut_k63_texts_refused).prog [0, 51]) (H := Ob.hkH) (ob := Ob.obH) (M := 12000) (loose := Ob.lsH) (d := HandSHeadRun.topDef (OpenLaw.row PySem.Challenge.rw_onecut_k63_texts_refused).prog 51) (kwd := []) Ob.obH_eq
    Ob.runH (by kernel_rfl) (by kernel_rfl) (by kernel_rfl) (by rfl) (by first | assumption | decide +kernel) (by decide +kernel) ⟨rfl, rfl, rfl, rfl, rfl, by decide +kernel⟩ ?hw ?hc
  case hw => w_witness2
  case hc =>
    refine Ob.walk_gE (l := PySem.Challenge.rw_onecut_k63_texts_refused) (n := 63) (k := 9) (x := "_law_script") (CX := L2.CX0) rfl (by decide) (by kernel_rfl) ⟨rfl, by decide, by decide⟩ ?F (fun _ _ _ _ z => z)
    intro w mg fa h Y G hmg0
    obtain ⟨K, KX, c⟩ := Y
    have hmg : mg ("law" : PySem.Str) = some (.ref fa) := by
      have e : (HandSHeadRun.topDef (OpenLaw.row PySem.Challenge.rw_onecut_k63_texts_refused).prog 51).name = ("law" : PySem.Str) := by kernel_rfl
      rw [← e]
      exact hmg0
    obtain ⟨fd, hb, hF⟩ := Ob.factsH (l := PySem.Challenge.rw_onecut_k63_texts_refused) (w := w) KX G hmg c
    exact ⟨K, fd, Ob.sp_law K, KX, hb, fun H a ns hl _ o hS => ⟨a, ns, rfl, Ob.Scr.of o hS, hl, fun _ => rfl⟩, hF⟩

