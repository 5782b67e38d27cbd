import PyProof.Rows.All
import Wide.All
import OpenK.AllK
import Wide.FinOn
import HandS.ForMost
import HandS.Wide
import HandS.Gcd
import HandS.EndBits
import HandS.IsInst
import HandS.Flow
import HandS.Flt
import HandS.FStrTup
import HandS.Style
import HandS.HeadHook1
import HandS.HeadHook2
import HandS.Head0
import HandS.Head1
import HandS.Head2
import HandS.Head3
import HandS.HeadEnd
import HandS.HeadNt
import HandS.RaiseMore
import HandS.Rev
import HandS.NoneIn
import KE.DatumOrd
import HandS.SortKw
import HandS.Steps
import HandS.Conv
import KE.GoesMore
import HandS.WideBits
import HandS.Strs
import PyProof.Rows.SetFrom
import HandS.ForDict
import HandS.ListItems
import HandS.TupAny
import HandS.Deep
import HandS.ExcInit
import HandS.ExcOwn
import HandS.CallSlots
import HandS.TryOnly
import HandS.WordsExc
import HandS.FStr
import HandS.TryMany
import HandS.ExcField
import HandS.ClsMeth
import KE.KExcIs
import KE.KMathG
import HandS.SortInts
import HandS.Iter
import PyProof.LongRange
import HandS.Dict
import HandS.DictComp
import HandS.Exc
import HandS.More
import PySem.Challenge.RW_onecut_k76_papers_of_plans
set_option Elab.async false
set_option linter.all false
set_option maxRecDepth 100000
set_option exponentiation.threshold 10000
set_option maxHeartbeats 4000000
/-! Defs that may show data by repr: a promise that is asked only where nothing is being shown. -/
namespace Ob
open PySem PySem.Spec PyProof.Rows L2
structure FnG (P : Program) (w : World) (K : PySem.W.Frag) (mg : Str → Option Value) (base : Heap) (CX : CXT) (k : Nat) (f : Addr) (fd : FuncData) (ps : List Str) (sp : Sp) : Prop where
  ar : ∀ vs H Q E, sp vs H Q E → vs.length = ps.length
  go : ∀ (A : Around) (outer : List Env) (s : Shared) (H : Hp) (args : Args) (us : List Value) (vs : List V) (Q : VK) (E : XK), A.guards = some [] → Room k A → Env0 P w K mg base A outer s H →
    BindsTo s fd args (ps.zip us) → Vals vs us → sp vs H Q E → codeAny (model P w) A (.call (.ref f) args) (CR CX outer P w H s Q E) s
section
variable {P : Program} {w : World} {K : PySem.W.Frag} {mg : Str → Option Value} {base : Heap} {CX : CXT}
theorem FnG.up {j k : Nat} {f : Addr} {fd : FuncData} {ps : List Str} {sp : Sp} (F : FnG P w K mg base CX j f fd ps sp) (h : j ≤ k) : FnG P w K mg base CX k f fd ps sp :=
  ⟨F.ar, fun A o s H args us vs Q E hg hr => F.go A o s H args us vs Q E hg (hr.mono h)⟩
/-- a def of the text by its body -/
theorem Fun_okG {x qual : Str} {st : Stmt} {f : Addr} {fd : FuncData} {N ps : List Str} {k : Nat} {sp : Sp} (F : Fun K x qual st f fd) (S : FnScope N ps (defScope st)) (ar : ∀ vs H Q E, sp vs H Q E → vs.length = ps.length)
    (body : ∀ (c : Value) (A : Around) (outer : List Env) (s : Shared) (H : Hp) (vs : List V) (Q : VK) (E : XK), A.guards = some [] → Room k (A.deeper (envOfC qual (defScope st) s.heap.objs.size f c)) → sp vs H Q E →
      ∃ t, PSs (cxOf CX P w K mg base N qual (defScope st) f c A outer s H E).nox (defBody st) t ∧ t { nx := fun _ J => Q .non J, rt := Q } (start N vs) H) : FnG P w K mg base CX (k + 1) f fd ps sp := by
  obtain ⟨oc, od, kV, doc, pm, an, c, ct, osl, rfl, look, code⟩ := F.ex
  refine ⟨ar, fun A outer s H args us vs Q E hg hr e0 bnd rv hs => ?_⟩
  have count := ar _ _ _ _ hs
  have kept : ∀ b o, base.get? b = some o → s.heap.get? b = some o := fun b o e => (e0.bs b o e).1
  have inK : K.In s.heap := e0.mod.kin.keeps kept
  refine codeAny_call_function hr.depth (inK _ _ look) rfl S.co S.gen rfl (PySem.W.codeRec_of inK code) (bnd _ _ _ _ ?_)
  refine wpAny_newFunctionEnv_cells S.kind (fun y hy => (S.par y.1 (List.of_mem_zip (show (y.1, y.2) ∈ ps.zip us from hy)).1).imp id fun q => ⟨q, PySem.W.cellsFrom_some _ _ _ (.inl q)⟩) fun env he s1 x => ?_
  subst he
  obtain ⟨t, ht, hq⟩ := body c A outer s H vs Q E hg (hr.deeper _) hs
  have I : Inv (cxOf CX P w K mg base N qual (defScope st) f c A outer s H E) [] (start N vs) H s1 := inv_start S hr.hd e0 count rv x
  refine ⟨(e0.mod.nolimit.keeps kept).keeps x.toInCall.keep, codeAny_func (wpAny_mono (ht.nox.run [] s1 (start N vs) H _ I hq) (fun fl s' z => ?_) fun e s' z => z)⟩
  cases fl with
  | next => exact (let ⟨σ', J, I', q⟩ := z; ⟨V.non, J, I'.os, I'.bare, I'.base, I'.hok, rfl, q⟩)
  | ret u => exact (let ⟨v, σ', J, I', r', q⟩ := z; ⟨v, J, I'.os, I'.bare, I'.base, I'.hok, r', q⟩)
  | brk => exact (let ⟨_, _, _, q⟩ := z; False.elim q)
  | cont => exact (let ⟨_, _, _, q⟩ := z; False.elim q)
end
section
variable {X : Cx} {CX : CXT} {k : Nat} {f : Addr} {fd : FuncData} {ps : List Str} {sp : Sp} {ds : List Value} {dvs : List V} {E : XK}
theorem run_g {pins : List (Addr × Obj)} {σ : L2.St} {H : Hp} {s : Shared} {Q : VK} {us : List Value} {vs : List V} (F : FnG X.prog X.w X.K X.mg X.base CX k f fd ps sp) (hg : X.A.guards = some []) (hr : Room k X.A) (hb : Binds X.K fd ps ds) (hd : Vals dvs ds) (hx : Passes CX X E)
    (I : Inv X pins σ H s) (rv : Vals vs us) (hs : sp (vs ++ dvs) H Q E) : wpAny (model X.prog X.w) X.A (call (.ref f) us) (EP X pins σ Q) X.xe s := by
  have all := rv.append hd
  refine wpAny_call (codeAny_mono (F.go X.A X.stack s H ⟨us, []⟩ (us ++ ds) (vs ++ dvs) Q E hg hr I.env0 (hb s us I.kIn (all.length ▸ F.ar _ _ _ _ hs)) all hs) fun r s' z => ?_)
  match r, z with
  | .error e, z => exact hx pins σ H s e s' I z
  | .ok (.ret u), z => exact I.after z
variable {x : Str} {e : Expr} {es : List Expr} {t : TA} {p pos : Pos}
/-- f(e, ..) -/
theorem pe_g (F : FnG X.prog X.w X.K X.mg X.base CX k f fd ps sp) (hg : X.A.guards = some []) (hr : Room k X.A) (gl : Gl X x) (hm : X.mg x = some (.ref f)) (hk : PySem.W.keepIn X.K (.ref f) = true) (hb : Binds X.K fd ps ds) (hd : Vals dvs ds) (hx : Passes CX X E)
    (ha : PA X (e :: es) t) (hdb : (x == ("__debug__" : Str)) = false := by decide) (he : starEach (e :: es) X.env = (false, eval e X.env) :: starEach es X.env := by rfl) (hpl : (backTo pos (starEach es X.env)).any (·.1) = false := by rfl) :
    PE X (.Call (.Name x p) (e :: es) [] pos) (tCall sp dvs E t) :=
  ⟨fun pins s σ H Q I h => wpAny_Call_Name_kw (ld_glob I gl hm (PySem.W.callWith_K (h₀ := X.base) I.ok.mod.kin hk (thn (ha.run pos pins s σ H _ I h) fun us s1 z => let ⟨vs, J, I1, rv, q⟩ := z; ⟨I1.kIn, run_g F hg hr hb hd hx I1 rv q⟩) he hpl) hdb)⟩
end
/-! ### the law's call -/
section
variable {P : Program} {w : World} {K : PySem.W.Frag} {mg mb : Str → Option Value} {CX : CXT} {k : Nat} {fa a : Addr} {fd : FuncData} {x : Str} {sp : Sp} {s₁ : Shared} {vs : List Value} {ns : List Int}
def LawEnd (s₁ : Shared) : Result → Shared → Prop := fun r s' => r = .ok (.ret (.bool true)) ∧ OldK s₁.heap s'.heap ∧ s'.os = s₁.os ∧ AllBare s'.gens
/-- H tracks at most the script, locked -/
theorem law_at (H : Hp) (inK : K.In s₁.heap) (hns : s₁.heap.Ns mainGlobals mg) (hb : s₁.heap.Ns builtinsNs mb) (hbb : ∀ x : Str, x ≠ "__name__" → mb x = bootBuiltins x) (hlim : s₁.heap.NoLimit) (hg : s₁.gens = #[])
    (ha : s₁.heap.get? a = some { cls := .type "list", data := .seq vs.toArray }) (hr : Room k callerA)
    (F : ∀ base : Heap, K.In base → base.Ns mainGlobals mg → FnG P w K mg base CX k fa fd [x] sp) (hbind : ∀ (s : Shared) (u : Value), BindsTo s fd ⟨[u], []⟩ [(x, u)])
    (hs : sp [.ref a] H (fun v _ => v = .bl true) fun _ _ _ => False) (hCX : ∀ e s', CX [] H s₁ (fun _ _ _ => False) e s' → False)
    (hO : Only H) (ok : HOk P w H s₁.heap) (only : ∀ b, H b ≠ none → b = a) (free : H a ≠ none → K.lookup a = none) : codeAny (model P w) callerA (.call (.ref fa) ⟨[.ref a], []⟩) (LawEnd s₁) s₁ := by
  have out : ∀ {b o}, s₁.heap.get? b = some o → ((H b ≠ none → b = a) → H b ≠ none → False) → (hidT s₁.heap H).get? b = some o := fun {b o} e no => hidT_get e (Classical.byContradiction fun n => no (only b) n)
  have names : ∀ {b m}, s₁.heap.Ns b m → (hidT s₁.heap H).Ns b m := fun {b m} z => let ⟨o, es, ep, e, d, r⟩ := z; ⟨o, es, ep, out e (fun g n => by
    obtain rfl := g n
    cases ha.symm.trans e
    cases d), d, r⟩
  have written : K.In (hidT s₁.heap H) := fun b o e => out (inK b o e) fun g n => by
    obtain rfl := g n
    cases (free n).symm.trans e
  have env : Env0 P w K mg (hidT s₁.heap H) callerA [] s₁ H :=
    ⟨rfl, ⟨written, names hns, ⟨mb, names hb, hbb⟩, let ⟨m, p, q⟩ := hlim; ⟨m, names p, q⟩⟩, fun _ _ e => of_hidT e, Nat.le_of_eq (hidT_size _ _), trivial, (fun _ z => absurd z (by simp [frs])), ok, AllBare.of_eq hg⟩
  refine codeAny_mono ((F _ written (names hns)).go callerA [] s₁ H ⟨[.ref a], []⟩ [.ref a] [.ref a] _ _ rfl hr env (hbind s₁ (.ref a)) (.cons rfl .nil) hs) fun r s' z => ?_
  match r, z with
  | .error e, z => exact (hCX e s' z).elim
  | .ok (.ret u), z =>
    obtain ⟨v, J, os, bare, un, ok', rel, rfl⟩ := z
    obtain rfl : u = Value.bool true := rel
    refine ⟨rfl, OldK.of_keep fun b o e => ?_, os, bare⟩
    rcases hO b with n | ⟨ob, xs, n⟩
    · exact un.keep b o e n (fun z => absurd z (by simp [frs])) (by simp)
    · have h1 := (ok b _ n).1
      cases e.symm.trans h1
      exact (ok' b _ (un.frzs b _ _ n)).1
theorem law_g (inK : K.In s₁.heap) (hns : s₁.heap.Ns mainGlobals mg) (hb : s₁.heap.Ns builtinsNs mb) (hbb : ∀ x : Str, x ≠ "__name__" → mb x = bootBuiltins x) (hlim : s₁.heap.NoLimit) (hg : s₁.gens = #[])
    (ha : s₁.heap.get? a = some { cls := .type "list", data := .seq vs.toArray }) (hi : IntsAre vs ns) (hl : ns.length ≤ sizeLine) (hr : Room k callerA)
    (F : ∀ base : Heap, K.In base → base.Ns mainGlobals mg → FnG P w K mg base CX k fa fd [x] sp) (hbind : ∀ (s : Shared) (u : Value), BindsTo s fd ⟨[u], []⟩ [(x, u)])
    (hs : ∀ H : Hp, Only H → SqL K H a (ns.map V.int) → sp [.ref a] H (fun v _ => v = .bl true) fun _ _ _ => False)
    (hCX : ∀ H e s', CX [] H s₁ (fun _ _ _ => False) e s' → False) : codeAny (model P w) callerA (.call (.ref fa) ⟨[.ref a], []⟩) (LawEnd s₁) s₁ := by
  have rv := vals_ints hi
  have many : vs.length = ns.length := by have := hi.length; omega
  have put : ∀ H : Hp, Only H → SqL K H a (ns.map V.int) → HOk P w H s₁.heap → (∀ b, H b ≠ none → b = a) → (H a ≠ none → K.lookup a = none) → codeAny (model P w) callerA (.call (.ref fa) ⟨[.ref a], []⟩) (LawEnd s₁) s₁ :=
    fun H o q ok g f => law_at H inK hns hb hbb hlim hg ha hr F hbind (hs H o q) (hCX H) o ok g f
  cases kl : K.lookup a with
  | some o =>
    cases ha.symm.trans (inK a o kl)
    exact put (fun _ => none) (fun _ => .inl rfl) (.inr ⟨_, vs.toArray, _, kl, rfl, rfl, rfl, by rw [List.size_toArray, many]; exact hl, by simpa using rv⟩) (fun _ _ z => by cases z) (fun _ z => absurd rfl z) fun z => absurd rfl z
  | none =>
    have at_a : ∀ {b : Addr}, b = a → (fun b => if b = a then some (HO.frz { cls := .type "list", data := .seq vs.toArray } (.lst (ns.map V.int))) else none) b = some (HO.frz { cls := .type "list", data := .seq vs.toArray } (.lst (ns.map V.int))) := fun e => if_pos e
    have off_a : ∀ {b : Addr}, b ≠ a → (fun b => if b = a then some (HO.frz { cls := .type "list", data := .seq vs.toArray } (.lst (ns.map V.int))) else none) b = none := fun e => if_neg e
    refine put _ (fun b => ?_) (.inl (.inr ⟨_, at_a rfl⟩)) (fun b u z => ?_) (fun b z => Classical.byContradiction fun n => z (off_a n)) fun _ => kl
    · by_cases e : b = a
      · exact .inr ⟨_, _, at_a e⟩
      · exact .inl (off_a e)
    · by_cases e : b = a
      · cases (at_a e).symm.trans z
        subst e
        exact ⟨ha, by rw [List.length_map]; exact hl, vs, _, rv, ha⟩
      · cases (off_a e).symm.trans z
end
end Ob
namespace Ob
open PySem PySem.Spec PyProof.Rows L2
/-! ### repr of data -/
mutual
def sz : PyData → Nat
  | .none => 4
  | .bool _ => 5
  | .int i => i.natAbs.log2 + 2
  | .str _ => 0
  | .list xs => szs xs + 2
  | .tuple xs => szs xs + 2
  | .dict _ => 0
def szs : List PyData → Nat
  | [] => 0
  | x :: xs => sz x + 2 + szs xs
end
mutual
/-- no texts, no dicts; ints below 1,900 bits -/
def sm : PyData → Bool
  | .none => true
  | .bool _ => true
  | .int i => decide (i.natAbs.log2 < 1900)
  | .str _ => false
  | .list xs => sms xs
  | .tuple xs => sms xs
  | .dict _ => false
def sms : List PyData → Bool
  | [] => true
  | x :: xs => sm x && sms xs
end
theorem list_le (ts : List Str) : (listText ts).length ≤ piled ts + 2 := by
  cases ts with
  | nil => decide +kernel
  | cons t r =>
    have h := textFrom_length_pos r 1 (("[" : Str) ++ (if (0 : Nat) > 0 then ", " else "" : String) ++ t) (Nat.succ_pos 0)
    have e : ((("[" : Str) ++ (if (0 : Nat) > 0 then ", " else "" : String) ++ t)).length = 1 + t.length := by rw [strLen_append, strLen_append] <;> rfl
    have e2 : (listText (t :: r)).length = (textFrom 1 (("[" : Str) ++ (if (0 : Nat) > 0 then ", " else "" : String) ++ t) r).length + 1 := strLen_append _ _
    rw [e2, h, e, piled_cons]
    omega
mutual
theorem shown_le : ∀ d : PyData, sm d = true → d.shown.length ≤ sz d ∧ d.showable = true ∧ d.hasDict = false
  | .none, _ => ⟨by decide +kernel, by simp [PyData.showable], by simp [PyData.hasDict]⟩
  | .bool b, _ => ⟨by cases b <;> decide +kernel, by simp [PyData.showable], by simp [PyData.hasDict]⟩
  | .int i, h => by
    have h1 : i.natAbs.log2 < 1900 := by simpa [sm] using h
    refine ⟨?_, by simp [PyData.showable]; omega, by simp [PyData.hasDict]⟩
    have e := int_text_length_le (a := i) (k := i.natAbs.log2 + 1) (by omega) (by omega)
    have e3 : (PyData.int i).shown = Str.ofString (toString i) := by simp only [PyData.shown]
    rw [e3, PySem.ofString_length, sz]
    omega
  | .str _, h => by simp [sm] at h
  | .dict _, h => by simp [sm] at h
  | .list xs, h => by
    have q := showns_le xs (by simpa [sm] using h)
    refine ⟨?_, by simp [PyData.showable, q.2.1], by simp [PyData.hasDict, q.2.2]⟩
    have e := list_le (PyData.shownAll xs)
    simp only [PyData.shown, sz]
    omega
  | .tuple xs, h => by
    have q := showns_le xs (by simpa [sm] using h)
    refine ⟨?_, by simp [PyData.showable, q.2.1], by simp [PyData.hasDict, q.2.2]⟩
    have e := fmt_text (PyData.shownAll xs)
    simp only [PyData.shown, sz]
    omega
theorem showns_le : ∀ xs : List PyData, sms xs = true → piled (PyData.shownAll xs) ≤ szs xs ∧ PyData.showableAll xs = true ∧ PyData.hasDictAll xs = false
  | [], _ => ⟨Nat.zero_le _, by simp [PyData.showableAll], by simp [PyData.hasDictAll]⟩
  | x :: xs, h => by
    have h2 : sm x = true ∧ sms xs = true := by simpa [sms] using h
    have p := shown_le x h2.1
    have q := showns_le xs h2.2
    refine ⟨?_, by simp [PyData.showableAll, p.2.1, q.2.1], by simp [PyData.hasDictAll, p.2.2, q.2.2]⟩
    have e : PyData.shownAll (x :: xs) = x.shown :: PyData.shownAll xs := by simp only [PyData.shownAll]
    rw [e, piled_cons, szs]
    omega
end
def rRepr (K : PySem.W.Frag) : List V → Hp → VK → Prop := fun xs H Q => ∃ (a : Addr) (d : PyData), xs = [.ref a] ∧ Dp K H (.ref a) d ∧ sm d = true ∧ sz d ≤ 1000000 ∧ d.depth ≤ 50 ∧ Q (.str d.shown) H
section
variable {X : Cx}
/-- // by any number but 0 below 2 ^ 9000 -/
def CDv (_ j : Int) : Prop := j ≠ 0 ∧ j.natAbs < 2 ^ 9000
theorem op_dv : OpR X (binaryOp .FloorDiv) (rI CDv fun i j => .int (i.fdiv j)) := opI fun _ _ _ _ _ _ _ hc q => floordiv_int hc.1 q (.inl (PyProof.noPylong_of_log2 (PySem.Flt.log2_lt_of (by decide) hc.2)))
end
/-! ### bounds by powers of two -/
def Bd (n : Nat) (x : Int) : Prop := x.natAbs < 2 ^ n
theorem Bd.mono {m n : Nat} {x : Int} (h : Bd m x) (k : m ≤ n) : Bd n x := Nat.lt_of_lt_of_le h (Nat.pow_le_pow_right (by decide) k)
theorem Bd.mul {m n : Nat} {x y : Int} (h : Bd m x) (k : Bd n y) : Bd (m + n) (x * y) := wide_lt h k
theorem Bd.neg {n : Nat} {x : Int} (h : Bd n x) : Bd n (-x) := by unfold Bd; rw [Int.natAbs_neg]; exact h
theorem Bd.add {n : Nat} {x y : Int} (h : Bd n x) (k : Bd n y) : Bd (n + 1) (x + y) := by
  unfold Bd at *
  have e : 2 ^ (n + 1) = 2 ^ n + 2 ^ n := by rw [Nat.pow_succ]; omega
  have := Int.natAbs_add_le x y
  omega
theorem Bd.sub {n : Nat} {x y : Int} (h : Bd n x) (k : Bd n y) : Bd (n + 1) (x - y) := by
  have q := h.add k.neg
  rwa [← Int.sub_eq_add_neg] at q
theorem Bd.log {n : Nat} {x : Int} (h : Bd n x) (h0 : 0 < n := by decide) : x.natAbs.log2 < n := PySem.Flt.log2_lt_of h0 h
theorem Bd.le {n : Nat} {x y : Int} (h : Bd n y) (k : x.natAbs ≤ y.natAbs) : Bd n x := Nat.lt_of_le_of_lt k h
theorem Bd.lit {n : Nat} {x : Int} (h : decide (x.natAbs < 2 ^ n) = true) : Bd n x := by unfold Bd; exact of_decide_eq_true h
theorem Bd.cmul {m n : Nat} {x y : Int} (h : Bd m x) (k : Bd n y) (h0 : 0 < m := by decide) (h1 : 0 < n := by decide) (hs : m + n ≤ 1000000 := by decide) : CMulW x y := wide_mul h k h0 h1 hs
end Ob
namespace Ob
open PySem PySem.Spec PyProof.Rows L2
/-! ### readings, one step each -/
def rLen (K : PySem.W.Frag) : List V → Hp → VK → Prop := fun xs H Q => ∃ p ys, xs = [.ref p] ∧ (SqL K H p ys ∨ SqT K H p ys) ∧ Q (.int ys.length) H
section
variable {K : PySem.W.Frag} {σ : L2.St} {H : Hp} {D : Ends} {te ta tb : TE} {tt uu : TT} {tr : TA} {tl : TA} {Q : VK} {R : Bool → Hp → Prop} {T : List V → Hp → Prop} {v : V} {s1 s2 : TS}
theorem rd_var {i : Nat} (h : σ[i]? = some (some v)) (q : Q v H) : tVar i σ H Q := ⟨v, h, q⟩
theorem rd_c (q : Q v H) : tC v σ H Q := q
theorem rd_nil (q : T [] H) : tNil σ H T := q
theorem rd_cons (q : ta σ H fun x H1 => tl σ H1 fun xs H2 => T (x :: xs) H2) : tCons ta tl σ H T := q
theorem rd_op {r : R2} (q : ta σ H fun x H1 => tb σ H1 fun y H2 => r x y H2 Q) : tOp r ta tb σ H Q := q
theorem rd_un {r : V → Hp → VK → Prop} (q : ta σ H fun x H1 => r x H1 Q) : tUn r ta σ H Q := q
theorem rd_I0 {g : Int → Int → V} {i j : Int} (q : Q (g i j) H) : rI0 g (.int i) (.int j) H Q := ⟨i, j, rfl, rfl, q⟩
theorem rd_I {C : Int → Int → Prop} {g : Int → Int → V} {i j : Int} (c : C i j) (q : Q (g i j) H) : rI C g (.int i) (.int j) H Q := ⟨i, j, rfl, rfl, c, q⟩
theorem rd_U {g : Int → V} {i : Int} (q : Q (g i) H) : rU g (.int i) H Q := ⟨i, rfl, q⟩
theorem rd_eqI {i j : Int} (q : Q (.bl (decide (i = j))) H) : rEq (.int i) (.int j) H Q := ⟨rfl, by
  have e : decide (V.int i = V.int j) = decide (i = j) := by
    by_cases h : i = j
    · rw [decide_eq_true h, decide_eq_true (by rw [h])]
    · rw [decide_eq_false h, decide_eq_false fun z => h (V.int.inj z)]
  rw [e]
  exact q⟩
theorem rd_neI {i j : Int} (q : Q (.bl (!decide (i = j))) H) : rNe (.int i) (.int j) H Q := ⟨rfl, by
  have e : decide (V.int i = V.int j) = decide (i = j) := by
    by_cases h : i = j
    · rw [decide_eq_true h, decide_eq_true (by rw [h])]
    · rw [decide_eq_false h, decide_eq_false fun z => h (V.int.inj z)]
  rw [e]
  exact q⟩
theorem rd_same {x : V} (h : scal x x = true) (q : Q (.bl true) H) : rEq x x H Q := ⟨h, by rw [decide_eq_true rfl]; exact q⟩
theorem rd_nsame {x : V} (h : scal x x = true) (q : Q (.bl false) H) : rNe x x H Q := ⟨h, by rw [decide_eq_true rfl]; exact q⟩
theorem rd_test (q : te σ H fun x H' => ∃ k, x = .bl k ∧ R k H') : tTest te σ H R := q
theorem rd_B (q : te σ H fun x H' => ∃ k, x = .bl k ∧ R k H') : tB te σ H R := q
theorem rd_bl {c : Bool} {R : Bool → Prop} (q : R c) : ∃ k, V.bl c = V.bl k ∧ R k := ⟨c, rfl, q⟩
theorem rd_not (q : tt σ H fun c H1 => R (!c) H1) : tNot tt σ H R := q
theorem rd_and (q : tt σ H fun c H1 => if c = true then uu σ H1 R else R false H1) : tAnd tt uu σ H R := q
theorem rd_or (q : tt σ H fun c H1 => if c = true then R true H1 else uu σ H1 R) : tOr tt uu σ H R := q
theorem rd_andV (q : ta σ H fun x H1 => ∃ c, x = .bl c ∧ if c = true then tb σ H1 Q else Q (.bl false) H1) : tAndV ta tb σ H Q := q
theorem rd_orV (q : ta σ H fun x H1 => ∃ c, x = .bl c ∧ if c = true then Q (.bl true) H1 else tb σ H1 Q) : tOrV ta tb σ H Q := q
theorem rd_notV (q : ta σ H fun x H1 => ∃ c, x = .bl c ∧ Q (.bl (!c)) H1) : tNotV ta σ H Q := q
theorem rd_ifE (q : tt σ H fun c H1 => if c = true then ta σ H1 Q else tb σ H1 Q) : tIf tt ta tb σ H Q := q
theorem rd_tup (q : tl σ H fun xs H1 => xs.length ≤ sizeLine ∧ ∀ p, H1 p = none → Q (.ref p) (upd H1 p (.tup xs))) : tTup tl σ H Q := q
theorem rd_lst (q : tl σ H fun xs H1 => xs.length ≤ sizeLine ∧ ∀ p, H1 p = none → Q (.ref p) (upd H1 p (.lst xs))) : tLst tl σ H Q := q
theorem rd_new {xs : List V} {A : Prop} (h : Nat.ble xs.length 1000 = true) (q : A) : xs.length ≤ sizeLine ∧ A := ⟨Nat.le_of_lt (small1000 (Nat.le_of_ble_eq_true h)), q⟩
def kT (Q : VK) (xs : List V) (H : Hp) : Prop := xs.length ≤ sizeLine ∧ ∀ p, H p = none → Q (.ref p) (upd H p (.tup xs))
def kL (Q : VK) (xs : List V) (H : Hp) : Prop := xs.length ≤ sizeLine ∧ ∀ p, H p = none → Q (.ref p) (upd H p (.lst xs))
theorem rd_tupK (q : tl σ H fun xs H1 => kT Q xs H1) : tTup tl σ H Q := q
theorem rd_lstK (q : tl σ H fun xs H1 => kL Q xs H1) : tLst tl σ H Q := q
theorem rd_kT {xs : List V} (h : Nat.ble xs.length 1000 = true) (q : ∀ p J, H p = none → Same H J → J p = some (.tup xs) → Q (.ref p) J) : kT Q xs H :=
  ⟨Nat.le_of_lt (small1000 (Nat.le_of_ble_eq_true h)), fun p np => q p _ np (fun a u e => by rw [upd_ne (ne_of_none e np)]; exact e) upd_same⟩
theorem rd_kL {xs : List V} (h : Nat.ble xs.length 1000 = true) (q : ∀ p J, H p = none → Same H J → J p = some (.lst xs) → Q (.ref p) J) : kL Q xs H :=
  ⟨Nat.le_of_lt (small1000 (Nat.le_of_ble_eq_true h)), fun p np => q p _ np (fun a u e => by rw [upd_ne (ne_of_none e np)]; exact e) upd_same⟩
theorem rd_call {sp : Sp} {dvs : List V} {E : XK} (q : tl σ H fun vs H1 => sp (vs ++ dvs) H1 Q E) : tCall sp dvs E tl σ H Q := q
theorem rd_CB {r : List V → Hp → VK → Prop} (q : tl σ H fun vs H1 => r vs H1 Q) : tCB r tl σ H Q := q
theorem rd_one {i : Int} {R : Int → Prop} (q : R i) : ∃ j, [V.int i] = [V.int j] ∧ R j := ⟨i, rfl, q⟩
theorem rd_two {i j : Int} {R : Int → Int → Prop} (q : R i j) : ∃ k l, [V.int i, V.int j] = [V.int k, V.int l] ∧ R k l := ⟨i, j, rfl, q⟩
theorem rd_int {i : Int} {R : Int → Prop} {S : Bool → Prop} (q : R i) : (∃ j, [V.int i] = [V.int j] ∧ R j) ∨ ∃ k, [V.int i] = [V.bl k] ∧ S k := .inl ⟨i, rfl, q⟩
theorem rd_intB {b : Bool} {R : Int → Prop} {S : Bool → Prop} (q : S b) : (∃ j, [V.bl b] = [V.int j] ∧ R j) ∨ ∃ k, [V.bl b] = [V.bl k] ∧ S k := .inr ⟨b, rfl, q⟩
theorem rd_sxL {p : Addr} {xs : List V} {i : Int} (h : SqL K H p xs) (ha : atI xs i = some v) (q : Q v H) : rIx K (.ref p) (.int i) H Q := .inl ⟨p, xs, i, v, rfl, rfl, h, ha, q⟩
theorem rd_sxT {p : Addr} {xs : List V} {i : Int} (h : SqT K H p xs) (ha : atI xs i = some v) (q : Q v H) : rIx K (.ref p) (.int i) H Q := .inr (.inl ⟨p, xs, i, v, rfl, rfl, h, ha, q⟩)
theorem fmod_rng {x n : Int} (h : 0 < n) : 0 ≤ x.fmod n ∧ x.fmod n < n := by
  rw [Int.fmod_eq_emod_of_nonneg x (by omega)]
  exact ⟨Int.emod_nonneg x (by omega), Int.emod_lt_of_pos x h⟩
/-- a rest of which only the bounds matter -/
theorem rd_md {i j : Int} (c : 0 < j) (q : ∀ r, 0 ≤ r → r < j → Q (.int r) H) : rI (fun _ j => j ≠ 0) (fun i j => V.int (i.fmod j)) (.int i) (.int j) H Q :=
  ⟨i, j, rfl, rfl, by omega, q _ (fmod_rng c).1 (fmod_rng c).2⟩
def Lp (J : It) (g : TG) (tb : TS) (D : Ends) (σ : L2.St) (H : Hp) : Prop := ∃ W : Nat → Nat → L2.St → Hp → Prop, (∃ m, W 0 m σ H) ∧ ∀ i m σ H, W i m σ H →
  (J.stop i H ∧ D.nx σ H) ∨ (J.go i H ∧ ∃ N : L2.St → Hp → Prop, (∀ σ' H', N σ' H' → ∃ m', m' < m ∧ W (i + 1) m' σ' H') ∧ ∀ x H', J.yld i H x H' → g x σ H' fun σ2 H2 => tb { D with nx := N, ct := N, bk := D.nx } σ2 H2)
theorem rd_for1 {ta : TA} {g : TG} {tb : TS} (q : ta σ H fun vs H1 => ∃ j : Int, vs = [.int j] ∧ -(2 ^ 62) ≤ j ∧ j < 2 ^ 62 ∧ Lp (Itr 0 j.toNat) g tb D σ H1) : tFor (iRng1 ta) g tb D σ H := q
theorem rd_for1b {j : Int} {R : Int → Prop} (h : -(2 ^ 62) ≤ j ∧ j < 2 ^ 62) (q : R j) : ∃ k : Int, [V.int j] = [V.int k] ∧ -(2 ^ 62) ≤ k ∧ k < 2 ^ 62 ∧ R k := ⟨j, rfl, h.1, h.2, q⟩
theorem lp_rng {lo : Int} {n : Nat} {g : TG} {tb : TS} (Pv : Nat → L2.St → Hp → Prop) (h0 : Pv 0 σ H) (hs : ∀ i σ H, i < n → Pv i σ H → g (.int (lo + i)) σ H fun σ2 H2 => tb { D with nx := Pv (i + 1), ct := Pv (i + 1), bk := D.nx } σ2 H2)
    (hd : ∀ σ H, Pv n σ H → D.nx σ H) : Lp (Itr lo n) g tb D σ H := for_range Pv h0 hs hd
theorem rd_len {a : Addr} {ys : List V} (h : SqL K H a ys) (q : Q (.int ys.length) H) : rLen K [.ref a] H Q := ⟨a, ys, rfl, .inl h, q⟩
theorem rd_lenTu {a : Addr} {ys : List V} (h : SqT K H a ys) (q : Q (.int ys.length) H) : rLen K [.ref a] H Q := ⟨a, ys, rfl, .inr h, q⟩
theorem rd_repr {a : Addr} {d : PyData} (h : Dp K H (.ref a) d) (h1 : sm d = true) (h2 : sz d ≤ 1000000) (h3 : d.depth ≤ 50) (q : Q (.str d.shown) H) : rRepr K [.ref a] H Q := ⟨a, d, rfl, h, h1, h2, h3, q⟩
theorem rd_gtup {a : Addr} {xs : List V} {n : Nat} {t : TGs} {F : L2.St → Hp → Prop} (h : SqT K H a xs) (hn : xs.length = n) (q : t xs σ H F) : gTup K n t (.ref a) σ H F := ⟨a, xs, rfl, h, hn, q⟩
theorem rd_gcons {t : TG} {u : TGs} {w : V} {r : List V} {F : L2.St → Hp → Prop} (q : t w σ H fun σ' H' => u r σ' H' F) : gCons t u (w :: r) σ H F := ⟨w, r, rfl, q⟩
theorem rd_gnil {F : L2.St → Hp → Prop} (q : F σ H) : gNil [] σ H F := ⟨rfl, q⟩
theorem rd_isi {x : V} {n t : String} {b : Bool} (ty : TyX K H x (.type t)) (h : kitB t n = some b) (q : Q (.bl b) H) : rIsi K [x, .ty n] H Q := ⟨x, .ty n, _, _, b, rfl, .ty n, ty, kit_ty h, q⟩
theorem rd_isiI {i : Int} {n : String} {b : Bool} (h : kitB "int" n = some b) (q : Q (.bl b) H) : rIsi K [.int i, .ty n] H Q := rd_isi (.base (.int i)) h q
theorem rd_isiB {i : Bool} {n : String} {b : Bool} (h : kitB "bool" n = some b) (q : Q (.bl b) H) : rIsi K [.bl i, .ty n] H Q := rd_isi (.base (.bl i)) h q
theorem rd_isiN {n : String} {b : Bool} (h : kitB "NoneType" n = some b) (q : Q (.bl b) H) : rIsi K [.non, .ty n] H Q := rd_isi (.base .non) h q
theorem rd_isiS {i : Str} {n : String} {b : Bool} (h : kitB "str" n = some b) (q : Q (.bl b) H) : rIsi K [.str i, .ty n] H Q := rd_isi (.base (.str i)) h q
theorem rd_isiT {a : Addr} {xs : List V} {n : String} {b : Bool} (e : H a = some (.tup xs)) (h : kitB "tuple" n = some b) (q : Q (.bl b) H) : rIsi K [.ref a, .ty n] H Q := rd_isi (.base (.tup e)) h q
theorem rd_isiL {a : Addr} {xs : List V} {n : String} {b : Bool} (e : H a = some (.lst xs)) (h : kitB "list" n = some b) (q : Q (.bl b) H) : rIsi K [.ref a, .ty n] H Q := rd_isi (.base (.lst e)) h q
theorem rd_chain {r r' : R2} {tc : TE} (q : ta σ H fun x H1 => tb σ H1 fun y H2 => r x y H2 fun z H3 => ∃ k, z = .bl k ∧ if k = true then tc σ H3 fun w H4 => r' y w H4 Q else Q (.bl false) H3) : tChain r r' ta tb tc σ H Q := q
theorem rd_eqDs {x y : V} {d : PyData} (h : Dp K H x d) (k : Dp K H y d) (s : SeqAt.shaped d = true) (q : Q (.bl true) H) : rEqD K x y H Q := ⟨d, d, h, k, s, s, by rw [SeqAt.eqv_refl d (SeqAt.canLay_of_shaped s)]; exact q⟩
theorem rd_neDs {x y : V} {d : PyData} (h : Dp K H x d) (k : Dp K H y d) (s : SeqAt.shaped d = true) (q : Q (.bl false) H) : rNeD K x y H Q := ⟨d, d, h, k, s, s, by rw [SeqAt.eqv_refl d (SeqAt.canLay_of_shaped s)]; exact q⟩
theorem rd_cat {l b : Addr} {xs zs : List V} (h : H l = some (.lst xs)) (k : H b = some (.lst zs)) (hz : xs.length + zs.length ≤ 1000) (q : ∀ p, H p = none → Q (.ref p) (upd H p (.lst (xs ++ zs)))) : rCat (.ref l) (.ref b) H Q :=
  ⟨l, b, xs, zs, rfl, rfl, h, k, Nat.le_of_lt (small1000 hz), q⟩
theorem rd_rep {l : Addr} {k : Int} {xs ys : List V} (h : H l = some (.lst xs)) (h0 : 0 ≤ k ∧ k ≤ 1000) (hz : xs.length * k.toNat ≤ 1000) (e : (List.replicate k.toNat xs).flatten = ys) (q : ∀ p, H p = none → Q (.ref p) (upd H p (.lst ys))) : rRep (.ref l) (.int k) H Q := by
  subst e
  exact ⟨l, k, xs, rfl, rfl, h, by omega, by omega, Nat.le_of_lt (small1000 hz), q⟩
theorem rd_BM {T : String} {r : V → List V → Hp → VK → Prop} (q : te σ H fun x H1 => tyV K T x H1 ∧ tl σ H1 fun vs H2 => r x vs H2 Q) : tBM K T r te tl σ H Q := q
theorem rd_tyl {l : Addr} {xs : List V} {A : Prop} (h : H l = some (.lst xs)) (q : A) : tyV K "list" (.ref l) H ∧ A := ⟨.inl ⟨rfl, _, SqL.of h⟩, q⟩
theorem rd_app {l : Addr} {y : V} {xs : List V} (h : H l = some (.lst xs)) (hz : xs.length ≤ 1000) (q : Q .non (upd H l (.lst (xs ++ [y])))) : rAppend (.ref l) [y] H Q := ⟨l, xs, y, rfl, rfl, h, small1000 hz, q⟩
/-- what a comprehension's loop is to reach -/
def Lc (J : It) (g : TG) (tt : TT) (te : TE) (vs : List Nat) (σ : L2.St) (Qd : Hp → Prop) (H1 : Hp) (D : Addr) : Prop := ∃ W : Nat → Nat → Hp → Prop, (∃ m, W 0 m (upd H1 D (.lst []))) ∧ ∀ i m H, W i m H →
  (J.stop i H ∧ Qd H) ∨ (J.go i H ∧ ∃ Nx : Hp → Prop, (∀ H', Nx H' → ∃ m', m' < m ∧ W (i + 1) m' H') ∧ ∀ x H', J.yld i H x H' → g x (wipe σ vs) H' fun σ2 H2 => wipe σ2 vs = wipe σ vs ∧ tt σ2 H2 fun b H3 =>
    if b = true then te σ2 H3 fun y H4 => ∃ acc, H4 D = some (.lst acc) ∧ acc.length < sizeLine ∧ Nx (upd H4 D (.lst (acc ++ [y]))) else Nx H3)
theorem rd_lc {wi : TI} {g : TG} {vs : List Nat} (q : wi σ H fun J H1 => ∀ D, H1 D = none → Lc J g tt te vs σ (fun H' => Q (.ref D) H') H1 D) : tLc wi g tt te vs σ H Q := q
theorem rd_iTup {R : It → Hp → Prop} (q : te σ H fun x H1 => ∃ a, x = .ref a ∧ (∃ xs, SqT K H1 a xs) ∧ R (Itt K a) H1) : iTup K te σ H R := q
theorem rd_iTupA {a : Addr} {xs : List V} {R : Addr → Prop} (h : SqT K H a xs) (q : R a) : ∃ p, V.ref a = .ref p ∧ (∃ xs, SqT K H p xs) ∧ R p := ⟨a, rfl, ⟨xs, h⟩, q⟩
theorem rd_iLst {R : It → Hp → Prop} (q : te σ H fun x H1 => ∃ a, x = .ref a ∧ (∃ xs, SqL K H1 a xs) ∧ R (Itl K a) H1) : iList K te σ H R := q
theorem rd_iLstA {a : Addr} {xs : List V} {R : Addr → Prop} (h : SqL K H a xs) (q : R a) : ∃ p, V.ref a = .ref p ∧ (∃ xs, SqL K H p xs) ∧ R p := ⟨a, rfl, ⟨xs, h⟩, q⟩
theorem rd_iR1 {ta : TA} {R : It → Hp → Prop} (q : ta σ H fun vs H1 => ∃ j : Int, vs = [.int j] ∧ -(2 ^ 62) ≤ j ∧ j < 2 ^ 62 ∧ R (Itr 0 j.toNat) H1) : iRng1 ta σ H R := q
theorem upd_upd {D : Addr} {x y : HO} : upd (upd H D x) D y = upd H D y := by
  funext b
  unfold upd
  split <;> rfl
/-- [f(x) for x in t], t a tuple, f's heap as it was -/
theorem lc_mapT {a D : Addr} {xs : List V} (f : V → V) {i0 : Nat} {Qd : Hp → Prop} (hT : H a = some (.tup xs)) (hl : xs.length ≤ 1000) (hD : H D = none)
    (he : ∀ x, x ∈ xs → ∀ (l : List V) (R : VK), R (f x) (upd H D (.lst l)) → te ((σ.set i0 none).set i0 (some x)) (upd H D (.lst l)) R) (hd : Qd (upd H D (.lst (xs.map f)))) : Lc (Itt K a) (gName i0) tYes te [i0] σ Qd H D := by
  have ne : a ≠ D := ne_of_none hT hD
  refine lc_tup (xs := xs) (fun i J => i ≤ xs.length ∧ J = upd H D (.lst ((xs.take i).map f))) ⟨Nat.zero_le _, by rw [List.take_zero]; rfl⟩ (fun i J _ w => by
    rw [w.2]
    exact SqT.of (by rw [upd_ne ne]; exact hT)) (fun i x J hx w => ?_) fun J w => ?_
  · obtain ⟨hi, rfl⟩ := w
    have lt : i < xs.length := (List.getElem?_eq_some_iff.mp hx).1
    refine ⟨?_, ?_⟩
    · show ((σ.set i0 none).set i0 (some x)).set i0 none = σ.set i0 none
      rw [List.set_set, List.set_set]
    · show te _ _ _
      refine he x (List.mem_of_getElem? hx) _ _ ⟨_, upd_same, ?_, ?_, ?_⟩
      · rw [List.length_map, List.length_take]
        exact small1000 (by omega)
      · omega
      · rw [upd_upd]
        have e : (xs.take (i + 1)).map f = (xs.take i).map f ++ [f x] := by rw [List.take_add_one, hx, List.map_append]; rfl
        rw [e]
  · rw [List.take_length] at w
    rw [w.2]
    exact hd
/-- [f for _ in range(n)] -/
theorem lc_mapR {D : Addr} {n : Nat} (f : Nat → V) {i0 : Nat} {Qd : Hp → Prop} (hl : n ≤ 1000) (hD : H D = none)
    (he : ∀ i, i < n → ∀ (l : List V) (R : VK), R (f i) (upd H D (.lst l)) → te ((σ.set i0 none).set i0 (some (.int (0 + (i : Int))))) (upd H D (.lst l)) R) (hd : Qd (upd H D (.lst ((List.range n).map f)))) : Lc (Itr 0 n) (gName i0) tYes te [i0] σ Qd H D := by
  refine lc_range (fun i J => J = upd H D (.lst ((List.range i).map f))) rfl (fun i J hi w => ?_) fun J w => ?_
  · subst w
    refine ⟨?_, ?_⟩
    · show ((σ.set i0 none).set i0 _).set i0 none = σ.set i0 none
      rw [List.set_set, List.set_set]
    · show te _ _ _
      refine he i hi _ _ ⟨_, upd_same, ?_, ?_⟩
      · rw [List.length_map, List.length_range]
        exact small1000 (by omega)
      · rw [upd_upd, List.range_succ, List.map_append]
        rfl
  · subst w
    exact hd
theorem rd_all {a : Addr} {bs : List Bool} (h : SqL K H a (bs.map V.bl)) (q : Q (.bl (bs.all id)) H) : rAll K [.ref a] H Q := ⟨a, bs, rfl, h, q⟩
theorem rd_gcd {i j : Int} (q : Q (.int ((Nat.gcd i.natAbs j.natAbs : Nat) : Int)) H) : rGcd [.int i, .int j] H Q := ⟨i, j, rfl, q⟩
theorem rd_seq (q : s1 { D with nx := s2 D } σ H) : tSeq s1 s2 D σ H := q
theorem rd_next (q : D.nx σ H) : tNext D σ H := q
theorem rd_ret (q : te σ H D.rt) : tRet te D σ H := q
theorem rd_drop (q : te σ H fun _ H1 => D.nx σ H1) : tDrop te D σ H := q
theorem rd_asg {g : TG} (q : te σ H fun x H1 => g x σ H1 D.nx) : tAsg te g D σ H := q
theorem rd_name {i : Nat} {F : L2.St → Hp → Prop} {τ : L2.St} (e : σ.set i (some v) = τ) (q : F τ H) : gName i v σ H F := by subst e; exact q
theorem rd_sub {to ti : TE} {t : TSet} {F : L2.St → Hp → Prop} (q : to σ H fun o H1 => ti σ H1 fun i H2 => t o i v H2 fun H3 => F σ H3) : gSub to ti t v σ H F := q
theorem rd_setL {p : Addr} {xs ys : List V} {k : Int} {j : Nat} {F : Hp → Prop} (h : H p = some (.lst xs)) (hj : ixN xs.length k = some j) (e : xs.set j v = ys) (q : F (upd H p (.lst ys))) : rSetL (.ref p) (.int k) v H F := by
  subst e
  exact ⟨p, xs, k, j, rfl, rfl, h, hj, q⟩
theorem rd_ifS (q : tt σ H fun b H1 => if b = true then s1 D σ H1 else s2 D σ H1) : tIfS tt s1 s2 D σ H := q
theorem rd_par {i j : Nat} {x y : V} {τ : L2.St} (e : (σ.set i (some x)).set j (some y) = τ) (q : D.nx τ H) : ∃ v w, [x, y] = [v, w] ∧ D.nx ((σ.set i (some v)).set j (some w)) H := by
  subst e
  exact ⟨x, y, rfl, q⟩
theorem rd_tpar {i j : Nat} (q : tl σ H fun vs H1 => ∃ v w, vs = [v, w] ∧ D.nx ((σ.set i (some v)).set j (some w)) H1) : tPar i j tl D σ H := q
theorem rd_if {P : Prop} [Decidable P] {A B : Prop} (h1 : P → A) (h2 : ¬ P → B) : if decide P = true then A else B := ite2 (fun c => h1 (of_decide_eq_true c)) fun c => h2 fun z => c (decide_eq_true z)
theorem rd_ifn {P : Prop} [Decidable P] {A B : Prop} (h1 : ¬ P → A) (h2 : P → B) : if (!decide P) = true then A else B :=
  ite2 (fun c => h1 (by simpa using c)) fun c => h2 (by simpa using c)
theorem rd_mulok {i j : Int} (h : (-(2 ^ 64) < i ∧ i < 2 ^ 64) ∨ (-(2 ^ 64) < j ∧ j < 2 ^ 64)) : IntMulOk i j := CMul.ok h
theorem rd_mulB {m n : Nat} {i j : Int} (h : Bd m i) (k : Bd n j) (h0 : 0 < m := by decide) (h1 : 0 < n := by decide) (hs : m + n ≤ 1000000 := by decide) : IntMulOk i j := (h.cmul k h0 h1 hs).ok
theorem rd_dvI {j : Int} (i : Int) (h : j ≠ 0) (k : j.natAbs < 2 ^ 400) : CDv i j := ⟨h, Nat.lt_of_lt_of_le k (Nat.pow_le_pow_right (by decide) (by decide))⟩
theorem rd_dvB {n : Nat} {j : Int} (i : Int) (h : j ≠ 0) (k : Bd n j) (hn : n ≤ 9000 := by decide) : CDv i j := ⟨h, k.mono hn⟩
end
section
variable {X : Cx}
theorem op_ml : OpR X (binaryOp .Mult) (rI IntMulOk fun i j => .int (i * j)) := opI fun _ _ _ _ _ _ _ hc q => mul_int q hc
end
structure Cal (P : Program) (w : World) (K : PySem.W.Frag) (mg : Str → Option Value) (base : Heap) (x : Str) (k : Nat) (f : Addr) (fd : FuncData) (ps : List Str) (sp : Sp) : Prop where
  g : FnG P w K mg base CX0 k f fd ps sp
  b : Binds K fd ps []
  kp : PySem.W.keepIn K (.ref f) = true
  m : mg x = some (.ref f)
theorem pe_c {X : Cx} {k : Nat} {f : Addr} {fd : FuncData} {ps : List Str} {sp : Sp} {x : Str} {e : Expr} {es : List Expr} {t : TA} {p pos : Pos} (C : Cal X.prog X.w X.K X.mg X.base x k f fd ps sp) (hg : X.A.guards = some []) (hr : Room k X.A) (gl : Gl X x)
    (ha : PA X (e :: es) t) (hdb : (x == ("__debug__" : Str)) = false := by decide) (he : starEach (e :: es) X.env = (false, eval e X.env) :: starEach es X.env := by rfl) (hpl : (backTo pos (starEach es X.env)).any (·.1) = false := by rfl) :
    PE X (.Call (.Name x p) (e :: es) [] pos) (tCall sp [] E0 t) := pe_g C.g hg hr gl C.m C.kp C.b .nil pass0 ha hdb he hpl
theorem room_u {k : Nat} {A : Around} (h : Room k A) : A.units + 64 < cLine := h.units
section
variable {X : Cx} {K : PySem.W.Frag}
theorem ixK (h : X.K = K) : IxR X (rIx K) := h ▸ ix_seq
theorem lenK (h : X.K = K) : CallR X (.builtin "len") (rLen K) := h ▸ call_len_seq
theorem isiK (h : X.K = K) : CallR X (.builtin "isinstance") (rIsi K) := h ▸ call_isi
theorem allK (h : X.K = K) (hc : X.calm = true) : CallR X (.builtin "all") (rAll K) := h ▸ cr_all hc
theorem sumK (h : X.K = K) (hc : X.calm = true) : CallR X (.builtin "sum") (rSum K) := h ▸ cr_sum hc
theorem eqK (h : X.K = K) (hu : X.A.units + 64 < cLine) : OpR X (compareOp .Eq) (rEqD K) := h ▸ op_eqD hu
theorem neK (h : X.K = K) (hu : X.A.units + 64 < cLine) : OpR X (compareOp .NotEq) (rNeD K) := h ▸ op_neD hu
theorem inK (h : X.K = K) : OpR X (compareOp .In) (rIn K false) := h ▸ op_in_seq
theorem niK (h : X.K = K) : OpR X (compareOp .NotIn) (rIn K true) := h ▸ op_notIn_seq
theorem slK (h : X.K = K) : SlR X (rSlL K) := h ▸ sl_list
theorem piL (h : X.K = K) {tg l : Expr} {tl : TE} (hl : PE X l tl) : PI X tg l (iList K tl) := h ▸ pi_list hl
theorem piT (h : X.K = K) {tg l : Expr} {tl : TE} (hl : PE X l tl) : PI X tg l (iTup K tl) := h ▸ pi_tup hl
end
/-! ### what stays -/
/-- all but what stands at b stays as it is -/
def Kp (b : Addr) (H J : Hp) : Prop := ∀ a o, a ≠ b → H a = some o → J a = some o
def Bag (b : Addr) (H : Hp) : Prop := ∃ x y : Int, H b = some (.lst [.int x, .int y])
def Scr (K : PySem.W.Frag) (H : Hp) (a : Addr) (xs : List V) : Prop := (∃ o, H a = some (.frz o (.lst xs))) ∨ SqL K (fun _ => none) a xs
section
variable {K : PySem.W.Frag} {H J M : Hp} {a b p : Addr} {xs ys : List V} {o : HO}
theorem Kp.refl : Kp b H H := fun _ _ _ e => e
theorem Kp.trans (h : Kp b H J) (k : Kp b J M) : Kp b H M := fun a o n e => k a o n (h a o n e)
theorem Kp.new (h : H p = none) : Kp b H (upd H p o) := fun a u _ e => by rw [upd_ne (ne_of_none e h)]; exact e
theorem Kp.at : Kp b H (upd H b o) := fun a u n e => by rw [upd_ne n]; exact e
theorem Kp.tup (h : Kp b H J) (g : Bag b H) (e : H a = some (.tup xs)) : J a = some (.tup xs) := h a _ (fun z => by
  obtain ⟨x, y, q⟩ := g
  subst z
  cases e.symm.trans q) e
theorem Kp.lst (h : Kp b H J) (n : a ≠ b) (e : H a = some (.lst xs)) : J a = some (.lst xs) := h a _ n e
theorem Bag.new (g : Bag b H) (h : H p = none) : Bag b (upd H p o) := by
  obtain ⟨x, y, q⟩ := g
  exact ⟨x, y, by rw [upd_ne (ne_of_none q h)]; exact q⟩
theorem Bag.ne (g : Bag b H) (h : H p = none) : p ≠ b := fun z => by
  obtain ⟨x, y, q⟩ := g
  subst z
  cases h.symm.trans q
theorem Bag.off (h : H p = none) (g : Bag b H) : p ≠ b := g.ne h
theorem Kp.free (k : Kp b H J) (g : Bag b J) (h : J p = none) : H p = none := by
  cases e : H p with
  | none => rfl
  | some o => cases h.symm.trans (k p o (g.ne h) e)
theorem set_tup (h : H p = some (.lst ys)) (e : H a = some (.tup xs)) : upd H p o a = some (.tup xs) := by
  rw [upd_ne (fun z => by subst z; cases h.symm.trans e)]
  exact e
theorem Bag.put (n : p ≠ b) (g : Bag b H) : Bag b (upd H p o) := by
  obtain ⟨x, y, q⟩ := g
  exact ⟨x, y, by rw [upd_ne (fun z => n z.symm)]; exact q⟩
theorem new_any {u : HO} (h : H p = none) (e : H a = some u) : upd H p o a = some u := by rw [upd_ne (ne_of_none e h)]; exact e
theorem Scr.sq (h : Scr K H a xs) : SqL K H a xs := by
  rcases h with ⟨o, e⟩ | (e | e)
  · exact .inl (.inr ⟨o, e⟩)
  · rcases e with e | ⟨_, e⟩ <;> cases e
  · exact .inr e
theorem Scr.kp (h : Kp b H J) (g : Bag b H) (e : Scr K H a xs) : Scr K J a xs := by
  rcases e with ⟨o, e⟩ | e
  · refine .inl ⟨o, h a _ (fun z => ?_) e⟩
    obtain ⟨x, y, q⟩ := g
    subst z
    cases e.symm.trans q
  · exact .inr e
theorem Scr.new (h : H p = none) (e : Scr K H a xs) : Scr K (upd H p o) a xs := by
  rcases e with ⟨u, e⟩ | e
  · exact .inl ⟨u, new_any h e⟩
  · exact .inr e
theorem Scr.of (o : Only H) (h : SqL K H a xs) : Scr K H a xs := by
  rcases h with (e | e) | e
  · rcases o a with z | ⟨_, _, z⟩
    · cases e.symm.trans z
    · cases e.symm.trans z
  · exact .inl e
  · exact .inr (.inr e)
theorem same_any {u : HO} (h : Same H J) (e : H a = some u) : J a = some u := h a u e
theorem Bag.same (h : Same H J) (g : Bag b H) : Bag b J := by
  obtain ⟨x, y, q⟩ := g
  exact ⟨x, y, h _ _ q⟩
theorem Scr.same (h : Same H J) (e : Scr K H a xs) : Scr K J a xs := by
  rcases e with ⟨o, e⟩ | e
  · exact .inl ⟨o, h _ _ e⟩
  · exact .inr e
theorem rd_pick {K : PySem.W.Frag} {Q : VK} {r : Int} (h : H p = some (.lst xs)) (h0 : 0 ≤ r) (h1 : r < xs.length) (q : ∀ v, v ∈ xs → Q v H) : rIx K (.ref p) (.int r) H Q := by
  have l1 : r.toNat < xs.length := by omega
  have e : r = ((r.toNat : Nat) : Int) := by omega
  have z := atI_nat (xs := xs) (List.getElem?_eq_getElem l1)
  rw [← e] at z
  exact rd_sxL (SqL.of h) z (q _ (List.getElem_mem l1))
theorem same_new (h : H p = none) : Same H (upd H p o) := fun a u e => by rw [upd_ne (ne_of_none e h)]; exact e
/-- the list at l has been changed, all else is as it was -/
def Pu (l : Addr) (H J : Hp) : Prop := Kp l H J ∧ (∃ ys, H l = some (.lst ys)) ∧ ∃ zs, J l = some (.lst zs)
theorem Pu.tup {l : Addr} (k : Pu l H J) (e : H a = some (.tup xs)) : J a = some (.tup xs) := k.1 a _ (fun z => by
  obtain ⟨ys, q⟩ := k.2.1
  subst z
  cases e.symm.trans q) e
theorem Pu.lst {l : Addr} (k : Pu l H J) (n : a ≠ l) (e : H a = some (.lst xs)) : J a = some (.lst xs) := k.1 a _ n e
theorem Pu.bag {l : Addr} (k : Pu l H J) (n : l ≠ b) (g : Bag b H) : Bag b J := by
  obtain ⟨x, y, q⟩ := g
  exact ⟨x, y, k.1 b _ (fun z => n z.symm) q⟩
theorem Pu.scr {K : PySem.W.Frag} {l : Addr} (k : Pu l H J) (e : Scr K H a xs) : Scr K J a xs := by
  rcases e with ⟨o, e⟩ | e
  · refine .inl ⟨o, k.1 a _ (fun z => ?_) e⟩
    obtain ⟨ys, q⟩ := k.2.1
    subst z
    cases e.symm.trans q
  · exact .inr e
theorem rd_appK {Q : VK} {l : Addr} {y : V} (h : H l = some (.lst xs)) (hz : xs.length ≤ 1000) (q : ∀ J, Pu l H J → J l = some (.lst (xs ++ [y])) → Q .non J) : rAppend (.ref l) [y] H Q :=
  ⟨l, xs, y, rfl, rfl, h, small1000 hz, q _ ⟨Kp.at, ⟨_, h⟩, ⟨_, upd_same⟩⟩ upd_same⟩
theorem rd_catK {Q : VK} {l m : Addr} {zs : List V} (h : H l = some (.lst xs)) (k : H m = some (.lst zs)) (hz : xs.length + zs.length ≤ 1000) (q : ∀ p J, H p = none → Same H J → J p = some (.lst (xs ++ zs)) → Q (.ref p) J) : rCat (.ref l) (.ref m) H Q :=
  ⟨l, m, xs, zs, rfl, rfl, h, k, Nat.le_of_lt (small1000 hz), fun p np => q p _ np (same_new np) upd_same⟩
theorem rd_repK {Q : VK} {l : Addr} {k : Int} (h : H l = some (.lst xs)) (h0 : 0 ≤ k ∧ k ≤ 1000) (hz : xs.length * k.toNat ≤ 1000) (e : (List.replicate k.toNat xs).flatten = ys) (q : ∀ p J, H p = none → Same H J → J p = some (.lst ys) → Q (.ref p) J) : rRep (.ref l) (.int k) H Q := by
  subst e
  exact ⟨l, k, xs, rfl, rfl, h, by omega, by omega, Nat.le_of_lt (small1000 hz), fun p np => q p _ np (same_new np) upd_same⟩
theorem Kp.of (h : Same H J) : Kp b H J := fun a o _ e => h a o e
theorem pick_int {ns : List Int} {r : Int} (h0 : 0 ≤ r) (h : r < ns.length) : ∃ n, atI (ns.map V.int) r = some (.int n) ∧ n ∈ ns := by
  have h1 : r.toNat < ns.length := by omega
  have e : r = ((r.toNat : Nat) : Int) := by omega
  have q : atI (ns.map V.int) ((r.toNat : Nat) : Int) = some (.int ns[r.toNat]) := atI_nat (by rw [List.getElem?_map, List.getElem?_eq_getElem h1]; rfl)
  rw [← e] at q
  exact ⟨ns[r.toNat], q, List.getElem_mem h1⟩
def msr : L2.St → Nat
  | [_, some (.int y)] => y.natAbs
  | _ => 0
end
/-! ### greatest common divisors, lowest terms -/
theorem gcd_turn {x y : Int} : Int.gcd y (x.fmod y) = Int.gcd x y := by
  rw [Int.fmod_def, Int.gcd_sub_mul_left_right, Int.gcd_comm]
theorem fmod_abs {x y : Int} (h : y ≠ 0) : (x.fmod y).natAbs < y.natAbs := by
  rcases Int.lt_or_gt_of_ne h with h1 | h1
  · have := fmod_rng (x := -x) (n := -y) (by omega)
    rw [Int.neg_fmod_neg] at this
    omega
  · have := fmod_rng (x := x) h1
    omega
theorem natAbs_fdiv_le (u : Int) {v : Int} (h : 0 < v) : (u.fdiv v).natAbs ≤ u.natAbs := by
  rw [Int.fdiv_eq_ediv_of_nonneg u (by omega)]
  exact Int.natAbs_ediv_le_natAbs u v
theorem dvd_gcd1 {x y v : Int} (g : Int.gcd x y = 1) (h : y ∣ x * v) : y ∣ v := by
  have h1 : y.natAbs ∣ x.natAbs * v.natAbs := by rw [← Int.natAbs_mul]; exact Int.natAbs_dvd_natAbs.mpr h
  have g1 : Nat.Coprime y.natAbs x.natAbs := by rw [Nat.coprime_comm]; exact g
  exact Int.natAbs_dvd_natAbs.mp (g1.dvd_of_dvd_mul_left h1)
/-- a ratio in lowest terms is one alone -/
theorem low_one {x y u v : Int} (hy : 0 < y) (hv : 0 < v) (g : Int.gcd x y = 1) (k : Int.gcd u v = 1) (e : x * v = u * y) : x = u ∧ y = v := by
  have d1 : y ∣ v := dvd_gcd1 g ⟨u, by rw [e, Int.mul_comm]⟩
  have d2 : v ∣ y := dvd_gcd1 k ⟨x, by rw [← e, Int.mul_comm]⟩
  have e2 : y = v := Int.dvd_antisymm (by omega) (by omega) d1 d2
  subst e2
  exact ⟨Int.eq_of_mul_eq_mul_right (by omega) e, rfl⟩
def IsLow (t u x y : Int) : Prop := 0 < y ∧ Int.gcd x y = 1 ∧ x * u = t * y ∧ x.natAbs ≤ t.natAbs ∧ y.natAbs ≤ u.natAbs
theorem low_uniq {t u x y t' u' x' y' : Int} (h : IsLow t u x y) (k : IsLow t' u' x' y') (hu : u ≠ 0) (hv : u' ≠ 0) (e : t * u' = t' * u) : x = x' ∧ y = y' := by
  obtain ⟨y0, g, e1, _, _⟩ := h
  obtain ⟨v0, g', e2, _, _⟩ := k
  refine low_one y0 v0 g g' (Int.eq_of_mul_eq_mul_right (Int.mul_ne_zero hu hv) ?_)
  grind
theorem low_at {t u s : Int} (h : u ≠ 0) (es : s = if u < 0 then -((Int.gcd t u : Nat) : Int) else ((Int.gcd t u : Nat) : Int)) : IsLow t u (t.fdiv s) (u.fdiv s) ∧ s ≠ 0 ∧ s.natAbs ≤ u.natAbs := by
  have g0 : 0 < Int.gcd t u := Int.gcd_pos_of_ne_zero_right t h
  have gu : (Int.gcd t u) ≤ u.natAbs := Int.gcd_le_natAbs_right t (by omega)
  have ns : s.natAbs = Int.gcd t u := by rw [es]; split <;> omega
  have s0 : s ≠ 0 := by omega
  have du : s ∣ u := by rw [← Int.natAbs_dvd, ns]; exact Int.gcd_dvd_right t u
  have dt : s ∣ t := by rw [← Int.natAbs_dvd, ns]; exact Int.gcd_dvd_left t u
  have eu := Int.fdiv_mul_cancel du
  have et := Int.fdiv_mul_cancel dt
  generalize u.fdiv s = y at *
  generalize t.fdiv s = x at *
  refine ⟨⟨?_, ?_, ?_, ?_, ?_⟩, s0, by omega⟩
  · rcases Int.lt_or_gt_of_ne h with n | n
    · have sn : s < 0 := by rw [es, if_pos n]; omega
      by_cases z : 0 < y
      · exact z
      · have z : y ≤ 0 := by omega
        have := Int.mul_nonneg_of_nonpos_of_nonpos z (show s ≤ 0 by omega)
        omega
    · have sp : 0 < s := by rw [es, if_neg (by omega)]; omega
      by_cases z : 0 < y
      · exact z
      · have z : y ≤ 0 := by omega
        have := Int.mul_nonpos_of_nonpos_of_nonneg z (show 0 ≤ s by omega)
        omega
  · have q : Int.gcd t u = s.natAbs * Int.gcd x y := by rw [← et, ← eu, Int.mul_comm x s, Int.mul_comm y s, Int.gcd_mul_left]
    rw [ns] at q
    exact Nat.eq_of_mul_eq_mul_left g0 (by omega)
  · rw [← eu, ← et, Int.mul_assoc, Int.mul_comm s y]
  · rw [← et, Int.natAbs_mul]
    exact Nat.le_mul_of_pos_right _ (by omega)
  · rw [← eu, Int.natAbs_mul]
    exact Nat.le_mul_of_pos_right _ (by omega)
end Ob
namespace Ob
open PySem PySem.Spec PyProof.Rows L2
/-! ### a tuple of the module's own top -/
structure TupC (K : PySem.W.Frag) (mg : Str → Option Value) (x : Str) (z : Addr) (xs : List V) : Prop where
  m : mg x = some (.ref z)
  sq : ∀ H, SqT K H z xs
def TupObj (o : Obj) (xs : List V) : Prop := o.cls = .type "tuple" ∧ ∃ its n, o.data = .seq its n ∧ its.size ≤ sizeLine ∧ Vals xs its.toList
theorem TupC.of {K : PySem.W.Frag} {mg : Str → Option Value} {x : Str} {z : Addr} {xs : List V} {o : Obj} (h : mg x = some (.ref z)) (l : K.lookup z = some o) (t : TupObj o xs) : TupC K mg x z xs :=
  ⟨h, fun _ => let ⟨c, its, n, d, s, v⟩ := t; .inr ⟨o, its, n, l, c, d, s, v⟩⟩
section
variable {K : PySem.W.Frag} {H J : Hp} {a b p l : Addr} {xs ys zs : List V} {o : HO}
theorem sqt_same (s : Same H J) (h : SqT K H a xs) : SqT K J a xs := by
  rcases h with (e | ⟨u, e⟩) | e
  · exact .inl (.inl (s _ _ e))
  · exact .inl (.inr ⟨u, s _ _ e⟩)
  · exact .inr e
theorem sqt_new (n : H p = none) (h : SqT K H a xs) : SqT K (upd H p o) a xs := sqt_same (same_new n) h
theorem sqt_kp (k : Kp b H J) (hb : ∀ e : H b = some (.tup xs), False) (hf : ∀ u, H b = some (.frz u (.tup xs)) → False) (h : SqT K H a xs) : SqT K J a xs := by
  rcases h with (e | ⟨u, e⟩) | e
  · exact .inl (.inl (k _ _ (fun z => by subst z; exact hb e) e))
  · exact .inl (.inr ⟨u, k _ _ (fun z => by subst z; exact hf u e) e⟩)
  · exact .inr e
theorem sqt_lst (k : Kp l H J) (e : H l = some (.lst ys)) (h : SqT K H a xs) : SqT K J a xs := sqt_kp k (fun z => by cases e.symm.trans z) (fun u z => by cases e.symm.trans z) h
theorem sqt_bag (k : Kp b H J) (g : Bag b H) (h : SqT K H a xs) : SqT K J a xs := by
  obtain ⟨x, y, e⟩ := g
  exact sqt_lst k e h
theorem sqt_pu (k : Pu l H J) (h : SqT K H a xs) : SqT K J a xs := by
  obtain ⟨ys, e⟩ := k.2.1
  exact sqt_lst k.1 e h
theorem tyT (h : SqT K H a xs) : TyX K H (.ref a) (.type "tuple") := by
  rcases h with (e | ⟨u, e⟩) | ⟨o, its, n, l, c, _⟩
  · exact .base (.tup e)
  · exact .fTuple e
  · exact .kTuple l c
theorem rd_isiQ {Q : VK} {n : String} {b : Bool} (e : SqT K H a xs) (h : kitB "tuple" n = some b) (q : Q (.bl b) H) : rIsi K [.ref a, .ty n] H Q := rd_isi (tyT e) h q
variable {σ : L2.St} {te : TE} {D : Addr}
theorem cut_tail : cutV xs (some 1) none = xs.tail := by
  cases xs with
  | nil => rfl
  | cons x r =>
    have e1 : HT.sIx (x :: r).length 0 (some 1) = 1 := by
      simp [HT.sIx]
    have e2 : HT.sIx (x :: r).length (x :: r).length none = (x :: r).length := by simp [HT.sIx]
    unfold cutV
    rw [e1, e2]
    simp
theorem rd_sl {Q : VK} {r : V → Option Int → Option Int → Hp → VK → Prop} {tl th : TO} (q : te σ H fun x H1 => tl σ H1 fun l H2 => th σ H2 fun u H3 => r x l u H3 Q) : tSl r te tl th σ H Q := q
theorem rd_part {R : Option Int → Hp → Prop} (q : te σ H fun x H1 => ∃ i, x = .int i ∧ R (some i) H1) : tPart te σ H R := q
theorem rd_partI {i : Int} {R : Int → Prop} (q : R i) : ∃ j, V.int i = .int j ∧ R j := ⟨i, rfl, q⟩
theorem rd_nopart {R : Option Int → Hp → Prop} (q : R none H) : tNoPart σ H R := q
theorem rd_slL {Q : VK} {lo hi : Option Int} (h : SqL K H a xs) (e : cutV xs lo hi = ys) (q : ∀ p J, H p = none → Same H J → J p = some (.lst ys) → Q (.ref p) J) : rSlL K (.ref a) lo hi H Q := by
  subst e
  exact ⟨a, xs, rfl, h, fun p np => q p _ np (same_new np) upd_same⟩
theorem rd_zip {ta : TA} {R : It → Hp → Prop} (q : ta σ H fun vs H1 => ∃ a b xs ys, vs = [.ref a, .ref b] ∧ SqL K H1 a xs ∧ SqL K H1 b ys ∧ R (Itz K a b) H1) : iZip K ta σ H R := q
theorem rd_zipA {R : Addr → Addr → Prop} (h : SqL K H a xs) (k : SqL K H b ys) (q : R a b) : ∃ a' b' xs ys, [V.ref a, V.ref b] = [.ref a', .ref b'] ∧ SqL K H a' xs ∧ SqL K H b' ys ∧ R a' b' := ⟨a, b, xs, ys, rfl, h, k, q⟩
theorem piZ {X : Cx} (h : X.K = K) {e e2 : Expr} {ta : TA} {p pos tpos : Pos} {elts : List Expr} {kk : Nat} (hg : Gl X "zip") (hm : X.mg "zip" = none) (ha : PA X [e, e2] ta)
    (hs : starEach [e, e2] X.env = (false, eval e X.env) :: starEach [e2] X.env := by rfl) (hpl : (backTo pos (starEach [e2] X.env)).any (·.1) = false := by rfl) :
    PI X (.Tuple elts kk tpos) (.Call (.Name "zip" p) [e, e2] [] pos) (iZip K ta) := h ▸ pi_zip hg hm ha hs hpl
theorem pgT {X : Cx} (h : X.K = K) {es : List Expr} {k n : Nat} {t : TGs} {pos : Pos} (hc : X.calm = true) (hs : PGs X es t) (hn : (assignEach es X.env).length = n := by rfl) (hst : (assignEach es X.env).findIdx? (·.1) = none := by rfl) : PG X (.Tuple es k pos) (gTup K n t) := h ▸ pg_tup hc hs hn hst
/-! ### a ratio at an address, spans, a list of spans -/
structure Ra (K : PySem.W.Frag) (H : Hp) (p : Addr) (x y : Int) : Prop where
  sq : SqT K H p [.int x, .int y]
  pos : 0 < y
  gcd : Int.gcd x y = 1
  bx : Bd 1000 x
  bu : Bd 1000 y
theorem Ra.mono {x y : Int} (h : Ra K H p x y) (m : ∀ xs, SqT K H p xs → SqT K J p xs) : Ra K J p x y := ⟨m _ h.sq, h.pos, h.gcd, h.bx, h.bu⟩
structure Sn where
  x : Int
  y : Int
  u : Int
  v : Int
def SnAt (K : PySem.W.Frag) (H : Hp) (r : V) (s : Sn) : Prop := ∃ c p q, r = .ref c ∧ SqT K H c [.ref p, .ref q] ∧ Ra K H p s.x s.y ∧ Ra K H q s.u s.v
theorem SnAt.mono {r : V} {s : Sn} (h : SnAt K H r s) (m : ∀ p xs, SqT K H p xs → SqT K J p xs) : SnAt K J r s :=
  let ⟨c, p, q, e, h1, h2, h3⟩ := h; ⟨c, p, q, e, m _ _ h1, h2.mono (m _), h3.mono (m _)⟩
inductive SnsAt (K : PySem.W.Frag) (H : Hp) : List V → List Sn → Prop
  | nil : SnsAt K H [] []
  | cons {r : V} {rs : List V} {s : Sn} {ss : List Sn} (h : SnAt K H r s) (t : SnsAt K H rs ss) : SnsAt K H (r :: rs) (s :: ss)
theorem SnsAt.mono (m : ∀ p xs, SqT K H p xs → SqT K J p xs) : ∀ {rs : List V} {ss : List Sn}, SnsAt K H rs ss → SnsAt K J rs ss
  | _, _, .nil => .nil
  | _, _, .cons h t => .cons (h.mono m) (t.mono m)
theorem SnsAt.len : ∀ {rs : List V} {ss : List Sn}, SnsAt K H rs ss → rs.length = ss.length
  | _, _, .nil => rfl
  | _, _, .cons _ t => congrArg (· + 1) t.len
theorem SnsAt.get : ∀ {rs : List V} {ss : List Sn} {i : Nat} {r : V}, SnsAt K H rs ss → rs[i]? = some r → ∃ s, ss[i]? = some s ∧ SnAt K H r s
  | _, _, _, _, .nil, e => by simp at e
  | _, _, 0, _, .cons h t, e => by
    cases Option.some.inj (show some _ = some _ from e)
    exact ⟨_, rfl, h⟩
  | _, _, i + 1, _, .cons h t, e => t.get (i := i) e
theorem SnsAt.tail : ∀ {rs : List V} {ss : List Sn}, SnsAt K H rs ss → SnsAt K H rs.tail ss.tail
  | _, _, .nil => .nil
  | _, _, .cons _ t => t
/-! the same as data -/
def snD (s : Sn) : PyData := .tuple [.tuple [.int s.x, .int s.y], .tuple [.int s.u, .int s.v]]
theorem Ra.dp {x y : Int} (h : Ra K H p x y) : Dp K H (.ref p) (.tuple [.int x, .int y]) := .tup h.sq (.cons (.int _) (.cons (.int _) .nil))
theorem SnsAt.dp : ∀ {rs : List V} {ss : List Sn}, SnsAt K H rs ss → DpAll K H rs (ss.map snD)
  | _, _, .nil => .nil
  | _, _, .cons h t => by
    obtain ⟨c, p, q, rfl, hc, h1, h2⟩ := h
    exact .cons (.tup hc (.cons h1.dp (.cons h2.dp .nil))) t.dp
theorem SnsAt.small : ∀ {rs : List V} {ss : List Sn}, SnsAt K H rs ss → sms (ss.map snD) = true ∧ szs (ss.map snD) ≤ 5000 * rs.length ∧ PyData.depthAll (ss.map snD) ≤ 2 ∧ PyData.canLayAll0 (ss.map snD) = true
  | _, _, .nil => ⟨by simp [sms], by simp [szs], by simp [PyData.depthAll], by simp [PyData.canLayAll0]⟩
  | _, _, .cons h t => by
    obtain ⟨c, p, q, rfl, hc, h1, h2⟩ := h
    obtain ⟨a1, a2, a3, a4⟩ := t.small
    have b1 := h1.bx.log
    have b2 := h1.bu.log
    have b3 := h2.bx.log
    have b4 := h2.bu.log
    refine ⟨?_, ?_, ?_, ?_⟩
    · simp only [List.map_cons, snD, sms, sm, a1, Bool.and_true, Bool.and_eq_true, decide_eq_true_eq]
      omega
    · simp only [List.map_cons, snD, szs, sz, List.length_cons]
      omega
    · simp only [List.map_cons, snD, PyData.depthAll, PyData.depth]
      omega
    · simp [List.map_cons, snD, PyData.canLayAll0, PyData.canLay0, a4]
theorem eqv_two {x y u v : Int} : PyData.eqv (.tuple [.int x, .int y]) (.tuple [.int u, .int v]) = decide (x = u ∧ y = v) := by
  by_cases h : x = u <;> by_cases k : y = v <;> simp [PyData.eqv, PyData.eqvAll, h, k]
theorem rd_eqR {Q : VK} {x y u v : Int} (h : SqT K H a [.int x, .int y]) (k : SqT K H b [.int u, .int v]) (q : Q (.bl (decide (x = u ∧ y = v))) H) : rEqD K (.ref a) (.ref b) H Q :=
  ⟨_, _, Dp.tup h (.cons (.int _) (.cons (.int _) .nil)), Dp.tup k (.cons (.int _) (.cons (.int _) .nil)), by simp [SeqAt.shaped, PyData.canLay0, PyData.canLayAll0, PyData.depth, PyData.depthAll], by simp [SeqAt.shaped, PyData.canLay0, PyData.canLayAll0, PyData.depth, PyData.depthAll], by rw [eqv_two]; exact q⟩
/-- the spans of the arc -/
def arcD (x y u v : Int) : List Sn := if x = u ∧ y = v then [] else if x * v < u * y then [⟨x, y, u, v⟩] else (if u = 0 ∧ v = 1 then [] else [⟨0, 1, u, v⟩]) ++ [⟨x, y, 1, 1⟩]
def okS (s : Sn) : Bool := decide (¬ s.x * 1 < 0 * s.y) && (decide (s.x * s.v < s.u * s.y) && decide (¬ 1 * s.v < s.u * 1))
def okN (s t : Sn) : Bool := decide (s.u * t.y < t.x * s.v)
def cutsB (ss : List Sn) : Bool := (ss.map okS).all id && (List.zipWith okN ss ss.tail).all id
end
end Ob
set_option maxHeartbeats 2000000
namespace Ob
open PySem PySem.Spec PyProof.Rows L2
/-! ### the head by one run: facts looked up in what the top has left -/
abbrev AlO : Type := Bool × List He.FnV
/-- a def: where it stands, its name, qualified name, parameters, body, scope -/
structure FnO where
  ad : PySem.W.Frag → Addr
  name : Str
  qual : Str
  params : Arguments
  body : List Stmt
  scope : Scope
def FnO.val (d : FnO) : He.FnV := some (d.name, d.qual, d.params, .stmts d.body, d.scope, mainGlobals, [], .none, builtinsNs)
def fnLook (K : PySem.W.Frag) (a : Addr) : He.FnV := match K.lookup a with
  | some ⟨_, _, .func fd, _⟩ => some (fd.name, fd.qualname, fd.params, fd.body, fd.scope, fd.globals, fd.closure, fd.defaults, fd.builtins)
  | _ => none
def fnCode (K : PySem.W.Frag) (a : Addr) (q : Str) : Bool := match K.lookup a with
  | some ⟨_, _, .func fd, _⟩ => PySem.W.codeIn K fd.code q
  | _ => false
theorem fnO_ok {K : PySem.W.Frag} {d : FnO} {a : Addr} (e : fnLook K a = d.val) (c : fnCode K a d.qual = true) :
    ∃ oc od osl kV doc pm an cdv ct, K.lookup a = some ⟨oc, od, .func (PySem.W.fnOf d.name d.qual d.params d.body d.scope .none kV doc pm an cdv ct), osl⟩ ∧ PySem.W.codeIn K cdv d.qual = true := by
  unfold fnLook at e
  unfold fnCode at c
  cases q : K.lookup a with
  | none =>
    rw [q] at c
    cases c
  | some o =>
    obtain ⟨oc, od, dt, osl⟩ := o
    rw [q] at c e
    cases dt with
    | func fd =>
      obtain ⟨n1, n2, n3, n4, n5, n6, n7, n8, n9, n10, n11, n12, n13, n14, n15⟩ := fd
      have e2 : (some (n1, n2, n3, n4, n5, n6, n7, n8, n15) : He.FnV) = some (d.name, d.qual, d.params, .stmts d.body, d.scope, mainGlobals, [], .none, builtinsNs) := e
      simp only [Option.some.injEq, Prod.mk.injEq] at e2
      obtain ⟨h1, h2, h3, h4, h5, h6, h7, h8, h9⟩ := e2
      subst h1 h2 h3 h4 h5 h6 h7 h8 h9
      exact ⟨oc, od, osl, n9, n10, n11, n12, n13, n14, rfl, c⟩
    | _ => cases c
def obsO (fa : List (PySem.W.Frag → Bool)) (fn : List FnO) (K : PySem.W.Frag) : AlO :=
  ((fa.all fun f => f K) && fn.all fun d => fnCode K (d.ad K) d.qual && PySem.W.keepIn K (.ref (d.ad K)), fn.map fun d => fnLook K (d.ad K))
def valO (fn : List FnO) : AlO := (true, fn.map FnO.val)
def SaysO (fa : List (PySem.W.Frag → Bool)) (fn : List FnO) (K : PySem.W.Frag) : Prop := obsO fa fn K = valO fn
def obsOG (as : List Addr) (fa : List (PySem.W.Frag → Bool)) (fn : List FnO) (g : Addr → Option Obj) : AlO := obsO fa fn (He.frG g as)
def hookO (as : List Addr) (fa : List (PySem.W.Frag → Bool)) (fn : List FnO) : PySem.W.Hook where
  α := AlO
  obs := fun s => obsOG as fa fn s.heap.get?
  val := fun _ => valO fn
  says := fun _ h => ∃ K : PySem.W.Frag, K.In h ∧ SaysO fa fn K
  of := fun _ _ e => ⟨_, He.frG_in, e⟩
  keeps := fun _ _ _ ⟨K, hK, c⟩ k => ⟨K, PySem.W.Frag.In.keeps hK k, c⟩
theorem obsOG_eq {as : List Addr} {fa : List (PySem.W.Frag → Bool)} {fn : List FnO} {g : Addr → Option Obj} {s : Shared} (h : ∀ a, g a = s.heap.get? a) : obsOG as fa fn g = (hookO as fa fn).obs s := by
  have e : g = s.heap.get? := funext h
  rw [e]
  rfl
section
variable {fa : List (PySem.W.Frag → Bool)} {fn : List FnO} {K : PySem.W.Frag}
theorem SaysO.fact (c : SaysO fa fn K) (i : Nat) {f : PySem.W.Frag → Bool} (h : fa[i]? = some f := by rfl) : f K = true := by
  have c1 := (He.ba (show ((fa.all fun f => f K) && fn.all fun d => fnCode K (d.ad K) d.qual && PySem.W.keepIn K (.ref (d.ad K))) = true from congrArg (fun z : AlO => z.1) c)).1
  exact List.all_eq_true.mp c1 f (List.mem_of_getElem? h)
theorem SaysO.def_ (c : SaysO fa fn K) (i : Nat) {d : FnO} (h : fn[i]? = some d := by rfl) :
    ∃ oc od osl kV doc pm an cdv ct, K.lookup (d.ad K) = some ⟨oc, od, .func (PySem.W.fnOf d.name d.qual d.params d.body d.scope .none kV doc pm an cdv ct), osl⟩ ∧ PySem.W.codeIn K cdv d.qual = true ∧ PySem.W.keepIn K (.ref (d.ad K)) = true := by
  have c2 := (He.ba (show ((fa.all fun f => f K) && fn.all fun d => fnCode K (d.ad K) d.qual && PySem.W.keepIn K (.ref (d.ad K))) = true from congrArg (fun z : AlO => z.1) c)).2
  have e : fn.map (fun d => fnLook K (d.ad K)) = fn.map FnO.val := congrArg (fun z : AlO => z.2) c
  have e2 : (fn.map fun d => fnLook K (d.ad K))[i]? = (fn.map FnO.val)[i]? := by rw [e]
  rw [List.getElem?_map, List.getElem?_map, h] at e2
  obtain ⟨c3, c4⟩ := He.ba (List.all_eq_true.mp c2 d (List.mem_of_getElem? h))
  obtain ⟨oc, od, osl, kV, doc, pm, an, cdv, ct, h1, h2⟩ := fnO_ok (Option.some.inj e2) c3
  exact ⟨oc, od, osl, kV, doc, pm, an, cdv, ct, h1, h2, c4⟩
/-- a name's int, and that it is no descriptor -/
def intB (K : PySem.W.Frag) (o : Option (Option Value)) (i : Int) : Bool := match o with
  | some (some (.int j t)) => decide (j = i) && He.eqO (PySem.W.specialIn K (.int j t) "__get__") (some none)
  | _ => false
theorem intB_ok {o : Option (Option Value)} {i : Int} (h : intB K o i = true) : ∃ t, o = some (some (.int i t)) ∧ PySem.W.specialIn K (.int i t) "__get__" = some none := by
  unfold intB at h
  split at h
  · rename_i j t
    obtain ⟨h1, h2⟩ := He.ba h
    have e : j = i := of_decide_eq_true h1
    subst e
    exact ⟨t, rfl, He.eqO_ok h2⟩
  · cases h
def intC (o : Option (Option Value)) (i : Int) : Bool := match o with
  | some (some (.int j _)) => decide (j = i)
  | _ => false
theorem intC_ok {o : Option (Option Value)} {i : Int} (h : intC o i = true) : ∃ t, o = some (some (.int i t)) := by
  unfold intC at h
  split at h
  · rename_i j t
    have e : j = i := of_decide_eq_true h
    subst e
    exact ⟨t, rfl⟩
  · cases h
/-- a tuple of the top -/
def tupO (K : PySem.W.Frag) (a : Addr) (vs : List V) : Bool := match K.lookup a with
  | some ⟨.type c, _, .seq its _, _⟩ => decide (c = "tuple") && (decide (its.size ≤ sizeLine) && He.relAll vs its.toList)
  | _ => false
theorem tupO_ok {a : Addr} {vs : List V} (h : tupO K a vs = true) : ∃ o, K.lookup a = some o ∧ TupObj o vs := by
  unfold tupO at h
  split at h
  · rename_i c od its n sl e
    obtain ⟨h1, h2⟩ := He.ba h
    obtain ⟨h3, h4⟩ := He.ba h2
    have e1 : c = "tuple" := of_decide_eq_true h1
    subst e1
    exact ⟨_, e, rfl, its, n, rfl, of_decide_eq_true h3, He.relAll_ok h4⟩
  · cases h
end
/-- three looks at one run, made one -/
theorem opt3 {τ α β γ δ : Type} {x : Option τ} {f : τ → α} {g : τ → β} {k : τ → γ} {k2 : τ → δ} {a : α} {b : β} {c : γ} {d : δ} (h1 : x.map (fun z => (f z, g z)) = some (a, b)) (h2 : x.map k = some c) (h3 : x.map k2 = some d) : x.map (fun z => (f z, g z, (k z, k2 z))) = some (a, b, (c, d)) := by
  cases x with
  | none => cases h1
  | some t =>
    obtain ⟨e1, e2⟩ := Prod.mk.inj (Option.some.inj h1)
    exact congrArg some (Prod.ext e1 (Prod.ext e2 (Prod.ext (Option.some.inj h2) (Option.some.inj h3))))
theorem walk_gE {l : PySem.W.OpenLaw} {n k : Nat} {q : Program} {loose : List Str} {XP : (Str → Option Value) → Heap → Prop} {YP : World → Heap → Prop} {d : DefRec} {CX : CXT} {x : Str}
    (hn : l.most = some n) (hn2 : n ≤ sizeLine) (hdf : d.params.defaults = []) (hr : Room k callerA)
    (F : ∀ (w : World) (mg : Str → Option Value) (fa : Addr) (h : Heap), YP w h → h.Ns mainGlobals mg → mg d.name = some (.ref fa) → ∃ (K : PySem.W.Frag) (fd : FuncData) (sp : Sp), K.In h ∧ (∀ (s : Shared) (u : Value), BindsTo s fd ⟨[u], []⟩ [(x, u)]) ∧
      (∀ (H : Hp) (a : Addr) (ns : List Int), ns.length ≤ n → (∀ z ∈ ns, Builtin.Int.intBits z ≤ 1048576) → Only H → SqL K H a (ns.map V.int) → sp [.ref a] H (fun v _ => v = .bl true) fun _ _ _ => False) ∧
      ∀ base : Heap, K.In base → base.Ns mainGlobals mg → FnG l.prog w K mg base CX k fa fd [x] sp)
    (hCX : ∀ (H : Hp) (s : Shared) (e : Value) (s' : Shared), CX [] H s (fun _ _ _ => False) e s' → False) : PySem.W.WalkO q loose XP YP l.row.toRowW d [] (fun f vs => PySem.call f vs) :=
  Att.attach_callB hn hdf fun w s₀ s₁ mg mb fa o pm cd doc a vs ns G Y ho hd hcd hmg hobj hints hlen hbits hg =>
    let ⟨_, _, _, KX, hb, hsp, hF⟩ := F w mg fa _ Y G.T.g hmg
    law_g KX G.T.g G.T.b G.T.builtins G.T.nolimit hg hobj hints (Nat.le_trans hlen hn2) hr hF hb (fun H o z => hsp H a ns hlen hbits o z) fun H e s' => hCX H s₁ e s'
end Ob
namespace Ob
open PySem PySem.Spec PyProof.Rows L2
def top (i : Nat) : Stmt := PySem.Challenge.pw_onecut_k76_papers_of_plans.main.body.getD i (.Pass ⟨0, 0, 0, 0⟩)
abbrev S__law_bag : Stmt := top 65
abbrev S__law_take : Stmt := top 66
abbrev S__law_part : Stmt := top 67
abbrev S__law_lowest : Stmt := top 68
abbrev S_is_int : Stmt := top 5
abbrev S_lowest : Stmt := top 7
abbrev S_plus : Stmt := top 8
abbrev S_minus : Stmt := top 9
abbrev S_floor_of : Stmt := top 10
abbrev S_is_less : Stmt := top 12
abbrev S_arc : Stmt := top 14
abbrev S_both : Stmt := top 15
abbrev S_is_day : Stmt := top 29
abbrev S__is_many : Stmt := top 30
abbrev S_check_day : Stmt := top 35
abbrev S_is_stretch : Stmt := top 31
abbrev S_check_stretch : Stmt := top 36
abbrev S_rest_of : Stmt := top 11
abbrev S__total : Stmt := top 39
abbrev S__given_before : Stmt := top 40
abbrev S_sum_before : Stmt := top 41
abbrev S_point : Stmt := top 42
abbrev S_exact : Stmt := top 43
abbrev S_is_ratio : Stmt := top 6
abbrev S_is_amount : Stmt := top 32
abbrev S__is_amounts : Stmt := top 33
abbrev S_wrong_part : Stmt := top 34
abbrev S_check_item : Stmt := top 37
abbrev S_Ledger___init__ : Stmt := inClass (top 51) 2
abbrev S_Ledger__of_kind : Stmt := inClass (top 51) 6
abbrev S_Ledger_entries : Stmt := inClass (top 51) 12
abbrev S_Ledger_statements : Stmt := inClass (top 51) 13
abbrev S_Ledger_numbered : Stmt := inClass (top 51) 11
abbrev S_Ledger__check_number : Stmt := inClass (top 51) 7
abbrev S_Ledger_add : Stmt := inClass (top 51) 8
abbrev S_Ledger_drop : Stmt := inClass (top 51) 9
abbrev S__law_ledger : Stmt := top 79
abbrev S_choices : Stmt := top 45
abbrev S__telling : Stmt := top 46
abbrev S_allowed : Stmt := top 47
abbrev S_telling_all : Stmt := top 48
abbrev S_left : Stmt := top 49
abbrev S__law_amount : Stmt := top 69
abbrev S__law_entry : Stmt := top 70
abbrev S__law_entries : Stmt := top 71
abbrev S__law_grain : Stmt := top 72
abbrev S__law_before : Stmt := top 73
abbrev S__law_told : Stmt := top 74
abbrev S__law_stretch : Stmt := top 78
abbrev S__law_points : Stmt := top 75
abbrev S__law_ends : Stmt := top 76
abbrev S__law_left : Stmt := top 77
abbrev S__law_any_statements : Stmt := top 80
abbrev S__law_true_statements : Stmt := top 86
abbrev S__law_whole : Stmt := top 81
abbrev S_is_last : Stmt := top 54
abbrev S_points_up_to : Stmt := top 55
abbrev S__ascending : Stmt := top 56
abbrev S_cells : Stmt := top 57
abbrev S__some_left : Stmt := top 59
abbrev S__tree : Stmt := top 60
abbrev S_plan : Stmt := top 61
abbrev S_plan_paper : Stmt := top 63
abbrev S__law_said : Stmt := top 87
abbrev S__law_within : Stmt := top 82
abbrev S__law_cell_of : Stmt := top 83
abbrev S__law_asks : Stmt := top 84
abbrev S__law_plan_due : Stmt := top 85
abbrev S__law_right : Stmt := top 88
abbrev S_law : Stmt := top 89
def lsH0 : List Str := ["_wall", "ZERO", "ONE", "is_int", "is_ratio", "lowest", "plus", "minus", "floor_of", "rest_of", "is_less", "arc", "both", "_own_copy", "CutError", "BadItem", "BadDay", "BadStretch", "NoItem", "Full", "NothingLeft", "LAST_DAY", "MOST_AMOUNTS", "AMOUNT_BOUND", "is_day", "_is_many", "is_stretch", "is_amount", "_is_amounts", "wrong_part"]
def lsH1 : List Str := ["check_day", "check_stretch", "check_item", "_total", "_given_before", "sum_before", "point", "exact", "choices", "_telling", "allowed", "telling_all", "left", "Ledger", "MOST_DAYS", "is_last", "points_up_to", "_ascending", "cells", "_some_left", "_tree", "plan", "plan_paper", "_law_bag", "_law_take", "_law_part", "_law_lowest", "_law_amount", "_law_entry", "_law_entries"]
def lsH2 : List Str := ["_law_grain", "_law_before", "_law_told", "_law_points", "_law_ends", "_law_left", "_law_stretch", "_law_ledger", "_law_any_statements", "_law_whole", "_law_within", "_law_cell_of", "_law_asks", "_law_plan_due", "_law_true_statements", "_law_said", "_law_right"]
abbrev lsH : List Str := lsH0 ++ lsH1 ++ lsH2
def fc0 (K : PySem.W.Frag) : Bool := He.eqO (PySem.W.nsIn K mainGlobals "Ledger") (some (some (.ref (He.ga K "Ledger"))))
def fc1 (K : PySem.W.Frag) : Bool := PySem.W.plainGet K (He.ga K "Ledger") Str.empty
def fc2 (K : PySem.W.Frag) : Bool := PySem.W.hasDictIn K (He.ga K "Ledger")
def fc3 (K : PySem.W.Frag) : Bool := PySem.W.plainOver K (He.ga K "Ledger")
def fc4 (K : PySem.W.Frag) : Bool := He.eqO (PySem.W.findIn K (.ref (He.ga K "Ledger")) "__setattr__") (some (some (.builtin "object.__setattr__")))
def fc5 (K : PySem.W.Frag) : Bool := PySem.W.makesIn K (He.ga K "Ledger")
def fc6 (K : PySem.W.Frag) : Bool := PySem.W.keepIn K (.ref (He.ga K "Ledger"))
def fc7 (K : PySem.W.Frag) : Bool := He.eqO (PySem.W.findIn K (.ref (He.ga K "Ledger")) "_items") (some none)
def fc8 (K : PySem.W.Frag) : Bool := He.eqO (PySem.W.findIn K (.ref (He.ga K "Ledger")) "_next_number") (some none)
def fc9 (K : PySem.W.Frag) : Bool := intB K (PySem.W.findIn K (.ref (He.ga K "Ledger")) "MOST_ENTRIES") 6
def fc10 (K : PySem.W.Frag) : Bool := intB K (PySem.W.findIn K (.ref (He.ga K "Ledger")) "MOST_STATEMENTS") 24
def fc11 (K : PySem.W.Frag) : Bool := He.eqO (PySem.W.specialIn K (.builtin "object.__class__") "__get__") (some (some (.builtin "getset_descriptor.__get__")))
def fc12 (K : PySem.W.Frag) : Bool := decide (PySem.W.takesIn K (.builtin "object.__class__") = some true)
def fc13 (K : PySem.W.Frag) : Bool := He.eqO (PySem.W.nsIn K mainGlobals "BadDay") (some (some (.ref (He.ga K "BadDay"))))
def fc14 (K : PySem.W.Frag) : Bool := PySem.W.excIn K (He.ga K "BadDay") [.type "ValueError", .type "Exception", .type "BaseException", .type "object"] "ValueError.__new__"
def fc15 (K : PySem.W.Frag) : Bool := PySem.W.keepIn K (.ref (He.ga K "BadDay"))
def fc16 (K : PySem.W.Frag) : Bool := decide (PySem.W.subIn K (.ref (He.ga K "BadDay")) (.type "BaseException") = some true)
def fc17 (K : PySem.W.Frag) : Bool := decide (PySem.W.typeIn K (.ref (He.ga K "BadDay")) = some (.type "type"))
def fc18 (K : PySem.W.Frag) : Bool := PySem.W.isClsIn K (He.ga K "BadDay")
def fc19 (K : PySem.W.Frag) : Bool := He.eqO (PySem.W.findIn K (.ref (He.ga K "BadDay")) "__getattribute__") (some (some (.builtin "BaseException.__getattribute__")))
def fc20 (K : PySem.W.Frag) : Bool := He.eqO (PySem.W.findIn K (.ref (He.ga K "BadDay")) "__getattr__") (some none)
def fc21 (K : PySem.W.Frag) : Bool := He.eqO (PySem.W.findIn K (.ref (He.ga K "BadDay")) "__class__") (some (some (.builtin "object.__class__")))
def fc22 (K : PySem.W.Frag) : Bool := decide (PySem.W.mroIn K (He.ga K "BadDay") (.type "object") = some true)
def fc23 (K : PySem.W.Frag) : Bool := PySem.W.hasDictIn K (He.ga K "BadDay")
def fc24 (K : PySem.W.Frag) : Bool := decide (PySem.W.kitOne K (.ref (He.ga K "BadDay")) (.type "ValueError") = some true)
def fc25 (K : PySem.W.Frag) : Bool := He.eqO (PySem.W.nsIn K mainGlobals "NothingLeft") (some (some (.ref (He.ga K "NothingLeft"))))
def fc26 (K : PySem.W.Frag) : Bool := PySem.W.excIn K (He.ga K "NothingLeft") [.type "RuntimeError", .type "Exception", .type "BaseException", .type "object"] "RuntimeError.__new__"
def fc27 (K : PySem.W.Frag) : Bool := PySem.W.keepIn K (.ref (He.ga K "NothingLeft"))
def fc28 (K : PySem.W.Frag) : Bool := decide (PySem.W.subIn K (.ref (He.ga K "NothingLeft")) (.type "BaseException") = some true)
def fc29 (K : PySem.W.Frag) : Bool := decide (PySem.W.typeIn K (.ref (He.ga K "NothingLeft")) = some (.type "type"))
def fc30 (K : PySem.W.Frag) : Bool := PySem.W.isClsIn K (He.ga K "NothingLeft")
def fc31 (K : PySem.W.Frag) : Bool := He.eqO (PySem.W.findIn K (.ref (He.ga K "NothingLeft")) "__getattribute__") (some (some (.builtin "BaseException.__getattribute__")))
def fc32 (K : PySem.W.Frag) : Bool := He.eqO (PySem.W.findIn K (.ref (He.ga K "NothingLeft")) "__getattr__") (some none)
def fc33 (K : PySem.W.Frag) : Bool := He.eqO (PySem.W.findIn K (.ref (He.ga K "NothingLeft")) "__class__") (some (some (.builtin "object.__class__")))
def fc34 (K : PySem.W.Frag) : Bool := decide (PySem.W.mroIn K (He.ga K "NothingLeft") (.type "object") = some true)
def fc35 (K : PySem.W.Frag) : Bool := PySem.W.hasDictIn K (He.ga K "NothingLeft")
def fc36 (K : PySem.W.Frag) : Bool := decide (PySem.W.kitOne K (.ref (He.ga K "NothingLeft")) (.type "RuntimeError") = some true)
def fc37 (K : PySem.W.Frag) : Bool := decide (PySem.W.exmOne K (.ref (He.ga K "BadDay")) (.ref (He.ga K "BadDay")) = some true)
def fc38 (K : PySem.W.Frag) : Bool := decide (PySem.W.exmOne K (.ref (He.ga K "BadDay")) (.ref (He.ga K "NothingLeft")) = some false)
def fc39 (K : PySem.W.Frag) : Bool := decide (PySem.W.exmOne K (.ref (He.ga K "NothingLeft")) (.ref (He.ga K "BadDay")) = some false)
def fc40 (K : PySem.W.Frag) : Bool := decide (PySem.W.exmOne K (.ref (He.ga K "NothingLeft")) (.ref (He.ga K "NothingLeft")) = some true)
def fc41 (K : PySem.W.Frag) : Bool := He.eqO (PySem.W.nsIn K mainGlobals "_law_bag") (some (some (.ref (He.ga K "_law_bag"))))
def fc42 (K : PySem.W.Frag) : Bool := He.eqO (PySem.W.nsIn K mainGlobals "_law_take") (some (some (.ref (He.ga K "_law_take"))))
def fc43 (K : PySem.W.Frag) : Bool := He.eqO (PySem.W.nsIn K mainGlobals "_law_part") (some (some (.ref (He.ga K "_law_part"))))
def fc44 (K : PySem.W.Frag) : Bool := He.eqO (PySem.W.nsIn K mainGlobals "_law_lowest") (some (some (.ref (He.ga K "_law_lowest"))))
def fc45 (K : PySem.W.Frag) : Bool := He.eqO (PySem.W.nsIn K mainGlobals "is_int") (some (some (.ref (He.ga K "is_int"))))
def fc46 (K : PySem.W.Frag) : Bool := He.eqO (PySem.W.nsIn K mainGlobals "lowest") (some (some (.ref (He.ga K "lowest"))))
def fc47 (K : PySem.W.Frag) : Bool := He.eqO (PySem.W.nsIn K mainGlobals "plus") (some (some (.ref (He.ga K "plus"))))
def fc48 (K : PySem.W.Frag) : Bool := He.eqO (PySem.W.nsIn K mainGlobals "minus") (some (some (.ref (He.ga K "minus"))))
def fc49 (K : PySem.W.Frag) : Bool := He.eqO (PySem.W.nsIn K mainGlobals "floor_of") (some (some (.ref (He.ga K "floor_of"))))
def fc50 (K : PySem.W.Frag) : Bool := He.eqO (PySem.W.nsIn K mainGlobals "is_less") (some (some (.ref (He.ga K "is_less"))))
def fc51 (K : PySem.W.Frag) : Bool := He.eqO (PySem.W.nsIn K mainGlobals "arc") (some (some (.ref (He.ga K "arc"))))
def fc52 (K : PySem.W.Frag) : Bool := He.eqO (PySem.W.nsIn K mainGlobals "both") (some (some (.ref (He.ga K "both"))))
def fc53 (K : PySem.W.Frag) : Bool := He.eqO (PySem.W.nsIn K mainGlobals "is_day") (some (some (.ref (He.ga K "is_day"))))
def fc54 (K : PySem.W.Frag) : Bool := He.eqO (PySem.W.nsIn K mainGlobals "_is_many") (some (some (.ref (He.ga K "_is_many"))))
def fc55 (K : PySem.W.Frag) : Bool := He.eqO (PySem.W.nsIn K mainGlobals "check_day") (some (some (.ref (He.ga K "check_day"))))
def fc56 (K : PySem.W.Frag) : Bool := He.eqO (PySem.W.nsIn K mainGlobals "is_stretch") (some (some (.ref (He.ga K "is_stretch"))))
def fc57 (K : PySem.W.Frag) : Bool := He.eqO (PySem.W.nsIn K mainGlobals "check_stretch") (some (some (.ref (He.ga K "check_stretch"))))
def fc58 (K : PySem.W.Frag) : Bool := He.eqO (PySem.W.nsIn K mainGlobals "rest_of") (some (some (.ref (He.ga K "rest_of"))))
def fc59 (K : PySem.W.Frag) : Bool := He.eqO (PySem.W.nsIn K mainGlobals "_total") (some (some (.ref (He.ga K "_total"))))
def fc60 (K : PySem.W.Frag) : Bool := He.eqO (PySem.W.nsIn K mainGlobals "_given_before") (some (some (.ref (He.ga K "_given_before"))))
def fc61 (K : PySem.W.Frag) : Bool := He.eqO (PySem.W.nsIn K mainGlobals "sum_before") (some (some (.ref (He.ga K "sum_before"))))
def fc62 (K : PySem.W.Frag) : Bool := He.eqO (PySem.W.nsIn K mainGlobals "point") (some (some (.ref (He.ga K "point"))))
def fc63 (K : PySem.W.Frag) : Bool := He.eqO (PySem.W.nsIn K mainGlobals "exact") (some (some (.ref (He.ga K "exact"))))
def fc64 (K : PySem.W.Frag) : Bool := He.eqO (PySem.W.nsIn K mainGlobals "is_ratio") (some (some (.ref (He.ga K "is_ratio"))))
def fc65 (K : PySem.W.Frag) : Bool := He.eqO (PySem.W.nsIn K mainGlobals "is_amount") (some (some (.ref (He.ga K "is_amount"))))
def fc66 (K : PySem.W.Frag) : Bool := He.eqO (PySem.W.nsIn K mainGlobals "_is_amounts") (some (some (.ref (He.ga K "_is_amounts"))))
def fc67 (K : PySem.W.Frag) : Bool := He.eqO (PySem.W.nsIn K mainGlobals "wrong_part") (some (some (.ref (He.ga K "wrong_part"))))
def fc68 (K : PySem.W.Frag) : Bool := He.eqO (PySem.W.nsIn K mainGlobals "check_item") (some (some (.ref (He.ga K "check_item"))))
def fc69 (K : PySem.W.Frag) : Bool := He.eqO (PySem.W.findIn K (.ref (He.ga K "Ledger")) "__init__") (some (some (.ref (He.ma K (He.ga K "Ledger") "__init__"))))
def fc70 (K : PySem.W.Frag) : Bool := PySem.W.isFn K (.ref (He.ma K (He.ga K "Ledger") "__init__"))
def fc71 (K : PySem.W.Frag) : Bool := He.eqO (PySem.W.findIn K (.ref (He.ga K "Ledger")) "_of_kind") (some (some (.ref (He.ma K (He.ga K "Ledger") "_of_kind"))))
def fc72 (K : PySem.W.Frag) : Bool := PySem.W.isFn K (.ref (He.ma K (He.ga K "Ledger") "_of_kind"))
def fc73 (K : PySem.W.Frag) : Bool := He.eqO (PySem.W.findIn K (.ref (He.ga K "Ledger")) "entries") (some (some (.ref (He.ma K (He.ga K "Ledger") "entries"))))
def fc74 (K : PySem.W.Frag) : Bool := PySem.W.isFn K (.ref (He.ma K (He.ga K "Ledger") "entries"))
def fc75 (K : PySem.W.Frag) : Bool := He.eqO (PySem.W.findIn K (.ref (He.ga K "Ledger")) "statements") (some (some (.ref (He.ma K (He.ga K "Ledger") "statements"))))
def fc76 (K : PySem.W.Frag) : Bool := PySem.W.isFn K (.ref (He.ma K (He.ga K "Ledger") "statements"))
def fc77 (K : PySem.W.Frag) : Bool := He.eqO (PySem.W.findIn K (.ref (He.ga K "Ledger")) "numbered") (some (some (.ref (He.ma K (He.ga K "Ledger") "numbered"))))
def fc78 (K : PySem.W.Frag) : Bool := PySem.W.isFn K (.ref (He.ma K (He.ga K "Ledger") "numbered"))
def fc79 (K : PySem.W.Frag) : Bool := He.eqO (PySem.W.findIn K (.ref (He.ga K "Ledger")) "_check_number") (some (some (.ref (He.ma K (He.ga K "Ledger") "_check_number"))))
def fc80 (K : PySem.W.Frag) : Bool := PySem.W.isFn K (.ref (He.ma K (He.ga K "Ledger") "_check_number"))
def fc81 (K : PySem.W.Frag) : Bool := He.eqO (PySem.W.findIn K (.ref (He.ga K "Ledger")) "add") (some (some (.ref (He.ma K (He.ga K "Ledger") "add"))))
def fc82 (K : PySem.W.Frag) : Bool := PySem.W.isFn K (.ref (He.ma K (He.ga K "Ledger") "add"))
def fc83 (K : PySem.W.Frag) : Bool := He.eqO (PySem.W.findIn K (.ref (He.ga K "Ledger")) "drop") (some (some (.ref (He.ma K (He.ga K "Ledger") "drop"))))
def fc84 (K : PySem.W.Frag) : Bool := PySem.W.isFn K (.ref (He.ma K (He.ga K "Ledger") "drop"))
def fc85 (K : PySem.W.Frag) : Bool := He.eqO (PySem.W.nsIn K mainGlobals "_law_ledger") (some (some (.ref (He.ga K "_law_ledger"))))
def fc86 (K : PySem.W.Frag) : Bool := He.eqO (PySem.W.nsIn K mainGlobals "choices") (some (some (.ref (He.ga K "choices"))))
def fc87 (K : PySem.W.Frag) : Bool := He.eqO (PySem.W.nsIn K mainGlobals "_telling") (some (some (.ref (He.ga K "_telling"))))
def fc88 (K : PySem.W.Frag) : Bool := He.eqO (PySem.W.nsIn K mainGlobals "allowed") (some (some (.ref (He.ga K "allowed"))))
def fc89 (K : PySem.W.Frag) : Bool := He.eqO (PySem.W.nsIn K mainGlobals "telling_all") (some (some (.ref (He.ga K "telling_all"))))
def fc90 (K : PySem.W.Frag) : Bool := He.eqO (PySem.W.nsIn K mainGlobals "left") (some (some (.ref (He.ga K "left"))))
def fc91 (K : PySem.W.Frag) : Bool := He.eqO (PySem.W.nsIn K mainGlobals "_law_amount") (some (some (.ref (He.ga K "_law_amount"))))
def fc92 (K : PySem.W.Frag) : Bool := He.eqO (PySem.W.nsIn K mainGlobals "_law_entry") (some (some (.ref (He.ga K "_law_entry"))))
def fc93 (K : PySem.W.Frag) : Bool := He.eqO (PySem.W.nsIn K mainGlobals "_law_entries") (some (some (.ref (He.ga K "_law_entries"))))
def fc94 (K : PySem.W.Frag) : Bool := He.eqO (PySem.W.nsIn K mainGlobals "_law_grain") (some (some (.ref (He.ga K "_law_grain"))))
def fc95 (K : PySem.W.Frag) : Bool := He.eqO (PySem.W.nsIn K mainGlobals "_law_before") (some (some (.ref (He.ga K "_law_before"))))
def fc96 (K : PySem.W.Frag) : Bool := He.eqO (PySem.W.nsIn K mainGlobals "_law_told") (some (some (.ref (He.ga K "_law_told"))))
def fc97 (K : PySem.W.Frag) : Bool := He.eqO (PySem.W.nsIn K mainGlobals "_law_stretch") (some (some (.ref (He.ga K "_law_stretch"))))
def fc98 (K : PySem.W.Frag) : Bool := He.eqO (PySem.W.nsIn K mainGlobals "_law_points") (some (some (.ref (He.ga K "_law_points"))))
def fc99 (K : PySem.W.Frag) : Bool := He.eqO (PySem.W.nsIn K mainGlobals "_law_ends") (some (some (.ref (He.ga K "_law_ends"))))
def fc100 (K : PySem.W.Frag) : Bool := He.eqO (PySem.W.nsIn K mainGlobals "_law_left") (some (some (.ref (He.ga K "_law_left"))))
def fc101 (K : PySem.W.Frag) : Bool := He.eqO (PySem.W.nsIn K mainGlobals "_law_any_statements") (some (some (.ref (He.ga K "_law_any_statements"))))
def fc102 (K : PySem.W.Frag) : Bool := He.eqO (PySem.W.nsIn K mainGlobals "_law_true_statements") (some (some (.ref (He.ga K "_law_true_statements"))))
def fc103 (K : PySem.W.Frag) : Bool := He.eqO (PySem.W.nsIn K mainGlobals "_law_whole") (some (some (.ref (He.ga K "_law_whole"))))
def fc104 (K : PySem.W.Frag) : Bool := He.eqO (PySem.W.nsIn K mainGlobals "is_last") (some (some (.ref (He.ga K "is_last"))))
def fc105 (K : PySem.W.Frag) : Bool := He.eqO (PySem.W.nsIn K mainGlobals "points_up_to") (some (some (.ref (He.ga K "points_up_to"))))
def fc106 (K : PySem.W.Frag) : Bool := He.eqO (PySem.W.nsIn K mainGlobals "_ascending") (some (some (.ref (He.ga K "_ascending"))))
def fc107 (K : PySem.W.Frag) : Bool := He.eqO (PySem.W.nsIn K mainGlobals "cells") (some (some (.ref (He.ga K "cells"))))
def fc108 (K : PySem.W.Frag) : Bool := He.eqO (PySem.W.nsIn K mainGlobals "_some_left") (some (some (.ref (He.ga K "_some_left"))))
def fc109 (K : PySem.W.Frag) : Bool := He.eqO (PySem.W.nsIn K mainGlobals "_tree") (some (some (.ref (He.ga K "_tree"))))
def fc110 (K : PySem.W.Frag) : Bool := He.eqO (PySem.W.nsIn K mainGlobals "plan") (some (some (.ref (He.ga K "plan"))))
def fc111 (K : PySem.W.Frag) : Bool := He.eqO (PySem.W.nsIn K mainGlobals "plan_paper") (some (some (.ref (He.ga K "plan_paper"))))
def fc112 (K : PySem.W.Frag) : Bool := He.eqO (PySem.W.nsIn K mainGlobals "_law_said") (some (some (.ref (He.ga K "_law_said"))))
def fc113 (K : PySem.W.Frag) : Bool := He.eqO (PySem.W.nsIn K mainGlobals "_law_within") (some (some (.ref (He.ga K "_law_within"))))
def fc114 (K : PySem.W.Frag) : Bool := He.eqO (PySem.W.nsIn K mainGlobals "_law_cell_of") (some (some (.ref (He.ga K "_law_cell_of"))))
def fc115 (K : PySem.W.Frag) : Bool := He.eqO (PySem.W.nsIn K mainGlobals "_law_asks") (some (some (.ref (He.ga K "_law_asks"))))
def fc116 (K : PySem.W.Frag) : Bool := He.eqO (PySem.W.nsIn K mainGlobals "_law_plan_due") (some (some (.ref (He.ga K "_law_plan_due"))))
def fc117 (K : PySem.W.Frag) : Bool := He.eqO (PySem.W.nsIn K mainGlobals "_law_right") (some (some (.ref (He.ga K "_law_right"))))
def fc118 (K : PySem.W.Frag) : Bool := He.eqO (PySem.W.nsIn K mainGlobals "law") (some (some (.ref (He.ga K "law"))))
def fc119 (K : PySem.W.Frag) : Bool := He.eqO (PySem.W.nsIn K mainGlobals "gcd") (some (some (.builtin "math.gcd")))
def fc120 (K : PySem.W.Frag) : Bool := He.eqO (PySem.W.nsIn K mainGlobals "ONE") (some (some (.ref (He.ga K "ONE"))))
def fc121 (K : PySem.W.Frag) : Bool := tupO K (He.ga K "ONE") [V.int 1, V.int 1]
def fc122 (K : PySem.W.Frag) : Bool := He.eqO (PySem.W.nsIn K mainGlobals "ZERO") (some (some (.ref (He.ga K "ZERO"))))
def fc123 (K : PySem.W.Frag) : Bool := tupO K (He.ga K "ZERO") [V.int 0, V.int 1]
def fc124 (K : PySem.W.Frag) : Bool := intC (PySem.W.nsIn K mainGlobals "LAST_DAY") 1000000000000000000000000000000
def fc125 (K : PySem.W.Frag) : Bool := intC (PySem.W.nsIn K mainGlobals "AMOUNT_BOUND") 1000000
def fc126 (K : PySem.W.Frag) : Bool := intC (PySem.W.nsIn K mainGlobals "MOST_AMOUNTS") 4
def fc127 (K : PySem.W.Frag) : Bool := intC (PySem.W.nsIn K mainGlobals "MOST_DAYS") 200
def fc128 (K : PySem.W.Frag) : Bool := He.eqO (PySem.W.nsIn K mainGlobals "lcm") (some (some (.builtin "math.lcm")))
def fc129 (K : PySem.W.Frag) : Bool := He.eqO (PySem.W.nsIn K mainGlobals "abs") (some none)
def fc130 (K : PySem.W.Frag) : Bool := He.eqO (PySem.W.nsIn K mainGlobals "len") (some none)
def fc131 (K : PySem.W.Frag) : Bool := He.eqO (PySem.W.nsIn K mainGlobals "isinstance") (some none)
def fc132 (K : PySem.W.Frag) : Bool := He.eqO (PySem.W.nsIn K mainGlobals "bool") (some none)
def fc133 (K : PySem.W.Frag) : Bool := He.eqO (PySem.W.nsIn K mainGlobals "int") (some none)
def fc134 (K : PySem.W.Frag) : Bool := He.eqO (PySem.W.nsIn K mainGlobals "tuple") (some none)
def fc135 (K : PySem.W.Frag) : Bool := He.eqO (PySem.W.nsIn K mainGlobals "zip") (some none)
def fc136 (K : PySem.W.Frag) : Bool := He.eqO (PySem.W.nsIn K mainGlobals "range") (some none)
def fc137 (K : PySem.W.Frag) : Bool := He.eqO (PySem.W.nsIn K mainGlobals "divmod") (some none)
def fc138 (K : PySem.W.Frag) : Bool := He.eqO (PySem.W.nsIn K mainGlobals "min") (some none)
def fc139 (K : PySem.W.Frag) : Bool := He.eqO (PySem.W.nsIn K mainGlobals "max") (some none)
def fc140 (K : PySem.W.Frag) : Bool := He.eqO (PySem.W.nsIn K mainGlobals "all") (some none)
def fc141 (K : PySem.W.Frag) : Bool := He.eqO (PySem.W.nsIn K mainGlobals "list") (some none)
def fc142 (K : PySem.W.Frag) : Bool := He.eqO (PySem.W.nsIn K mainGlobals "sum") (some none)
def fc143 (K : PySem.W.Frag) : Bool := He.eqO (PySem.W.nsIn K mainGlobals "set") (some none)
def fc144 (K : PySem.W.Frag) : Bool := He.eqO (PySem.W.nsIn K mainGlobals "sorted") (some none)
def fc145 (K : PySem.W.Frag) : Bool := He.eqO (PySem.W.nsIn K mainGlobals "enumerate") (some none)
def fc146 (K : PySem.W.Frag) : Bool := He.eqO (PySem.W.nsIn K mainGlobals "RuntimeError") (some none)
def fc147 (K : PySem.W.Frag) : Bool := He.eqO (PySem.W.nsIn K mainGlobals "ValueError") (some none)
def fc148 (K : PySem.W.Frag) : Bool := He.eqO (PySem.W.nsIn K mainGlobals "str") (some none)
def faH0 : List (PySem.W.Frag → Bool) := [fc0, fc1, fc2, fc3, fc4, fc5, fc6, fc7, fc8, fc9, fc10, fc11, fc12, fc13, fc14, fc15, fc16, fc17, fc18, fc19, fc20, fc21, fc22, fc23, fc24, fc25, fc26, fc27, fc28, fc29, fc30, fc31, fc32, fc33, fc34, fc35, fc36, fc37, fc38, fc39, fc40, fc41, fc42, fc43, fc44, fc45, fc46, fc47, fc48, fc49]
def faH1 : List (PySem.W.Frag → Bool) := [fc50, fc51, fc52, fc53, fc54, fc55, fc56, fc57, fc58, fc59, fc60, fc61, fc62, fc63, fc64, fc65, fc66, fc67, fc68, fc69, fc70, fc71, fc72, fc73, fc74, fc75, fc76, fc77, fc78, fc79, fc80, fc81, fc82, fc83, fc84, fc85, fc86, fc87, fc88, fc89, fc90, fc91, fc92, fc93, fc94, fc95, fc96, fc97, fc98, fc99]
def faH2 : List (PySem.W.Frag → Bool) := [fc100, fc101, fc102, fc103, fc104, fc105, fc106, fc107, fc108, fc109, fc110, fc111, fc112, fc113, fc114, fc115, fc116, fc117, fc118, fc119, fc120, fc121, fc122, fc123, fc124, fc125, fc126, fc127, fc128, fc129, fc130, fc131, fc132, fc133, fc134, fc135, fc136, fc137, fc138, fc139, fc140, fc141, fc142, fc143, fc144, fc145, fc146, fc147, fc148]
def faH : List (PySem.W.Frag → Bool) := faH0 ++ faH1 ++ faH2
def fnH : List FnO := [⟨fun K => (He.ga K "_law_bag"), "_law_bag", "_law_bag", defArgs S__law_bag, defBody S__law_bag, defScope S__law_bag⟩,
  ⟨fun K => (He.ga K "_law_take"), "_law_take", "_law_take", defArgs S__law_take, defBody S__law_take, defScope S__law_take⟩,
  ⟨fun K => (He.ga K "_law_part"), "_law_part", "_law_part", defArgs S__law_part, defBody S__law_part, defScope S__law_part⟩,
  ⟨fun K => (He.ga K "_law_lowest"), "_law_lowest", "_law_lowest", defArgs S__law_lowest, defBody S__law_lowest, defScope S__law_lowest⟩,
  ⟨fun K => (He.ga K "is_int"), "is_int", "is_int", defArgs S_is_int, defBody S_is_int, defScope S_is_int⟩,
  ⟨fun K => (He.ga K "lowest"), "lowest", "lowest", defArgs S_lowest, defBody S_lowest, defScope S_lowest⟩,
  ⟨fun K => (He.ga K "plus"), "plus", "plus", defArgs S_plus, defBody S_plus, defScope S_plus⟩,
  ⟨fun K => (He.ga K "minus"), "minus", "minus", defArgs S_minus, defBody S_minus, defScope S_minus⟩,
  ⟨fun K => (He.ga K "floor_of"), "floor_of", "floor_of", defArgs S_floor_of, defBody S_floor_of, defScope S_floor_of⟩,
  ⟨fun K => (He.ga K "is_less"), "is_less", "is_less", defArgs S_is_less, defBody S_is_less, defScope S_is_less⟩,
  ⟨fun K => (He.ga K "arc"), "arc", "arc", defArgs S_arc, defBody S_arc, defScope S_arc⟩,
  ⟨fun K => (He.ga K "both"), "both", "both", defArgs S_both, defBody S_both, defScope S_both⟩,
  ⟨fun K => (He.ga K "is_day"), "is_day", "is_day", defArgs S_is_day, defBody S_is_day, defScope S_is_day⟩,
  ⟨fun K => (He.ga K "_is_many"), "_is_many", "_is_many", defArgs S__is_many, defBody S__is_many, defScope S__is_many⟩,
  ⟨fun K => (He.ga K "check_day"), "check_day", "check_day", defArgs S_check_day, defBody S_check_day, defScope S_check_day⟩,
  ⟨fun K => (He.ga K "is_stretch"), "is_stretch", "is_stretch", defArgs S_is_stretch, defBody S_is_stretch, defScope S_is_stretch⟩,
  ⟨fun K => (He.ga K "check_stretch"), "check_stretch", "check_stretch", defArgs S_check_stretch, defBody S_check_stretch, defScope S_check_stretch⟩,
  ⟨fun K => (He.ga K "rest_of"), "rest_of", "rest_of", defArgs S_rest_of, defBody S_rest_of, defScope S_rest_of⟩,
  ⟨fun K => (He.ga K "_total"), "_total", "_total", defArgs S__total, defBody S__total, defScope S__total⟩,
  ⟨fun K => (He.ga K "_given_before"), "_given_before", "_given_before", defArgs S__given_before, defBody S__given_before, defScope S__given_before⟩,
  ⟨fun K => (He.ga K "sum_before"), "sum_before", "sum_before", defArgs S_sum_before, defBody S_sum_before, defScope S_sum_before⟩,
  ⟨fun K => (He.ga K "point"), "point", "point", defArgs S_point, defBody S_point, defScope S_point⟩,
  ⟨fun K => (He.ga K "exact"), "exact", "exact", defArgs S_exact, defBody S_exact, defScope S_exact⟩,
  ⟨fun K => (He.ga K "is_ratio"), "is_ratio", "is_ratio", defArgs S_is_ratio, defBody S_is_ratio, defScope S_is_ratio⟩,
  ⟨fun K => (He.ga K "is_amount"), "is_amount", "is_amount", defArgs S_is_amount, defBody S_is_amount, defScope S_is_amount⟩,
  ⟨fun K => (He.ga K "_is_amounts"), "_is_amounts", "_is_amounts", defArgs S__is_amounts, defBody S__is_amounts, defScope S__is_amounts⟩,
  ⟨fun K => (He.ga K "wrong_part"), "wrong_part", "wrong_part", defArgs S_wrong_part, defBody S_wrong_part, defScope S_wrong_part⟩,
  ⟨fun K => (He.ga K "check_item"), "check_item", "check_item", defArgs S_check_item, defBody S_check_item, defScope S_check_item⟩,
  ⟨fun K => (He.ma K (He.ga K "Ledger") "__init__"), "__init__", "Ledger.__init__", defArgs S_Ledger___init__, defBody S_Ledger___init__, defScope S_Ledger___init__⟩,
  ⟨fun K => (He.ma K (He.ga K "Ledger") "_of_kind"), "_of_kind", "Ledger._of_kind", defArgs S_Ledger__of_kind, defBody S_Ledger__of_kind, defScope S_Ledger__of_kind⟩,
  ⟨fun K => (He.ma K (He.ga K "Ledger") "entries"), "entries", "Ledger.entries", defArgs S_Ledger_entries, defBody S_Ledger_entries, defScope S_Ledger_entries⟩,
  ⟨fun K => (He.ma K (He.ga K "Ledger") "statements"), "statements", "Ledger.statements", defArgs S_Ledger_statements, defBody S_Ledger_statements, defScope S_Ledger_statements⟩,
  ⟨fun K => (He.ma K (He.ga K "Ledger") "numbered"), "numbered", "Ledger.numbered", defArgs S_Ledger_numbered, defBody S_Ledger_numbered, defScope S_Ledger_numbered⟩,
  ⟨fun K => (He.ma K (He.ga K "Ledger") "_check_number"), "_check_number", "Ledger._check_number", defArgs S_Ledger__check_number, defBody S_Ledger__check_number, defScope S_Ledger__check_number⟩,
  ⟨fun K => (He.ma K (He.ga K "Ledger") "add"), "add", "Ledger.add", defArgs S_Ledger_add, defBody S_Ledger_add, defScope S_Ledger_add⟩,
  ⟨fun K => (He.ma K (He.ga K "Ledger") "drop"), "drop", "Ledger.drop", defArgs S_Ledger_drop, defBody S_Ledger_drop, defScope S_Ledger_drop⟩,
  ⟨fun K => (He.ga K "_law_ledger"), "_law_ledger", "_law_ledger", defArgs S__law_ledger, defBody S__law_ledger, defScope S__law_ledger⟩,
  ⟨fun K => (He.ga K "choices"), "choices", "choices", defArgs S_choices, defBody S_choices, defScope S_choices⟩,
  ⟨fun K => (He.ga K "_telling"), "_telling", "_telling", defArgs S__telling, defBody S__telling, defScope S__telling⟩,
  ⟨fun K => (He.ga K "allowed"), "allowed", "allowed", defArgs S_allowed, defBody S_allowed, defScope S_allowed⟩,
  ⟨fun K => (He.ga K "telling_all"), "telling_all", "telling_all", defArgs S_telling_all, defBody S_telling_all, defScope S_telling_all⟩,
  ⟨fun K => (He.ga K "left"), "left", "left", defArgs S_left, defBody S_left, defScope S_left⟩,
  ⟨fun K => (He.ga K "_law_amount"), "_law_amount", "_law_amount", defArgs S__law_amount, defBody S__law_amount, defScope S__law_amount⟩,
  ⟨fun K => (He.ga K "_law_entry"), "_law_entry", "_law_entry", defArgs S__law_entry, defBody S__law_entry, defScope S__law_entry⟩,
  ⟨fun K => (He.ga K "_law_entries"), "_law_entries", "_law_entries", defArgs S__law_entries, defBody S__law_entries, defScope S__law_entries⟩,
  ⟨fun K => (He.ga K "_law_grain"), "_law_grain", "_law_grain", defArgs S__law_grain, defBody S__law_grain, defScope S__law_grain⟩,
  ⟨fun K => (He.ga K "_law_before"), "_law_before", "_law_before", defArgs S__law_before, defBody S__law_before, defScope S__law_before⟩,
  ⟨fun K => (He.ga K "_law_told"), "_law_told", "_law_told", defArgs S__law_told, defBody S__law_told, defScope S__law_told⟩,
  ⟨fun K => (He.ga K "_law_stretch"), "_law_stretch", "_law_stretch", defArgs S__law_stretch, defBody S__law_stretch, defScope S__law_stretch⟩,
  ⟨fun K => (He.ga K "_law_points"), "_law_points", "_law_points", defArgs S__law_points, defBody S__law_points, defScope S__law_points⟩,
  ⟨fun K => (He.ga K "_law_ends"), "_law_ends", "_law_ends", defArgs S__law_ends, defBody S__law_ends, defScope S__law_ends⟩,
  ⟨fun K => (He.ga K "_law_left"), "_law_left", "_law_left", defArgs S__law_left, defBody S__law_left, defScope S__law_left⟩,
  ⟨fun K => (He.ga K "_law_any_statements"), "_law_any_statements", "_law_any_statements", defArgs S__law_any_statements, defBody S__law_any_statements, defScope S__law_any_statements⟩,
  ⟨fun K => (He.ga K "_law_true_statements"), "_law_true_statements", "_law_true_statements", defArgs S__law_true_statements, defBody S__law_true_statements, defScope S__law_true_statements⟩,
  ⟨fun K => (He.ga K "_law_whole"), "_law_whole", "_law_whole", defArgs S__law_whole, defBody S__law_whole, defScope S__law_whole⟩,
  ⟨fun K => (He.ga K "is_last"), "is_last", "is_last", defArgs S_is_last, defBody S_is_last, defScope S_is_last⟩,
  ⟨fun K => (He.ga K "points_up_to"), "points_up_to", "points_up_to", defArgs S_points_up_to, defBody S_points_up_to, defScope S_points_up_to⟩,
  ⟨fun K => (He.ga K "_ascending"), "_ascending", "_ascending", defArgs S__ascending, defBody S__ascending, defScope S__ascending⟩,
  ⟨fun K => (He.ga K "cells"), "cells", "cells", defArgs S_cells, defBody S_cells, defScope S_cells⟩,
  ⟨fun K => (He.ga K "_some_left"), "_some_left", "_some_left", defArgs S__some_left, defBody S__some_left, defScope S__some_left⟩,
  ⟨fun K => (He.ga K "_tree"), "_tree", "_tree", defArgs S__tree, defBody S__tree, defScope S__tree⟩,
  ⟨fun K => (He.ga K "plan"), "plan", "plan", defArgs S_plan, defBody S_plan, defScope S_plan⟩,
  ⟨fun K => (He.ga K "plan_paper"), "plan_paper", "plan_paper", defArgs S_plan_paper, defBody S_plan_paper, defScope S_plan_paper⟩,
  ⟨fun K => (He.ga K "_law_said"), "_law_said", "_law_said", defArgs S__law_said, defBody S__law_said, defScope S__law_said⟩,
  ⟨fun K => (He.ga K "_law_within"), "_law_within", "_law_within", defArgs S__law_within, defBody S__law_within, defScope S__law_within⟩,
  ⟨fun K => (He.ga K "_law_cell_of"), "_law_cell_of", "_law_cell_of", defArgs S__law_cell_of, defBody S__law_cell_of, defScope S__law_cell_of⟩,
  ⟨fun K => (He.ga K "_law_asks"), "_law_asks", "_law_asks", defArgs S__law_asks, defBody S__law_asks, defScope S__law_asks⟩,
  ⟨fun K => (He.ga K "_law_plan_due"), "_law_plan_due", "_law_plan_due", defArgs S__law_plan_due, defBody S__law_plan_due, defScope S__law_plan_due⟩,
  ⟨fun K => (He.ga K "_law_right"), "_law_right", "_law_right", defArgs S__law_right, defBody S__law_right, defScope S__law_right⟩,
  ⟨fun K => (He.ga K "law"), "law", "law", defArgs S_law, defBody S_law, defScope S_law⟩]
abbrev asH : List Addr := List.range 1000
abbrev RH : PySem.W.OpenRow := PySem.W.OpenLaw.row PySem.Challenge.rw_onecut_k76_papers_of_plans
abbrev hkH : PySem.W.Hook := hookO asH faH fnH
def obH (s : PySem.W.SharedT) : AlO := obsOG asH faH fnH (HandSHeadRun.getT s)
theorem obH_eq (s : PySem.W.SharedT) : obH s = hkH.obs s.abs := obsOG_eq (HandSHeadRun.getT_eq s)
noncomputable abbrev wrH (w : World) := HandSHeadRun.wholeF (fun p => HandSHeadRun.stepQ (HandSHeadRun.denQ HandSHeadRun.tabQ) p w) HandSHeadRun.fenceQ 12000 RH.prog
abbrev vwH : Program := PySem.W.view RH.prog [0, 89]
theorem runH1 (w : World) : (wrH w).map (fun x => (HandSHeadRun.looksF RH.prog x.1.heap x.2.abs, HandSHeadRun.seenQ vwH lsH (PySem.importedModules RH.prog.main.body) (fun s => PySem.W.xlAt vwH [] s && PySem.W.recOk RH.toRowW.records s) x.2.abs)) = some (true, PySem.W.openGood vwH lsH) := by kernel_rfl
theorem runH2 (w : World) : (wrH w).map (fun x => (obH x.2).1) = some true := by kernel_rfl
theorem runH3 (w : World) : (wrH w).map (fun x => (obH x.2).2) = some (fnH.map FnO.val) := by kernel_rfl
theorem runH (w : World) : HandSHeadRun.RunEqI RH vwH hkH obH 12000 lsH w := opt3 (runH1 w) (runH2 w) (runH3 w)
end Ob
namespace Ob
open PySem PySem.Spec PyProof.Rows L2
section
variable {K : PySem.W.Frag} {H J : Hp} {a b p l D : Addr} {xs ys : List V} {o : HO} {σ : L2.St} {te : TE} {g : TG} {vs : List Nat}
theorem rd_tpar3 {i j k : Nat} {ta : TA} {E : Ends} (q : ta σ H fun vs H1 => ∃ u v w, vs = [u, v, w] ∧ E.nx (((σ.set i (some u)).set j (some v)).set k (some w)) H1) : tPar3 i j k ta E σ H := q
theorem rd_par3 {i j k : Nat} {x y z : V} {E : Ends} {τ : L2.St} (e : ((σ.set i (some x)).set j (some y)).set k (some z) = τ) (q : E.nx τ H) : ∃ u v w, [x, y, z] = [u, v, w] ∧ E.nx (((σ.set i (some u)).set j (some v)).set k (some w)) H := by
  subst e
  exact ⟨x, y, z, rfl, q⟩
theorem Kp.pu {M : Hp} (k : Kp b H M) (u : Pu l M J) (n : H l = none) : Kp b H J := fun a o ne e => u.1 a o (ne_of_none e n) (k a o ne e)
theorem Same.pu {M : Hp} (k : Same H M) (u : Pu l M J) (n : H l = none) : Same H J := fun a o e => u.1 a o (ne_of_none e n) (k a o e)
/-! ### a comprehension whose element may lay objects -/
def LcEnd (D : Addr) (H : Hp) (P : List V → Hp → Prop) (i : Nat) (y : V) (J : Hp) : Prop := ∃ acc, J D = some (.lst acc) ∧ acc.length < sizeLine ∧ ∃ ys, ys.length = i ∧ Kp D H (upd J D (.lst (acc ++ [y]))) ∧ (upd J D (.lst (acc ++ [y]))) D = some (.lst ys) ∧ P ys (upd J D (.lst (acc ++ [y])))
theorem lcEnd_mk {P : List V → Hp → Prop} {i : Nat} {y : V} (h : J D = some (.lst ys)) (hl : ys.length = i) (hz : i ≤ 500) (k : Kp D H J) (q : ∀ J4, Pu D J J4 → J4 D = some (.lst (ys ++ [y])) → P (ys ++ [y]) J4) : LcEnd D H P (i + 1) y J :=
  ⟨ys, h, small1000 (by omega), ys ++ [y], by rw [List.length_append, hl]; rfl, k.trans Kp.at, upd_same, q _ ⟨Kp.at, ⟨_, h⟩, ⟨_, upd_same⟩⟩ upd_same⟩
theorem lc_growL (P : List V → Hp → Prop) {Qd : Hp → Prop} (hT : H a = some (.lst xs)) (hl : xs.length ≤ 500) (hD : H D = none) (h0 : ∀ J, Kp D H J → P [] J)
    (he : ∀ (i : Nat) x ys J, xs[i]? = some x → i ≤ 500 → ys.length = i → Kp D H J → J D = some (.lst ys) → P ys J → g x (wipe σ vs) J fun σ2 J2 => wipe σ2 vs = wipe σ vs ∧ te σ2 J2 fun y J3 => LcEnd D H P (i + 1) y J3)
    (hd : ∀ ys J, ys.length = xs.length → Kp D H J → J D = some (.lst ys) → P ys J → Qd J) : Lc (Itl K a) g tYes te vs σ Qd H D := by
  have ne : a ≠ D := ne_of_none hT hD
  refine lc_list (xs := xs) (fun i J => ∃ ys, ys.length = i ∧ Kp D H J ∧ J D = some (.lst ys) ∧ P ys J) ⟨[], rfl, Kp.new hD, upd_same, h0 _ (Kp.new hD)⟩ (fun i J _ w => ?_) (fun i x J hx w => ?_) fun J w => ?_
  · obtain ⟨ys, _, k, _⟩ := w
    exact SqL.of (k a _ ne hT)
  · obtain ⟨ys, e, k, hJ, p⟩ := w
    have lt : i < xs.length := (List.getElem?_eq_some_iff.mp hx).1
    exact he i x ys J hx (by omega) e k hJ p
  · obtain ⟨ys, e, k, hJ, p⟩ := w
    exact hd ys J e k hJ p
/-- the same over range(n) -/
theorem lc_growR (P : List V → Hp → Prop) {n : Nat} {Qd : Hp → Prop} (hl : n ≤ 500) (hD : H D = none) (h0 : ∀ J, Kp D H J → P [] J)
    (he : ∀ (i : Nat) ys J, i < n → ys.length = i → Kp D H J → J D = some (.lst ys) → P ys J → g (.int (0 + (i : Int))) (wipe σ vs) J fun σ2 J2 => wipe σ2 vs = wipe σ vs ∧ te σ2 J2 fun y J3 => LcEnd D H P (i + 1) y J3)
    (hd : ∀ ys J, ys.length = n → Kp D H J → J D = some (.lst ys) → P ys J → Qd J) : Lc (Itr 0 n) g tYes te vs σ Qd H D := by
  refine lc_range (fun i J => ∃ ys, ys.length = i ∧ Kp D H J ∧ J D = some (.lst ys) ∧ P ys J) ⟨[], rfl, Kp.new hD, upd_same, h0 _ (Kp.new hD)⟩ (fun i J hi w => ?_) fun J w => ?_
  · obtain ⟨ys, e, k, hJ, p⟩ := w
    exact he i ys J hi e k hJ p
  · obtain ⟨ys, e, k, hJ, p⟩ := w
    exact hd ys J e k hJ p
theorem rd_forL {tl : TE} {tb : TS} {E : Ends} (q : tl σ H fun x H1 => ∃ a, x = .ref a ∧ (∃ xs, SqL K H1 a xs) ∧ Lp (Itl K a) g tb E σ H1) : tFor (iList K tl) g tb E σ H := q
theorem lp_lst {tb : TS} {E : Ends} (Pv : Nat → L2.St → Hp → Prop) (h0 : Pv 0 σ H) (hl : ∀ i σ H, i ≤ xs.length → Pv i σ H → SqL K H a xs)
    (hs : ∀ i x σ H, xs[i]? = some x → Pv i σ H → g x σ H fun σ2 H2 => tb { E with nx := Pv (i + 1), ct := Pv (i + 1), bk := E.nx } σ2 H2) (hd : ∀ σ H, Pv xs.length σ H → E.nx σ H) : Lp (Itl K a) g tb E σ H := for_list Pv h0 hl hs hd
/-! ### pairs of places -/
inductive PrsAt (H : Hp) : List V → List (Nat × Nat) → Prop
  | nil : PrsAt H [] []
  | cons {c : Addr} {rs : List V} {lo hi : Nat} {ps : List (Nat × Nat)} (h : H c = some (.tup [.int lo, .int hi])) (t : PrsAt H rs ps) : PrsAt H (.ref c :: rs) ((lo, hi) :: ps)
theorem PrsAt.mono (m : ∀ c xs, H c = some (.tup xs) → J c = some (.tup xs)) : ∀ {rs : List V} {ps : List (Nat × Nat)}, PrsAt H rs ps → PrsAt J rs ps
  | _, _, .nil => .nil
  | _, _, .cons h t => .cons (m _ _ h) (t.mono m)
theorem PrsAt.app : ∀ {rs ts : List V} {ps qs : List (Nat × Nat)}, PrsAt H rs ps → PrsAt H ts qs → PrsAt H (rs ++ ts) (ps ++ qs)
  | _, _, _, _, .nil, k => k
  | _, _, _, _, .cons h t, k => .cons h (t.app k)
theorem PrsAt.get : ∀ {rs : List V} {ps : List (Nat × Nat)} {i : Nat} {r : V}, PrsAt H rs ps → rs[i]? = some r → ∃ c lo hi, r = .ref c ∧ ps[i]? = some (lo, hi) ∧ H c = some (.tup [.int lo, .int hi])
  | _, _, _, _, .nil, e => by simp at e
  | _, _, 0, _, .cons h t, e => by
    cases Option.some.inj (show some _ = some _ from e)
    exact ⟨_, _, _, rfl, rfl, h⟩
  | _, _, i + 1, _, .cons h t, e => t.get (i := i) e
theorem PrsAt.len : ∀ {rs : List V} {ps : List (Nat × Nat)}, PrsAt H rs ps → rs.length = ps.length
  | _, _, .nil => rfl
  | _, _, .cons _ t => congrArg (· + 1) t.len
/-- found != [] -/
theorem PrsAt.dp : ∀ {rs : List V} {ps : List (Nat × Nat)}, PrsAt H rs ps → ∃ ds, DpAll K H rs ds ∧ ds.length = rs.length ∧ PyData.canLayAll0 ds = true ∧ PyData.depthAll ds ≤ 1
  | _, _, .nil => ⟨[], .nil, rfl, by simp [PyData.canLayAll0], by simp [PyData.depthAll]⟩
  | _, _, .cons (lo := lo) (hi := hi) h t => by
    obtain ⟨ds, d, e, c, z⟩ := t.dp
    refine ⟨.tuple [.int lo, .int hi] :: ds, .cons (.tup (SqT.of h) (.cons (.int _) (.cons (.int _) .nil))) d, by simp [e], by simp [PyData.canLayAll0, PyData.canLay0, c], ?_⟩
    simp only [PyData.depthAll, PyData.depth]
    omega
end
/-! ### lists of units -/
def nV (n : Nat) : V := .int (n : Int)
/-! ### runs of units: the last run first -/
def rruns (f : Nat → Bool) : Nat → List (Nat × Nat)
  | 0 => []
  | i + 1 => if f i = true then (match rruns f i with
    | (lo, hi) :: t => if hi = i then (lo, i + 1) :: t else (i, i + 1) :: (lo, hi) :: t
    | [] => [(i, i + 1)]) else rruns f i
theorem rruns_succ (f : Nat → Bool) (i : Nat) : rruns f (i + 1) = if f i = true then (match rruns f i with
    | (lo, hi) :: t => if hi = i then (lo, i + 1) :: t else (i, i + 1) :: (lo, hi) :: t
    | [] => [(i, i + 1)]) else rruns f i := rfl
/-- ascending runs below i, none touches the next -/
inductive Runs : Nat → List (Nat × Nat) → Prop
  | nil {i : Nat} : Runs i []
  | cons {i lo hi : Nat} {t : List (Nat × Nat)} (h : lo < hi) (k : hi ≤ i) (n : ∀ x ∈ t, x.2 < lo) (r : Runs lo t) : Runs i ((lo, hi) :: t)
theorem Runs.up {i j : Nat} {t : List (Nat × Nat)} (h : Runs i t) (k : i ≤ j) : Runs j t := by
  cases h with
  | nil => exact .nil
  | cons a b c d => exact .cons a (Nat.le_trans b k) c d
theorem Runs.bnd {i : Nat} {t : List (Nat × Nat)} (h : Runs i t) : ∀ x ∈ t, x.2 ≤ i := by
  induction h with
  | nil => intro x hx; cases hx
  | cons a b c d ih =>
    intro x hx
    rcases List.mem_cons.mp hx with rfl | hx
    · exact b
    · have := c x hx
      omega
theorem rruns_ok (f : Nat → Bool) : ∀ i, Runs i (rruns f i)
  | 0 => .nil
  | i + 1 => by
    have ih := rruns_ok f i
    rw [rruns_succ]
    by_cases h : f i = true
    · rw [if_pos h]
      cases e : rruns f i with
      | nil => exact .cons (Nat.lt_succ_self i) (Nat.le_refl _) (fun x hx => by cases hx) .nil
      | cons r t =>
        obtain ⟨lo, hi⟩ := r
        rw [e] at ih
        cases ih with
        | cons a b c d =>
          show Runs (i + 1) (if hi = i then (lo, i + 1) :: t else (i, i + 1) :: (lo, hi) :: t)
          by_cases z : hi = i
          · rw [if_pos z]
            exact .cons (by omega) (Nat.le_refl _) c d
          · rw [if_neg z]
            refine .cons (Nat.lt_succ_self i) (Nat.le_refl _) (fun x hx => ?_) (.cons a b c d)
            rcases List.mem_cons.mp hx with rfl | hx
            · show hi < i
              omega
            · have := c x hx
              omega
    · rw [if_neg h]
      exact ih.up (Nat.le_succ i)
/-- what the drawn form of the runs is -/
inductive SnsOf (g : Nat) : List (Nat × Nat) → List Sn → Prop
  | nil : SnsOf g [] []
  | cons {lo hi : Nat} {ps : List (Nat × Nat)} {s : Sn} {ss : List Sn} (h : IsLow (lo : Int) (g : Int) s.x s.y) (k : IsLow (hi : Int) (g : Int) s.u s.v) (t : SnsOf g ps ss) : SnsOf g ((lo, hi) :: ps) (s :: ss)
theorem SnsOf.snoc {g : Nat} : ∀ {ps : List (Nat × Nat)} {ss : List Sn} {lo hi : Nat} {s : Sn}, SnsOf g ps ss → IsLow (lo : Int) (g : Int) s.x s.y → IsLow (hi : Int) (g : Int) s.u s.v → SnsOf g (ps ++ [(lo, hi)]) (ss ++ [s])
  | _, _, _, _, _, .nil, h, k => .cons h k .nil
  | _, _, _, _, _, .cons a b t, h, k => .cons a b (t.snoc h k)
theorem SnsAt.snoc {K : PySem.W.Frag} {H : Hp} {r : V} {s : Sn} : ∀ {rs : List V} {ss : List Sn}, SnsAt K H rs ss → SnAt K H r s → SnsAt K H (rs ++ [r]) (ss ++ [s])
  | _, _, .nil, h => .cons h .nil
  | _, _, .cons a t, h => .cons a (t.snoc h)
theorem Runs.pos {i : Nat} {t : List (Nat × Nat)} (h : Runs i t) : ∀ x ∈ t, x.1 < x.2 := by
  induction h with
  | nil => intro x hx; cases hx
  | cons a b c d ih =>
    intro x hx
    rcases List.mem_cons.mp hx with rfl | hx
    · exact a
    · exact ih x hx
/-! ### what sums and comparisons of drawn forms come to -/
theorem low_of {t u x y : Int} (y0 : 0 < y) (g : Int.gcd x y = 1) (e : x * u = t * y) (hu : u ≠ 0) : IsLow t u x y := by
  have d1 : y ∣ u := dvd_gcd1 g ⟨t, by rw [e, Int.mul_comm]⟩
  have b1 : y.natAbs ≤ u.natAbs := Nat.le_of_dvd (by omega) (Int.natAbs_dvd_natAbs.mpr d1)
  refine ⟨y0, g, e, ?_, b1⟩
  by_cases ht : t = 0
  · subst ht
    rw [Int.zero_mul] at e
    rcases Int.mul_eq_zero.mp e with z | z
    · rw [z]
      exact Nat.le_refl _
    · exact absurd z hu
  · have d2 : x ∣ t := by
      have : x ∣ y * t := ⟨u, by rw [Int.mul_comm, ← e]⟩
      exact dvd_gcd1 (by rw [Int.gcd_comm]; exact g) this
    exact Nat.le_of_dvd (by omega) (Int.natAbs_dvd_natAbs.mpr d2)
theorem dif_form {lo hi g x y u v m n : Int} (h1 : x * g = lo * y) (h2 : u * g = hi * v) (y0 : 0 < y) (v0 : 0 < v) (h : m * (v * y) = (u * y - x * v) * n) : m * g = (hi - lo) * n := by
  refine Int.eq_of_mul_eq_mul_right (show v * y ≠ 0 from Int.mul_ne_zero (by omega) (by omega)) ?_
  grind
theorem sum_form {T d g m n m1 n1 m2 n2 : Int} (h1 : m * g = T * n) (h2 : m1 * g = d * n1) (n0 : 0 < n) (n10 : 0 < n1) (h : m2 * (n * n1) = (m * n1 + m1 * n) * n2) : m2 * g = (T + d) * n2 := by
  refine Int.eq_of_mul_eq_mul_right (show n * n1 ≠ 0 from Int.mul_ne_zero (by omega) (by omega)) ?_
  grind
def hasS (x y : Int) (s : Sn) : Bool := !decide (x * s.y < s.x * y) && decide (x * s.v < s.u * y)
theorem cut_lt {unit fine off g x y lo p q : Int} (h : x * (g * fine) = (unit * fine + off) * y) (k : p * g = lo * q) (y0 : 0 < y) (q0 : 0 < q) (g0 : 0 < g) (f0 : 0 < fine) (o0 : 0 ≤ off) (o1 : off < fine) : (x * q < p * y) ↔ unit < lo := by
  have e1 : (x * q) * (g * fine) = (unit * fine + off) * (y * q) := by grind
  have e2 : (p * y) * (g * fine) = (lo * fine) * (y * q) := by grind
  have gf : 0 < g * fine := Int.mul_pos g0 f0
  have yq : 0 < y * q := Int.mul_pos y0 q0
  have a1 : x * q < p * y ↔ (x * q) * (g * fine) < (p * y) * (g * fine) := (Int.mul_lt_mul_right gf).symm
  have a2 : (unit * fine + off) * (y * q) < (lo * fine) * (y * q) ↔ unit * fine + off < lo * fine := Int.mul_lt_mul_right yq
  rw [a1, e1, e2, a2]
  constructor
  · intro h
    rcases Int.lt_or_le unit lo with w | w
    · exact w
    · have := Int.mul_le_mul_of_nonneg_right w (Int.le_of_lt f0)
      omega
  · intro w
    have h1 := Int.mul_le_mul_of_nonneg_right (show unit + 1 ≤ lo by omega) (Int.le_of_lt f0)
    rw [Int.add_mul, Int.one_mul] at h1
    omega
theorem has_form {g : Nat} {unit fine off x y : Int} (h : IsLow (unit * fine + off) ((g : Int) * fine) x y) (g0 : 0 < (g : Int)) (f0 : 0 < fine) (o0 : 0 ≤ off) (o1 : off < fine) :
    ∀ {ps : List (Nat × Nat)} {ss : List Sn}, SnsOf g ps ss → (ss.any (hasS x y) = true ↔ ∃ r ∈ ps, (r.1 : Int) ≤ unit ∧ unit < (r.2 : Int))
  | _, _, .nil => ⟨fun z => (by cases z), fun ⟨r, hr, _⟩ => (by cases hr)⟩
  | _, _, .cons (lo := lo) (hi := hi) (s := s) a b t => by
    have ih := has_form h g0 f0 o0 o1 t
    have c1 := cut_lt (lo := lo) h.2.2.1 a.2.2.1 h.1 a.1 g0 f0 o0 o1
    have c2 := cut_lt (lo := hi) h.2.2.1 b.2.2.1 h.1 b.1 g0 f0 o0 o1
    have e : hasS x y s = true ↔ (lo : Int) ≤ unit ∧ unit < (hi : Int) := by
      unfold hasS
      rw [Bool.and_eq_true, Bool.not_eq_true', decide_eq_false_iff_not, decide_eq_true_eq, c1, c2]
      omega
    rw [List.any_cons, Bool.or_eq_true, e, ih]
    constructor
    · rintro (z | ⟨r, hr, z⟩)
      · exact ⟨_, List.mem_cons_self, z⟩
      · exact ⟨r, List.mem_cons_of_mem _ hr, z⟩
    · rintro ⟨r, hr, z⟩
      rcases List.mem_cons.mp hr with rfl | hr
      · exact .inl z
      · exact .inr ⟨r, hr, z⟩
theorem rruns_mem (f : Nat → Bool) : ∀ i u, u < i → (f u = true ↔ ∃ r ∈ rruns f i, r.1 ≤ u ∧ u < r.2)
  | 0, u, h => by omega
  | i + 1, u, h => by
    have ih := rruns_mem f i
    have ok := rruns_ok f i
    rw [rruns_succ]
    by_cases hf : f i = true
    · rw [if_pos hf]
      cases e : rruns f i with
      | nil =>
        rw [e] at ih
        show _ ↔ ∃ r ∈ [(i, i + 1)], _
        by_cases z : u = i
        · subst z
          exact ⟨fun _ => ⟨_, List.mem_singleton.mpr rfl, Nat.le_refl _, Nat.lt_succ_self _⟩, fun _ => hf⟩
        · refine (ih u (by omega)).trans ⟨fun ⟨r, hr, _⟩ => (by cases hr), fun ⟨r, hr, q1, q2⟩ => ?_⟩
          obtain rfl := List.mem_singleton.mp hr
          have : i ≤ u := q1
          omega
      | cons r t =>
        obtain ⟨lo, hi⟩ := r
        rw [e] at ok ih
        cases ok with
        | cons a b c d =>
          show _ ↔ ∃ r ∈ (if hi = i then (lo, i + 1) :: t else (i, i + 1) :: (lo, hi) :: t), _
          by_cases z : hi = i
          · rw [if_pos z]
            by_cases w : u = i
            · subst w
              exact ⟨fun _ => ⟨_, List.mem_cons_self, by show lo ≤ u; omega, Nat.lt_succ_self _⟩, fun _ => hf⟩
            · refine (ih u (by omega)).trans ⟨fun ⟨r, hr, q1, q2⟩ => ?_, fun ⟨r, hr, q1, q2⟩ => ?_⟩
              · rcases List.mem_cons.mp hr with rfl | hr
                · exact ⟨_, List.mem_cons_self, q1, by show u < i + 1; omega⟩
                · exact ⟨r, List.mem_cons_of_mem _ hr, q1, q2⟩
              · rcases List.mem_cons.mp hr with rfl | hr
                · exact ⟨_, List.mem_cons_self, q1, by show u < hi; omega⟩
                · exact ⟨r, List.mem_cons_of_mem _ hr, q1, q2⟩
          · rw [if_neg z]
            by_cases w : u = i
            · subst w
              exact ⟨fun _ => ⟨_, List.mem_cons_self, Nat.le_refl _, Nat.lt_succ_self _⟩, fun _ => hf⟩
            · refine (ih u (by omega)).trans ⟨fun ⟨r, hr, q1, q2⟩ => ⟨r, List.mem_cons_of_mem _ hr, q1, q2⟩, fun ⟨r, hr, q1, q2⟩ => ?_⟩
              rcases List.mem_cons.mp hr with rfl | hr
              · have : i ≤ u := q1
                omega
              · exact ⟨r, hr, q1, q2⟩
    · rw [if_neg hf]
      by_cases w : u = i
      · subst w
        refine ⟨fun q => absurd q hf, fun ⟨r, hr, q1, q2⟩ => ?_⟩
        have := ok.bnd r hr
        omega
      · exact ih u (by omega)
end Ob
namespace Ob
open PySem PySem.Spec PyProof.Rows L2
/-! ### runs (the last first) with the same members are the same -/
/-! ### ascending runs -/
inductive Asc : Nat → List (Nat × Nat) → Prop
  | nil {i : Nat} : Asc i []
  | cons {i lo hi : Nat} {t : List (Nat × Nat)} (k : i ≤ lo) (h : lo < hi) (r : Asc (hi + 1) t) : Asc i ((lo, hi) :: t)
theorem Asc.dn {i j : Nat} {t : List (Nat × Nat)} (h : Asc i t) (k : j ≤ i) : Asc j t := by
  cases h with
  | nil => exact .nil
  | cons a b c => exact .cons (Nat.le_trans k a) b c
theorem Asc.low {i : Nat} {t : List (Nat × Nat)} (h : Asc i t) : ∀ x ∈ t, i ≤ x.1 ∧ x.1 < x.2 := by
  induction h with
  | nil => intro x hx; cases hx
  | cons a b c ih =>
    intro x hx
    rcases List.mem_cons.mp hx with rfl | hx
    · exact ⟨a, b⟩
    · have := ih x hx
      exact ⟨by omega, this.2⟩
/-- the two-pointer walk -/
def bothN : List (Nat × Nat) → List (Nat × Nat) → List (Nat × Nat)
  | [], _ => []
  | _ :: _, [] => []
  | (a, b) :: s, (c, d) :: t =>
    let st := if a < c then c else a
    if b < d then (if st < b then [(st, b)] else []) ++ bothN s ((c, d) :: t) else (if st < d then [(st, d)] else []) ++ bothN ((a, b) :: s) t
termination_by s t => s.length + t.length
def In (u : Nat) (t : List (Nat × Nat)) : Prop := ∃ r ∈ t, r.1 ≤ u ∧ u < r.2
theorem in_cons {u lo hi : Nat} {t : List (Nat × Nat)} : In u ((lo, hi) :: t) ↔ (lo ≤ u ∧ u < hi) ∨ In u t := by
  unfold In
  constructor
  · rintro ⟨r, hr, h⟩
    rcases List.mem_cons.mp hr with rfl | hr
    · exact .inl h
    · exact .inr ⟨r, hr, h⟩
  · rintro (h | ⟨r, hr, h⟩)
    · exact ⟨_, List.mem_cons_self, h⟩
    · exact ⟨r, List.mem_cons_of_mem _ hr, h⟩
theorem in_nil {u : Nat} : ¬ In u [] := fun ⟨_, h, _⟩ => nomatch h
theorem Asc.out {i u : Nat} {t : List (Nat × Nat)} (h : Asc i t) (k : u < i) : ¬ In u t := fun ⟨r, hr, h1, _⟩ => by
  have := (h.low r hr).1
  omega
theorem in_seg {u st b : Nat} {t : List (Nat × Nat)} : In u ((if st < b then [(st, b)] else []) ++ t) ↔ (st ≤ u ∧ u < b) ∨ In u t := by
  by_cases h : st < b
  · rw [if_pos h]
    exact in_cons
  · rw [if_neg h, List.nil_append]
    exact ⟨.inr, fun z => z.elim (fun ⟨h1, h2⟩ => by omega) id⟩
theorem bothN_mem : ∀ {s t : List (Nat × Nat)} {i j : Nat}, Asc i s → Asc j t → ∀ u, In u (bothN s t) ↔ In u s ∧ In u t
  | [], t, _, _, _, _, u => by
    rw [bothN]
    exact ⟨fun h => absurd h in_nil, fun h => h.1⟩
  | x :: s, [], _, _, _, _, u => by
    rw [bothN]
    exact ⟨fun h => absurd h in_nil, fun h => h.2⟩
  | (a, b) :: s, (c, d) :: t, _, _, hs, ht, u => by
    rw [bothN]
    cases hs with
    | cons k1 h1 r1 =>
    cases ht with
    | cons k2 h2 r2 =>
      by_cases w : b < d
      · rw [if_pos w, in_seg, bothN_mem r1 (Asc.cons k2 h2 r2) u, in_cons, in_cons]
        have o1 := r1.out (u := u)
        constructor
        · rintro (⟨z1, z2⟩ | ⟨z1, z2⟩)
          · have : a ≤ u ∧ c ≤ u := by split at z1 <;> omega
            exact ⟨.inl ⟨by omega, z2⟩, .inl ⟨by omega, by omega⟩⟩
          · exact ⟨.inr z1, z2⟩
        · rintro ⟨z1 | z1, z2⟩
          · rcases z2 with z2 | z2
            · exact .inl ⟨by split <;> omega, z1.2⟩
            · exact absurd z2 (r2.out (by omega))
          · exact .inr ⟨z1, z2⟩
      · rw [if_neg w, in_seg, bothN_mem (Asc.cons k1 h1 r1) r2 u, in_cons, in_cons]
        constructor
        · rintro (⟨z1, z2⟩ | ⟨z1, z2⟩)
          · have : a ≤ u ∧ c ≤ u := by split at z1 <;> omega
            exact ⟨.inl ⟨by omega, by omega⟩, .inl ⟨by omega, z2⟩⟩
          · exact ⟨z1, .inr z2⟩
        · rintro ⟨z1, z2 | z2⟩
          · rcases z1 with z1 | z1
            · exact .inl ⟨by split <;> omega, z2.2⟩
            · exact absurd z1 (r1.out (by omega))
          · exact .inr ⟨z1, z2⟩
termination_by s t => s.length + t.length
theorem asc_seg {i st b : Nat} {t : List (Nat × Nat)} (k : i ≤ st) (h : Asc (b + 1) t) (ib : i ≤ b + 1) : Asc i ((if st < b then [(st, b)] else []) ++ t) := by
  by_cases w : st < b
  · rw [if_pos w]
    exact .cons k w h
  · rw [if_neg w]
    exact h.dn ib
theorem bothN_asc : ∀ {s t : List (Nat × Nat)} {i j : Nat}, Asc i s → Asc j t → Asc (max i j) (bothN s t)
  | [], t, _, _, _, _ => by rw [bothN]; exact .nil
  | x :: s, [], _, _, _, _ => by rw [bothN]; exact .nil
  | (a, b) :: s, (c, d) :: t, i, j, hs, ht => by
    rw [bothN]
    cases hs with
    | cons k1 h1 r1 =>
    cases ht with
    | cons k2 h2 r2 =>
      by_cases w : b < d
      · rw [if_pos w]
        have ih := bothN_asc r1 (Asc.cons (i := c) (Nat.le_refl c) h2 r2)
        by_cases z : max i j ≤ b + 1
        · exact asc_seg (by split <;> omega) (ih.dn (by omega)) z
        · have e : ¬ (if a < c then c else a) < b := by split <;> omega
          rw [if_neg e]
          exact (bothN_asc r1 (Asc.cons k2 h2 r2)).dn (by omega)
      · rw [if_neg w]
        have ih := bothN_asc (Asc.cons (i := a) (Nat.le_refl a) h1 r1) r2
        by_cases z : max i j ≤ d + 1
        · exact asc_seg (by split <;> omega) (ih.dn (by omega)) z
        · have e : ¬ (if a < c then c else a) < d := by split <;> omega
          rw [if_neg e]
          exact (bothN_asc (Asc.cons k1 h1 r1) r2).dn (by omega)
termination_by s t => s.length + t.length
end Ob
namespace Ob
open PySem PySem.Spec PyProof.Rows L2
section
variable {H : Hp} {σ : L2.St}
theorem rd_asg2 {te : TE} {g1 g2 : TG} {D : Ends} (q : te σ H fun x H1 => g1 x σ H1 fun σ1 H2 => g2 x σ1 H2 D.nx) : tAsg2 te g1 g2 D σ H := q
theorem rd_aug {i : Nat} {te : TE} {ti : TIp} {a : V} {D : Ends} (h : σ[i]? = some (some a)) (q : te σ H fun y H1 => ti a y H1 fun z H2 => D.nx (σ.set i (some z)) H2) : tAug i te ti D σ H := ⟨a, h, q⟩
theorem rd_ipI {f : Int → Int → Int} {a b : Int} {Q : VK} (q : Q (.int (f a b)) H) : ipI f (.int a) (.int b) H Q := ⟨a, b, rfl, rfl, q⟩
end
theorem rd_ifv {P : Prop} [Decidable P] {H : Hp} {σ : L2.St} {i j : Nat} {x y : V} {F : VK} (hx : σ[i]? = some (some x)) (hy : σ[j]? = some (some y)) (q : ∀ p, (P → p = x) → (¬ P → p = y) → F p H) : if decide P = true then tVar i σ H F else tVar j σ H F :=
  rd_if (fun c => rd_var hx (q _ (fun _ => rfl) fun n => absurd c n)) fun c => rd_var hy (q _ (fun n => absurd n c) fun _ => rfl)
def stS (a b : Sn) : Int × Int := if a.x * b.y < b.x * a.y then (b.x, b.y) else (a.x, a.y)
def segS (p : Int × Int) (u v : Int) : List Sn := if p.1 * v < u * p.2 then [⟨p.1, p.2, u, v⟩] else []
/-- what `both` gives, over the spans' numbers -/
def bothS : List Sn → List Sn → List Sn
  | [], _ => []
  | _ :: _, [] => []
  | a :: s, b :: t => if a.u * b.v < b.u * a.v then segS (stS a b) a.u a.v ++ bothS s (b :: t) else segS (stS a b) b.u b.v ++ bothS (a :: s) t
termination_by s t => s.length + t.length
theorem bothS_nil (t : List Sn) : bothS [] t = [] := by rw [bothS]
theorem bothS_nil' (s : List Sn) : bothS s [] = [] := by cases s <;> rw [bothS]
/-- what `_gaps` gives, over the spans' numbers -/
def gapsS : Int × Int → List Sn → List Sn
  | st, [] => segS st 1 1
  | st, s :: t => segS st s.x s.y ++ gapsS (s.u, s.v) t
/-! ### the same over units -/
theorem low_lt {lo hi g : Nat} {x y u v : Int} (h : IsLow (lo : Int) (g : Int) x y) (k : IsLow (hi : Int) (g : Int) u v) (g0 : 0 < g) : x * v < u * y ↔ lo < hi := by
  have e : x * ((g : Int) * 1) = ((lo : Int) * 1 + 0) * y := by
    rw [Int.mul_one, Int.mul_one, Int.add_zero]
    exact h.2.2.1
  have c := cut_lt (fine := 1) (off := 0) e k.2.2.1 h.1 k.1 (by omega) (by decide) (by decide) (by decide)
  rw [c]
  omega
theorem SnsOf.app {g : Nat} {qs : List (Nat × Nat)} {ts : List Sn} (k : SnsOf g qs ts) : ∀ {ps : List (Nat × Nat)} {ss : List Sn}, SnsOf g ps ss → SnsOf g (ps ++ qs) (ss ++ ts)
  | _, _, .nil => k
  | _, _, .cons a b t => .cons a b (SnsOf.app k t)
theorem seg_of {g st b : Nat} {p : Int × Int} {u v : Int} (g0 : 0 < g) (h : IsLow (st : Int) (g : Int) p.1 p.2) (k : IsLow (b : Int) (g : Int) u v) : SnsOf g (if st < b then [(st, b)] else []) (segS p u v) := by
  unfold segS
  by_cases w : st < b
  · rw [if_pos w, if_pos ((low_lt h k g0).mpr w)]
    exact .cons h k .nil
  · rw [if_neg w, if_neg fun z => w ((low_lt h k g0).mp z)]
    exact .nil
theorem both_of {g : Nat} (g0 : 0 < g) : ∀ {ps qs : List (Nat × Nat)} {ss ts : List Sn}, SnsOf g ps ss → SnsOf g qs ts → SnsOf g (bothN ps qs) (bothS ss ts)
  | _, _, _, _, .nil, _ => by
    rw [bothN, bothS]
    exact .nil
  | _, _, _, _, .cons a b t, .nil => by
    rw [bothN, bothS]
    exact .nil
  | (lo, hi) :: ps, (lo', hi') :: qs, s :: ss, z :: ts, .cons a b t, .cons a' b' t' => by
    rw [bothN, bothS]
    have st : IsLow (((if lo < lo' then lo' else lo) : Nat) : Int) (g : Int) (stS s z).1 (stS s z).2 := by
      unfold stS
      by_cases w : lo < lo'
      · rw [if_pos w, if_pos ((low_lt a a' g0).mpr w)]
        exact a'
      · rw [if_neg w, if_neg fun y => w ((low_lt a a' g0).mp y)]
        exact a
    by_cases w : hi < hi'
    · rw [if_pos w, if_pos ((low_lt b b' g0).mpr w)]
      exact SnsOf.app (both_of g0 t (.cons a' b' t')) (seg_of g0 st b)
    · rw [if_neg w, if_neg fun y => w ((low_lt b b' g0).mp y)]
      exact SnsOf.app (both_of g0 (.cons a b t) t') (seg_of g0 st b')
termination_by ps qs => ps.length + qs.length
def gapsN (g : Nat) : Nat → List (Nat × Nat) → List (Nat × Nat)
  | st, [] => if st < g then [(st, g)] else []
  | st, (lo, hi) :: t => (if st < lo then [(st, lo)] else []) ++ gapsN g hi t
theorem gaps_of {g : Nat} (g0 : 0 < g) : ∀ {ps : List (Nat × Nat)} {ss : List Sn} {st : Nat} {p : Int × Int}, SnsOf g ps ss → IsLow (st : Int) (g : Int) p.1 p.2 → SnsOf g (gapsN g st ps) (gapsS p ss)
  | _, _, _, _, .nil, h => seg_of g0 h (low_of (by decide) (by decide) (by rw [Int.one_mul, Int.mul_one]) (by omega))
  | _, _, _, _, .cons a b t, h => SnsOf.app (gaps_of g0 t b) (seg_of g0 h a)
theorem gapsN_mem {g : Nat} : ∀ {ps : List (Nat × Nat)} {i st : Nat}, Asc i ps → (∀ x ∈ ps, x.2 ≤ g) → st ≤ i → ∀ u, In u (gapsN g st ps) ↔ st ≤ u ∧ u < g ∧ ¬ In u ps
  | [], i, st, _, _, _, u => by
    unfold gapsN
    have := in_seg (u := u) (st := st) (b := g) (t := [])
    rw [List.append_nil] at this
    rw [this]
    have n := in_nil (u := u)
    exact ⟨fun h => h.elim (fun h => ⟨h.1, h.2, n⟩) fun h => absurd h n, fun h => .inl ⟨h.1, h.2.1⟩⟩
  | (lo, hi) :: t, i, st, h, hg, hi', u => by
    cases h with
    | cons k hh r =>
    have o := r.out (u := u)
    have hb : hi ≤ g := hg _ List.mem_cons_self
    unfold gapsN
    rw [in_seg, gapsN_mem r (fun x hx => hg x (List.mem_cons_of_mem _ hx)) (Nat.le_succ _) u, in_cons]
    constructor
    · rintro (⟨a, b⟩ | ⟨a, b, c⟩)
      · exact ⟨a, by omega, fun z => z.elim (fun z => by omega) (o (by omega))⟩
      · exact ⟨by omega, b, fun z => z.elim (fun z => by omega) c⟩
    · rintro ⟨a, b, c⟩
      by_cases w : u < lo
      · exact .inl ⟨a, w⟩
      · refine .inr ⟨?_, b, fun z => c (.inr z)⟩
        rcases Nat.lt_or_ge u hi with y | y
        · exact absurd (.inl ⟨by omega, y⟩) c
        · exact y
theorem gapsN_asc {g : Nat} : ∀ {ps : List (Nat × Nat)} {i st : Nat}, Asc i ps → st ≤ i → Asc st (gapsN g st ps)
  | [], _, st, _, _ => by
    unfold gapsN
    have := asc_seg (i := st) (st := st) (b := g) (t := [])
    rw [List.append_nil] at this
    by_cases w : st < g
    · exact this (Nat.le_refl _) .nil (by omega)
    · rw [if_neg w]
      exact .nil
  | (lo, hi) :: t, _, st, h, k => by
    cases h with
    | cons k1 hh r =>
    unfold gapsN
    exact asc_seg (Nat.le_refl _) ((gapsN_asc r (Nat.le_succ _)).dn (by omega)) (by omega)
theorem asc_ext : ∀ {a b : List (Nat × Nat)} {i j : Nat}, Asc i a → Asc j b → (∀ u, In u a ↔ In u b) → a = b
  | [], [], _, _, _, _, _ => rfl
  | [], (lo, hi) :: t, _, _, _, hb, e => by
    cases hb with
    | cons k h r => exact absurd ((e lo).mpr (in_cons.mpr (.inl ⟨Nat.le_refl _, h⟩))) in_nil
  | (lo, hi) :: t, [], _, _, ha, _, e => by
    cases ha with
    | cons k h r => exact absurd ((e lo).mp (in_cons.mpr (.inl ⟨Nat.le_refl _, h⟩))) in_nil
  | (lo, hi) :: t, (lo', hi') :: t', _, _, ha, hb, e => by
    cases ha with
    | cons k h r =>
    cases hb with
    | cons k' h' r' =>
    have f1 := in_cons.mp ((e lo).mp (in_cons.mpr (.inl ⟨Nat.le_refl _, h⟩)))
    have f2 := in_cons.mp ((e lo').mpr (in_cons.mpr (.inl ⟨Nat.le_refl _, h'⟩)))
    have g1 : lo' ≤ lo := by
      rcases Nat.lt_or_ge lo lo' with w | w
      · exact f1.elim (fun z => z.1) fun z => absurd z (r'.out (by omega))
      · exact w
    have g2 : lo ≤ lo' := by
      rcases Nat.lt_or_ge lo' lo with w | w
      · exact f2.elim (fun z => z.1) fun z => absurd z (r.out (by omega))
      · exact w
    have g3 : hi' ≤ hi := by
      rcases Nat.lt_or_ge hi hi' with w | w
      · have := in_cons.mp ((e hi).mpr (in_cons.mpr (.inl ⟨by omega, w⟩)))
        exact this.elim (fun z => by omega) fun z => absurd z (r.out (by omega))
      · exact w
    have g4 : hi ≤ hi' := by
      rcases Nat.lt_or_ge hi' hi with w | w
      · have := in_cons.mp ((e hi').mp (in_cons.mpr (.inl ⟨by omega, w⟩)))
        exact this.elim (fun z => by omega) fun z => absurd z (r'.out (by omega))
      · exact w
    have e1 : lo = lo' := Nat.le_antisymm g2 g1
    have e2 : hi = hi' := Nat.le_antisymm g4 g3
    subst e1 e2
    congr 1
    refine asc_ext r r' fun u => ⟨fun z => ?_, fun z => ?_⟩
    · have q := in_cons.mp ((e u).mp (in_cons.mpr (.inr z)))
      rcases q with q | q
      · exact absurd z (r.out (by omega))
      · exact q
    · have q := in_cons.mp ((e u).mpr (in_cons.mpr (.inr z)))
      rcases q with q | q
      · exact absurd z (r'.out (by omega))
      · exact q
theorem asc_snoc : ∀ {s : List (Nat × Nat)} {i lo hi : Nat}, Asc i s → (∀ x ∈ s, x.2 < lo) → i ≤ lo → lo < hi → Asc i (s ++ [(lo, hi)])
  | [], _, _, _, _, _, k, h => .cons k h .nil
  | (a, b) :: t, _, _, _, hs, n, k, h => by
    cases hs with
    | cons k1 h1 r => exact .cons k1 h1 (asc_snoc r (fun x hx => n x (List.mem_cons_of_mem _ hx)) (n _ List.mem_cons_self) h)
theorem asc_rev {i : Nat} {t : List (Nat × Nat)} (h : Runs i t) : Asc 0 t.reverse := by
  induction h with
  | nil => exact .nil
  | cons a b c d ih =>
    rw [List.reverse_cons]
    exact asc_snoc ih (fun x hx => c x (List.mem_reverse.mp hx)) (Nat.zero_le _) a
theorem sns_uniq {g : Nat} (g0 : 0 < g) : ∀ {ps : List (Nat × Nat)} {ss ts : List Sn}, SnsOf g ps ss → SnsOf g ps ts → ss = ts
  | _, _, _, .nil, .nil => rfl
  | _, s :: _, z :: _, .cons a b t, .cons a' b' t' => by
    obtain ⟨e1, e2⟩ := low_uniq a a' (by omega) (by omega) rfl
    obtain ⟨e3, e4⟩ := low_uniq b b' (by omega) (by omega) rfl
    rw [sns_uniq g0 t t']
    cases s
    cases z
    simp only at e1 e2 e3 e4
    subst e1 e2 e3 e4
    rfl
/-! ### what both and without come to, as drawn forms -/
theorem in_rruns (f : Nat → Bool) (g u : Nat) : In u (rruns f g).reverse ↔ u < g ∧ f u = true := by
  constructor
  · rintro ⟨r, hr, h1, h2⟩
    have hr := List.mem_reverse.mp hr
    have := (rruns_ok f g).bnd r hr
    exact ⟨by omega, (rruns_mem f g u (by omega)).mpr ⟨r, hr, h1, h2⟩⟩
  · rintro ⟨h, k⟩
    obtain ⟨r, hr, z⟩ := (rruns_mem f g u h).mp k
    exact ⟨r, List.mem_reverse.mpr hr, z⟩
theorem both_form {g : Nat} (g0 : 0 < g) {f h : Nat → Bool} {ss ts : List Sn} (a : SnsOf g (rruns f g).reverse ss) (b : SnsOf g (rruns h g).reverse ts) : SnsOf g (rruns (fun u => f u && h u) g).reverse (bothS ss ts) := by
  have A := asc_rev (rruns_ok f g)
  have B := asc_rev (rruns_ok h g)
  have e : bothN (rruns f g).reverse (rruns h g).reverse = (rruns (fun u => f u && h u) g).reverse := asc_ext (bothN_asc A B) (asc_rev (rruns_ok _ g)) fun u => by
    rw [bothN_mem A B, in_rruns, in_rruns, in_rruns, Bool.and_eq_true]
    exact ⟨fun ⟨⟨x, y⟩, _, z⟩ => ⟨x, y, z⟩, fun ⟨x, y, z⟩ => ⟨⟨x, y⟩, x, z⟩⟩
  exact e ▸ both_of g0 a b
theorem without_form {g : Nat} (g0 : 0 < g) {f h : Nat → Bool} {ss ts : List Sn} (a : SnsOf g (rruns f g).reverse ss) (b : SnsOf g (rruns h g).reverse ts) : SnsOf g (rruns (fun u => f u && !h u) g).reverse (bothS ss (gapsS (0, 1) ts)) := by
  have A := asc_rev (rruns_ok f g)
  have B := asc_rev (rruns_ok h g)
  have bd : ∀ x ∈ (rruns h g).reverse, x.2 ≤ g := fun x hx => (rruns_ok h g).bnd x (List.mem_reverse.mp hx)
  have G : Asc 0 (gapsN g 0 (rruns h g).reverse) := gapsN_asc B (Nat.le_refl _)
  have e : bothN (rruns f g).reverse (gapsN g 0 (rruns h g).reverse) = (rruns (fun u => f u && !h u) g).reverse := asc_ext (bothN_asc A G) (asc_rev (rruns_ok _ g)) fun u => by
    rw [bothN_mem A G, in_rruns, gapsN_mem B bd (Nat.le_refl _), in_rruns, in_rruns, Bool.and_eq_true, Bool.not_eq_true']
    constructor
    · rintro ⟨⟨x, y⟩, _, _, z⟩
      refine ⟨x, y, ?_⟩
      cases hu : h u with
      | false => rfl
      | true => exact absurd ⟨x, hu⟩ z
    · rintro ⟨x, y, z⟩
      exact ⟨⟨x, y⟩, Nat.zero_le _, x, fun w => by rw [z] at w; cases w.2⟩
  refine e ▸ both_of g0 a (gaps_of g0 b (p := (0, 1)) (low_of (by decide) (by decide) (by simp) (by omega)))
end Ob
namespace Ob
/-! ### sums of floors: the plain mathematics -/
def fs : Nat → Int → Int → Int → Int
  | 0, _, _, _ => 0
  | n + 1, a, b, m => fs n a b m + (a * n + b) / m
theorem div_is {e m : Int} {y : Int} (h : 0 < m) (h1 : y * m ≤ e) (h2 : e < (y + 1) * m) : e / m = y := by
  have a1 : y ≤ e / m := (Int.le_ediv_iff_mul_le h).2 h1
  have a2 : e / m < y + 1 := (Int.ediv_lt_iff_lt_mul h).2 h2
  omega
/-! ### k14: remainders between bounds -/
end Ob
namespace Ob
/-! ### k13: the far sums -/
/-! ### counts of two parts -/
end Ob
namespace Ob
/-! ### k15: the first remainder between bounds -/
def InR (s u lo hi k : Int) : Prop := lo ≤ (s * k) % u ∧ (s * k) % u ≤ hi
def Least (P : Int → Prop) (k : Int) : Prop := 0 ≤ k ∧ P k ∧ ∀ i, 0 ≤ i → i < k → ¬ P i
def NoneIs (P : Int → Prop) : Prop := ∀ i, 0 ≤ i → ¬ P i
def Prob (s u lo hi : Int) : Prop := 0 ≤ s ∧ s < u ∧ 0 < lo ∧ lo ≤ hi ∧ hi < u
def up (x s : Int) : Int := -((-x) / s)
theorem up_spec {x s : Int} (hs : 0 < s) : x ≤ s * up x s ∧ s * up x s < x + s ∧ s * up x s = x + (-x) % s := by
  have e := Int.emod_add_mul_ediv (-x) s
  have r0 := Int.emod_nonneg (-x) (show s ≠ 0 by omega)
  have r1 := Int.emod_lt_of_pos (-x) hs
  have : s * up x s = x + (-x) % s := by unfold up; grind
  omega
theorem up_le {x s k : Int} (hs : 0 < s) (h : x ≤ s * k) : up x s ≤ k := by
  have h1 := (up_spec (x := x) hs).2.1
  have : s * up x s < s * (k + 1) := by
    have : s * (k + 1) = s * k + s := by grind
    omega
  have := Int.lt_of_mul_lt_mul_left this (by omega)
  omega
theorem up_lt {x s k : Int} (hs : 0 < s) (h : k < up x s) : s * k < x := by
  rcases Int.lt_or_le (s * k) x with h1 | h1
  · exact h1
  · have := up_le hs h1
    omega
theorem mod_at {x u r j : Int} (hu : 0 < u) (e : x = u * j + r) (h0 : 0 ≤ r) (h1 : r < u) : x % u = r ∧ x / u = j := by
  have h2 : x / u = j := div_is hu (by grind) (by grind)
  have := Int.emod_add_mul_ediv x u
  rw [h2] at this
  exact ⟨by omega, h2⟩
/-- no multiple of s between the bounds -/
theorem gap_of {s lo hi : Int} (hs : 0 < s) (h1 : lo ≤ hi) (h : hi < lo + (-lo) % s) : 0 < lo % s ∧ lo % s ≤ hi % s ∧ hi % s < s ∧ hi / s = lo / s := by
  have e := Int.emod_add_mul_ediv lo s
  have r0 := Int.emod_nonneg lo (show s ≠ 0 by omega)
  have r1 := Int.emod_lt_of_pos lo hs
  have hr : lo % s ≠ 0 := by
    intro z
    have : (-lo) % s = 0 := Int.emod_eq_zero_of_dvd (Int.dvd_neg.2 (Int.dvd_of_emod_eq_zero z))
    omega
  have hm : (-lo) % s = s - lo % s := by
    refine (mod_at (j := -(lo / s) - 1) hs ?_ (by omega) (by omega)).1
    grind
  have hh := mod_at (x := hi) (u := s) (j := lo / s) (r := lo % s + (hi - lo)) hs (by omega) (by omega) (by omega)
  omega
theorem turn_prob {s u lo hi : Int} (p : Prob s u lo hi) (hs : 0 < s) (h : hi < lo + (-lo) % s) : Prob (u % s) s (s - hi % s) (s - lo % s) := by
  obtain ⟨_, p1, p2, p3, p4⟩ := p
  obtain ⟨g1, g2, g3, g4⟩ := gap_of hs p3 h
  exact ⟨Int.emod_nonneg _ (by omega), Int.emod_lt_of_pos _ hs, by omega, by omega, by omega⟩
theorem turn_iff {s u lo hi : Int} (p : Prob s u lo hi) (hs : 0 < s) (h : hi < lo + (-lo) % s) (j : Int) :
    InR (u % s) s (s - hi % s) (s - lo % s) j ↔ ∃ k, lo + u * j ≤ s * k ∧ s * k ≤ hi + u * j := by
  obtain ⟨_, p1, p2, p3, p4⟩ := p
  obtain ⟨g1, g2, g3, g4⟩ := gap_of hs p3 h
  have el := Int.emod_add_mul_ediv lo s
  have eh := Int.emod_add_mul_ediv hi s
  rw [g4] at eh
  have er : (u % s * j) % s = (u * j) % s := by rw [Int.mul_emod, Int.emod_emod, ← Int.mul_emod]
  unfold InR
  rw [er]
  have eu := Int.emod_add_mul_ediv (u * j) s
  have r0 := Int.emod_nonneg (u * j) (show s ≠ 0 by omega)
  have r1 := Int.emod_lt_of_pos (u * j) hs
  generalize (u * j) % s = r at *
  generalize u * j = U at *
  generalize U / s = q at *
  generalize lo / s = t at *
  generalize lo % s = l at *
  generalize hi % s = g at *
  constructor
  · intro ⟨a1, a2⟩
    have : s * (t + q + 1) = s * t + s * q + s := by grind
    exact ⟨t + q + 1, by omega, by omega⟩
  · intro ⟨k, a1, a2⟩
    have b1 : t + q < k := by
      have : s * (t + q) < s * k := by
        have : s * (t + q) = s * t + s * q := by grind
        omega
      exact Int.lt_of_mul_lt_mul_left this (by omega)
    have b2 : k < t + q + 2 := by
      have : s * k < s * (t + q + 2) := by
        have : s * (t + q + 2) = s * t + s * q + s + s := by grind
        omega
      exact Int.lt_of_mul_lt_mul_left this (by omega)
    have b3 : k = t + q + 1 := by omega
    subst b3
    have : s * (t + q + 1) = s * t + s * q + s := by grind
    omega
theorem inR_iff {s u lo hi : Int} (p : Prob s u lo hi) (k : Int) : InR s u lo hi k ↔ ∃ j, lo + u * j ≤ s * k ∧ s * k ≤ hi + u * j := by
  obtain ⟨_, p1, p2, p3, p4⟩ := p
  have hu : 0 < u := by omega
  have e := Int.emod_add_mul_ediv (s * k) u
  constructor
  · intro ⟨a1, a2⟩
    exact ⟨s * k / u, by omega, by omega⟩
  · intro ⟨j, a1, a2⟩
    have := (mod_at (x := s * k) (r := s * k - u * j) (j := j) hu (by omega) (by omega) (by omega)).1
    exact ⟨by omega, by omega⟩
theorem j_nonneg {s u lo hi k j : Int} (p : Prob s u lo hi) (hk : 0 ≤ k) (h : s * k ≤ hi + u * j) : 0 ≤ j := by
  obtain ⟨p0, p1, p2, p3, p4⟩ := p
  have h0 : 0 ≤ s * k := Int.mul_nonneg p0 hk
  rcases Int.lt_or_le j 0 with c | c
  · have : u * j ≤ u * (-1) := Int.mul_le_mul_of_nonneg_left (by omega) (by omega)
    omega
  · exact c
theorem turn_none {s u lo hi : Int} (p : Prob s u lo hi) (hs : 0 < s) (h : hi < lo + (-lo) % s) (n : NoneIs (InR (u % s) s (s - hi % s) (s - lo % s))) : NoneIs (InR s u lo hi) := by
  intro k k0 hk
  obtain ⟨j, a1, a2⟩ := (inR_iff p k).1 hk
  exact n j (j_nonneg p k0 a2) ((turn_iff p hs h j).2 ⟨k, a1, a2⟩)
theorem turn_least {s u lo hi j : Int} (p : Prob s u lo hi) (hs : 0 < s) (h : hi < lo + (-lo) % s) (l : Least (InR (u % s) s (s - hi % s) (s - lo % s)) j) : Least (InR s u lo hi) (up (lo + u * j) s) := by
  have p' := p
  obtain ⟨p0, p1, p2, p3, p4⟩ := p
  obtain ⟨j0, hj, hl⟩ := l
  obtain ⟨k, a1, a2⟩ := (turn_iff p' hs h j).1 hj
  have sp := up_spec (x := lo + u * j) hs
  have kl := up_le hs a1
  have uj : 0 ≤ u * j := Int.mul_nonneg (by omega) j0
  have k0 : 0 ≤ up (lo + u * j) s := by
    have : s * 0 < s * up (lo + u * j) s := by omega
    have := Int.lt_of_mul_lt_mul_left this (by omega)
    omega
  refine ⟨k0, (inR_iff p' _).2 ⟨j, sp.1, ?_⟩, fun i i0 i1 hI => ?_⟩
  · have : s * up (lo + u * j) s ≤ s * k := Int.mul_le_mul_of_nonneg_left kl (by omega)
    omega
  · obtain ⟨j', b1, b2⟩ := (inR_iff p' i).1 hI
    have lt := up_lt hs i1
    have j'0 := j_nonneg p' i0 b2
    have : u * j' < u * j := by omega
    have := Int.lt_of_mul_lt_mul_left this (by omega)
    exact hl j' j'0 this ((turn_iff p' hs h j').2 ⟨i, b1, b2⟩)
/-- the trail of the outer questions -/
inductive Trail (S U L G : Int) : List (Int × Int × Int) → Int → Int → Int → Int → Prop
  | nil (p : Prob S U L G) : Trail S U L G [] S U L G
  | cons {r s u lo hi} (t : Trail S U L G r s u lo hi) (hs : 0 < s) (h : hi < lo + (-lo) % s) : Trail S U L G ((s, u, lo) :: r) (u % s) s (s - hi % s) (s - lo % s)
theorem Trail.prob {S U L G : Int} {r : List (Int × Int × Int)} {s u lo hi : Int} (t : Trail S U L G r s u lo hi) : Prob s u lo hi := by
  induction t with
  | nil p => exact p
  | cons t hs h ih => exact turn_prob ih hs h
theorem Trail.le {S U L G : Int} {r : List (Int × Int × Int)} {s u lo hi : Int} (t : Trail S U L G r s u lo hi) : u ≤ U := by
  induction t with
  | nil p => exact Int.le_refl _
  | cons t hs h ih =>
    have := t.prob
    unfold Prob at this
    omega
theorem Trail.none {S U L G : Int} {r : List (Int × Int × Int)} {s u lo hi : Int} (t : Trail S U L G r s u lo hi) (n : NoneIs (InR s u lo hi)) : NoneIs (InR S U L G) := by
  induction t with
  | nil p => exact n
  | cons t hs h ih => exact ih (turn_none t.prob hs h n)
theorem Trail.back {S U L G : Int} {x : Int × Int × Int} {r : List (Int × Int × Int)} {s u lo hi k : Int} (t : Trail S U L G (x :: r) s u lo hi) (l : Least (InR s u lo hi) k) :
    ∃ hi', Trail S U L G r x.1 x.2.1 x.2.2 hi' ∧ 0 < x.1 ∧ Least (InR x.1 x.2.1 x.2.2 hi') (up (x.2.2 + x.2.1 * k) x.1) := by
  cases t with
  | cons t hs h => exact ⟨_, t, hs, turn_least t.prob hs h l⟩
/-! the bounds turned round the ring -/
end Ob
namespace Ob
open PySem PySem.Spec PyProof.Rows L2
/-! ### repr of a number, of None, of data -/
section
variable {X : Cx} {K : PySem.W.Frag}
end
section
variable {K : PySem.W.Frag} {H J : Hp} {D a : Addr} {σ : L2.St} {xs : List V} {Q : VK}
end
section
variable {K : PySem.W.Frag} {H : Hp} {a : Addr} {Q : VK}
theorem rd_sum {ks : List Int} {xs : List V} (h : SqL K H a xs) (e : xs = ks.map V.int) (q : Q (.int ks.sum) H) : rSum K [.ref a] H Q := ⟨a, ks, rfl, e ▸ h, q⟩
end
section
variable {K : PySem.W.Frag} {H : Hp} {a : Addr} {xs ys : List V} {Q : VK} {σ : L2.St}
theorem slT {X : Cx} (h : X.K = K) : SlR X (rSlT K) := h ▸ sl_tup
theorem rd_slT {lo hi : Option Int} (h : SqT K H a xs) (n : ¬ (HT.sIx xs.length 0 lo = 0 ∧ HT.sIx xs.length xs.length hi = xs.length)) (e : cutV xs lo hi = ys) (q : ∀ p J, H p = none → Same H J → J p = some (.tup ys) → Q (.ref p) J) : rSlT K (.ref a) lo hi H Q :=
  ⟨a, xs, rfl, h, n, fun p np => by rw [e]; exact q p _ np (same_new np) upd_same⟩
end
end Ob
namespace Ob
open PySem PySem.Spec PyProof.Rows L2
/-! ### min(list, default=None) -/
section
variable {X : Cx} {K : PySem.W.Frag} {H : Hp} {a : Addr} {Q : VK} {σ : L2.St} {t tk : TA} {xs : List V}
/-! ### is None -/
end
end Ob
namespace Ob
open PySem PySem.Spec PyProof.Rows L2
section
variable {K : PySem.W.Frag} {H J : Hp} {D a c l : Addr} {σ : L2.St} {xs rs zs : List V} {ss ts : List Sn} {Q : VK}
/-- [x for x in l if p(x)], the heap as it was -/
theorem lc_filtL (p : V → Bool) {tt : TT} {te : TE} {i0 : Nat} {Qd : Hp → Prop} (hT : H a = some (.lst xs)) (hl : xs.length ≤ 1000) (hD : H D = none)
    (he : ∀ x, x ∈ xs → ∀ (l : List V) (R : Bool → Hp → Prop), R (p x) (upd H D (.lst l)) → tt ((σ.set i0 none).set i0 (some x)) (upd H D (.lst l)) R)
    (hf : ∀ x, x ∈ xs → ∀ (l : List V) (R : VK), R x (upd H D (.lst l)) → te ((σ.set i0 none).set i0 (some x)) (upd H D (.lst l)) R)
    (hd : Qd (upd H D (.lst (xs.filter p)))) : Lc (Itl K a) (gName i0) tt te [i0] σ Qd H D := by
  have ne : a ≠ D := ne_of_none hT hD
  refine lc_list (xs := xs) (fun i J => J = upd H D (.lst ((xs.take i).filter p))) rfl (fun i J _ w => by
    rw [w]
    exact SqL.of (by rw [upd_ne ne]; exact hT)) (fun i x J hx w => ?_) fun J w => ?_
  · subst w
    have lt : i < xs.length := (List.getElem?_eq_some_iff.mp hx).1
    have hm := List.mem_of_getElem? hx
    have et : (xs.take (i + 1)).filter p = (xs.take i).filter p ++ (if p x = true then [x] else []) := by
      rw [List.take_add_one, hx, List.filter_append]
      by_cases c : p x = true <;> simp [c]
    refine ⟨?_, ?_⟩
    · show ((σ.set i0 none).set i0 (some x)).set i0 none = σ.set i0 none
      rw [List.set_set, List.set_set]
    · show tt _ _ _
      refine he x hm _ _ ?_
      by_cases c : p x = true
      · rw [c]
        refine iteT ?_
        refine hf x hm _ _ ⟨_, upd_same, ?_, ?_⟩
        · have := List.length_filter_le p (xs.take i)
          rw [List.length_take] at this
          exact small1000 (by omega)
        · rw [upd_upd, et, if_pos c]
      · have c' : p x = false := by simpa using c
        rw [c']
        refine iteF ?_
        rw [et, if_neg c, List.append_nil]
  · rw [w, List.take_length]
    exact hd
end
section
variable {K : PySem.W.Frag} {H : Hp} {σ : L2.St} {Q : VK} {ta : TE}
theorem rd_lstRg (q : ta σ H fun x H1 => ∃ n : Int, x = .int n ∧ RgOk 0 n ∧ ∀ p, H1 p = none → Q (.ref p) (upd H1 p (.lst (rgV 0 n)))) : tLstRg (tRg1 ta) σ H Q := q
theorem rgV_units (g : Nat) : rgV 0 (g : Int) = ((List.range g).filter fun _ => true).map nV := by
  have e : (List.range g).filter (fun _ => true) = List.range g := List.filter_eq_self.mpr fun _ _ => rfl
  rw [e]
  unfold rgV
  rw [show ((g : Int) - 0).toNat = g by omega]
  refine List.map_congr_left fun u _ => ?_
  show V.int (0 + (u : Int)) = V.int (u : Int)
  rw [Int.zero_add]
end
end Ob
namespace Ob
open PySem PySem.Spec PyProof.Rows L2
/-! ### sums of ratios, as tops and unders that are not made small -/
def totR : List (Int × Int) → Int × Int
  | [] => (0, 1)
  | r :: l => (r.1 * (totR l).2 + (totR l).1 * r.2, r.2 * (totR l).2)
theorem totR_perm {l l' : List (Int × Int)} (h : l.Perm l') : totR l = totR l' := by
  induction h with
  | nil => rfl
  | cons x _ ih => rw [totR, totR, ih]
  | swap x y l =>
    simp only [totR]
    refine Prod.ext ?_ ?_
    · show _ = _
      simp only
      grind
    · show _ = _
      simp only
      grind
  | trans _ _ i1 i2 => rw [i1, i2]
theorem totR_append : ∀ l l' : List (Int × Int), totR (l ++ l') = ((totR l).1 * (totR l').2 + (totR l').1 * (totR l).2, (totR l).2 * (totR l').2)
  | [], l' => by
    simp only [List.nil_append, totR]
    refine Prod.ext ?_ ?_ <;> simp
  | r :: l, l' => by
    rw [List.cons_append, totR, totR_append l l', totR]
    refine Prod.ext ?_ ?_
    · simp only
      grind
    · simp only
      grind
def Pos (l : List (Int × Int)) : Prop := ∀ r ∈ l, 0 < r.2
theorem totR_pos : ∀ {l : List (Int × Int)}, Pos l → 0 < (totR l).2
  | [], _ => by simp [totR]
  | r :: l, h => by
    rw [totR]
    exact Int.mul_pos (h r (by simp)) (totR_pos fun x hx => h x (by simp [hx]))
/-- m / n, in lowest terms, is the sum -/
def IsTot (l : List (Int × Int)) (m n : Int) : Prop := 0 < n ∧ Int.gcd m n = 1 ∧ m * (totR l).2 = (totR l).1 * n
theorem IsTot.uniq {l : List (Int × Int)} {m n m' n' : Int} (hl : Pos l) (h : IsTot l m n) (k : IsTot l m' n') : m = m' ∧ n = n' := by
  have u := totR_pos hl
  obtain ⟨n0, g, e⟩ := h
  obtain ⟨n0', g', e'⟩ := k
  refine low_one n0 n0' g g' (Int.eq_of_mul_eq_mul_right (show (totR l).2 ≠ 0 by omega) ?_)
  grind
theorem IsTot.perm {l l' : List (Int × Int)} {m n : Int} (h : l.Perm l') (k : IsTot l m n) : IsTot l' m n := by
  unfold IsTot at *
  rw [← totR_perm h]
  exact k
theorem IsTot.nil : IsTot [] 0 1 := ⟨by decide, by decide, by simp [totR]⟩
theorem IsTot.add {l l' : List (Int × Int)} {m n m' n' M N : Int} (h : IsTot l m n) (k : IsTot l' m' n') (low : IsLow (m * n' + m' * n) (n * n') M N) : IsTot (l ++ l') M N := by
  obtain ⟨n0, _, e⟩ := h
  obtain ⟨n0', _, e'⟩ := k
  obtain ⟨N0, G, E, _⟩ := low
  refine ⟨N0, G, ?_⟩
  rw [totR_append]
  have nz : n * n' ≠ 0 := Int.mul_ne_zero (by omega) (by omega)
  refine Int.eq_of_mul_eq_mul_right nz ?_
  simp only
  grind
theorem IsTot.one {x y : Int} (y0 : 0 < y) (g : Int.gcd x y = 1) : IsTot [(x, y)] x y := ⟨y0, g, by simp [totR]⟩
theorem IsTot.sub {l : List (Int × Int)} {x y m n M N : Int} (y0 : 0 < y) (hl : Pos l) (h : IsTot ((x, y) :: l) m n) (low : IsLow (m * y - x * n) (n * y) M N) : IsTot l M N := by
  obtain ⟨n0, _, e⟩ := h
  obtain ⟨N0, G, E, _⟩ := low
  refine ⟨N0, G, ?_⟩
  rw [totR] at e
  simp only at e
  have nz : n * y ≠ 0 := Int.mul_ne_zero (by omega) (by omega)
  refine Int.eq_of_mul_eq_mul_right nz ?_
  grind
/-- the rests, and the sum of the floors -/
def rests (l : List (Int × Int)) : List (Int × Int) := l.map fun r => (r.1.fmod r.2, r.2)
def floors (l : List (Int × Int)) : Int := (l.map fun r => r.1.fdiv r.2).sum
theorem totR_rests : ∀ l : List (Int × Int), totR l = (floors l * (totR (rests l)).2 + (totR (rests l)).1, (totR (rests l)).2)
  | [] => by simp [totR, rests, floors]
  | r :: l => by
    have e := Int.fmod_def r.1 r.2
    have ih := totR_rests l
    have h1 : rests (r :: l) = (r.1.fmod r.2, r.2) :: rests l := rfl
    have h2 : floors (r :: l) = r.1.fdiv r.2 + floors l := by simp [floors]
    rw [h1, h2, totR, ih, totR]
    refine Prod.ext ?_ ?_
    · simp only
      grind
    · simp only
theorem IsTot.whole {l : List (Int × Int)} {m n M N : Int} (h : IsTot (rests l) m n) (low : IsLow (floors l * n + m * 1) (1 * n) M N) : IsTot l M N := by
  obtain ⟨n0, _, e⟩ := h
  obtain ⟨N0, G, E, _⟩ := low
  refine ⟨N0, G, ?_⟩
  rw [totR_rests]
  simp only
  refine Int.eq_of_mul_eq_mul_right (show n ≠ 0 by omega) ?_
  grind
/-! ### a list of ratios at an address -/
inductive RtsAt (K : PySem.W.Frag) (H : Hp) : List V → List (Int × Int) → Prop
  | nil : RtsAt K H [] []
  | cons {p : Addr} {rs : List V} {x y : Int} {l : List (Int × Int)} (h : H p = some (.tup [.int x, .int y])) (y0 : 0 < y) (g : Int.gcd x y = 1) (bx : Bd 110 x) (bu : Bd 110 y) (t : RtsAt K H rs l) : RtsAt K H (.ref p :: rs) ((x, y) :: l)
section
variable {K : PySem.W.Frag} {H J : Hp}
theorem RtsAt.mono (m : ∀ p xs, H p = some (.tup xs) → J p = some (.tup xs)) : ∀ {rs : List V} {l : List (Int × Int)}, RtsAt K H rs l → RtsAt K J rs l
  | _, _, .nil => .nil
  | _, _, .cons h a b c d t => .cons (m _ _ h) a b c d (t.mono m)
theorem RtsAt.len : ∀ {rs : List V} {l : List (Int × Int)}, RtsAt K H rs l → rs.length = l.length
  | _, _, .nil => rfl
  | _, _, .cons _ _ _ _ _ t => by rw [List.length_cons, List.length_cons, t.len]
theorem RtsAt.pos : ∀ {rs : List V} {l : List (Int × Int)}, RtsAt K H rs l → Pos l
  | _, _, .nil => fun r hr => by cases hr
  | _, _, .cons _ y0 _ _ _ t => fun r hr => by
    rcases List.mem_cons.mp hr with rfl | hr
    · exact y0
    · exact t.pos r hr
theorem RtsAt.snoc {p : Addr} {x y : Int} (h : H p = some (.tup [.int x, .int y])) (y0 : 0 < y) (g : Int.gcd x y = 1) (bx : Bd 110 x) (bu : Bd 110 y) : ∀ {rs : List V} {l : List (Int × Int)}, RtsAt K H rs l → RtsAt K H (rs ++ [.ref p]) (l ++ [(x, y)])
  | _, _, .nil => .cons h y0 g bx bu .nil
  | _, _, .cons a b c d e t => .cons a b c d e (t.snoc h y0 g bx bu)
theorem RtsAt.get : ∀ {rs : List V} {l : List (Int × Int)}, RtsAt K H rs l → ∀ {i : Nat} {v : V}, rs[i]? = some v → ∃ p x y, v = .ref p ∧ l[i]? = some (x, y) ∧ H p = some (.tup [.int x, .int y]) ∧ 0 < y ∧ Int.gcd x y = 1 ∧ Bd 110 x ∧ Bd 110 y
  | _, _, .nil, i, v, e => by simp at e
  | _, _, .cons h a b c d t, 0, v, e => by
    simp at e
    exact ⟨_, _, _, e.symm, rfl, h, a, b, c, d⟩
  | _, _, .cons h a b c d t, i + 1, v, e => by
    simp at e
    obtain ⟨p, x, y, e1, e2, e3⟩ := t.get e
    exact ⟨p, x, y, e1, by simpa using e2, e3⟩
theorem RtsAt.drop : ∀ {rs : List V} {l : List (Int × Int)}, RtsAt K H rs l → ∀ n, RtsAt K H (rs.drop n) (l.drop n)
  | _, _, t, 0 => t
  | _, _, .nil, n + 1 => .nil
  | _, _, .cons _ _ _ _ _ t, n + 1 => t.drop n
theorem RtsAt.take : ∀ {rs : List V} {l : List (Int × Int)}, RtsAt K H rs l → ∀ n, RtsAt K H (rs.take n) (l.take n)
  | _, _, _, 0 => by rw [List.take_zero, List.take_zero]; exact .nil
  | _, _, .nil, n + 1 => .nil
  | _, _, .cons a b c d e t, n + 1 => .cons a b c d e (t.take n)
theorem RtsAt.perm {rs rs' : List V} (h : rs.Perm rs') : ∀ {l : List (Int × Int)}, RtsAt K H rs l → ∃ l', l.Perm l' ∧ RtsAt K H rs' l' := by
  induction h with
  | nil => intro l t; exact ⟨l, List.Perm.refl _, t⟩
  | cons x _ ih =>
    intro l t
    cases t with
    | cons h a b c d t =>
      obtain ⟨l', p, t'⟩ := ih t
      exact ⟨_, p.cons _, .cons h a b c d t'⟩
  | swap x y l0 =>
    intro l t
    cases t with
    | cons h a b c d t =>
      cases t with
      | cons h' a' b' c' d' t' => exact ⟨_, List.Perm.swap _ _ _, .cons h' a' b' c' d' (.cons h a b c d t')⟩
  | trans _ _ i1 i2 =>
    intro l t
    obtain ⟨l1, p1, t1⟩ := i1 t
    obtain ⟨l2, p2, t2⟩ := i2 t1
    exact ⟨l2, p1.trans p2, t2⟩
/-- the same as data -/
def ratD (r : Int × Int) : PyData := .tuple [.int r.1, .int r.2]
theorem RtsAt.dp : ∀ {rs : List V} {l : List (Int × Int)}, RtsAt K H rs l → DpAll K H rs (l.map ratD)
  | _, _, .nil => .nil
  | _, _, .cons h _ _ _ _ t => .cons (.tup (SqT.of h) (.cons (.int _) (.cons (.int _) .nil))) t.dp
theorem RtsAt.lay : ∀ (l : List (Int × Int)), PyData.depthAll (l.map ratD) ≤ 2 ∧ PyData.canLayAll0 (l.map ratD) = true
  | [] => ⟨by simp [PyData.depthAll], by simp [PyData.canLayAll0]⟩
  | r :: l => by
    obtain ⟨a, b⟩ := RtsAt.lay l
    refine ⟨?_, ?_⟩
    · simp only [List.map_cons, ratD, PyData.depthAll, PyData.depth]
      omega
    · simp [List.map_cons, ratD, PyData.canLayAll0, PyData.canLay0, b]
theorem perm_eraseIdx {α : Type} : ∀ {xs : List α} {k : Nat} {y : α}, xs[k]? = some y → (y :: xs.eraseIdx k).Perm xs
  | [], k, y, e => by simp at e
  | x :: xs, 0, y, e => by
    simp at e
    subst e
    simp
  | x :: xs, k + 1, y, e => by
    simp at e
    have ih := perm_eraseIdx e
    rw [List.eraseIdx_cons_succ]
    exact (List.Perm.swap x y _).trans (ih.cons x)
theorem ra_of {p : Addr} {x y : Int} (h : H p = some (.tup [.int x, .int y])) (y0 : 0 < y) (g : Int.gcd x y = 1) (bx : Bd 1000 x) (bu : Bd 1000 y) : Ra K H p x y := ⟨SqT.of h, y0, g, bx, bu⟩
end
section
variable {K : PySem.W.Frag} {H J : Hp} {Q : VK}
def rLstOf (K : PySem.W.Frag) : List V → Hp → VK → Prop := fun xs H Q => ∃ p ys, xs = [.ref p] ∧ (SqL K H p ys ∨ SqT K H p ys) ∧ ∀ l, H l = none → Q (.ref l) (upd H l (.lst ys))
theorem lstK {X : Cx} (h : X.K = K) : CallR X (.type "list") (rLstOf K) := h ▸ call_list_of
theorem rd_lstOf {p : Addr} {ys : List V} (h : SqL K H p ys) (q : ∀ l J, H l = none → Same H J → J l = some (.lst ys) → Q (.ref l) J) : rLstOf K [.ref p] H Q := ⟨p, ys, rfl, .inl h, fun l nl => q l _ nl (same_new nl) upd_same⟩
theorem rd_popAt {l : Addr} {xs : List V} {k : Nat} {y : V} (h : H l = some (.lst xs)) (hk : k < 2 ^ 62) (e : xs[k]? = some y) (q : ∀ J, Pu l H J → J l = some (.lst (xs.eraseIdx k)) → Q y J) : rPopAt (.ref l) [.int (k : Int)] H Q := by
  have lt : k < xs.length := (List.getElem?_eq_some_iff.mp e).1
  refine ⟨l, xs, k, k, y, rfl, rfl, h, by omega, by omega, ?_, e, q _ ⟨Kp.at, ⟨_, h⟩, ⟨_, upd_same⟩⟩ upd_same⟩
  have n0 : ¬ (k : Int) < 0 := by omega
  simp [seqIndex?, n0, lt]
end
/-! ### a comprehension whose element draws from the bag -/
def LcEndB (D : Addr) (P : Nat → List V → Hp → Prop) (i : Nat) (y : V) (J : Hp) : Prop := ∃ acc, J D = some (.lst acc) ∧ acc.length < sizeLine ∧ ∃ ys, ys.length = i ∧ (upd J D (.lst (acc ++ [y]))) D = some (.lst ys) ∧ P i ys (upd J D (.lst (acc ++ [y])))
theorem lcEndB_mk {D : Addr} {P : Nat → List V → Hp → Prop} {i : Nat} {y : V} {J : Hp} {ys : List V} (h : J D = some (.lst ys)) (hl : ys.length = i) (hz : i ≤ 500) (q : ∀ J4, Pu D J J4 → J4 D = some (.lst (ys ++ [y])) → P (i + 1) (ys ++ [y]) J4) : LcEndB D P (i + 1) y J :=
  ⟨ys, h, small1000 (by omega), ys ++ [y], by rw [List.length_append, hl]; rfl, upd_same, q _ ⟨Kp.at, ⟨_, h⟩, ⟨_, upd_same⟩⟩ upd_same⟩
theorem lc_growB {g : TG} {te : TE} {vs : List Nat} {σ : L2.St} {H : Hp} {D : Addr} (P : Nat → List V → Hp → Prop) {n : Nat} {Qd : Hp → Prop} (h0 : P 0 [] (upd H D (.lst [])))
    (he : ∀ (i : Nat) ys J, i < n → ys.length = i → J D = some (.lst ys) → P i ys J → g (.int (0 + (i : Int))) (wipe σ vs) J fun σ2 J2 => wipe σ2 vs = wipe σ vs ∧ te σ2 J2 fun y J3 => LcEndB D P (i + 1) y J3)
    (hd : ∀ ys J, ys.length = n → J D = some (.lst ys) → P n ys J → Qd J) : Lc (Itr 0 n) g tYes te vs σ Qd H D := by
  refine lc_range (fun i J => ∃ ys, ys.length = i ∧ J D = some (.lst ys) ∧ P i ys J) ⟨[], rfl, upd_same, h0⟩ (fun i J hi w => ?_) fun J w => ?_
  · obtain ⟨ys, e, hJ, p⟩ := w
    exact he i ys J hi e hJ p
  · obtain ⟨ys, e, hJ, p⟩ := w
    exact hd ys J e hJ p
/-! ### what k06 keeps in view -/
structure St6 (K : PySem.W.Frag) (H : Hp) (b D p f : Addr) (ys ws : List V) (ls wl : List (Int × Int)) (m n : Int) (J : Hp) : Prop where
  kH : Kp b H J
  g : Bag b J
  eD : J D = some (.lst ys)
  ep : J p = some (.tup [.int m, .int n])
  ef : J f = some (.lst ws)
  ht : RtsAt K J ys ls
  tw : RtsAt K J ws wl
theorem St6.same {K : PySem.W.Frag} {H J M : Hp} {b D p f : Addr} {ys ws : List V} {ls wl : List (Int × Int)} {m n : Int} (S : St6 K H b D p f ys ws ls wl m n J) (s : Same J M) : St6 K H b D p f ys ws ls wl m n M :=
  ⟨S.kH.trans (Kp.of s), S.g.same s, s _ _ S.eD, s _ _ S.ep, s _ _ S.ef, S.ht.mono fun p xs h => s _ _ h, S.tw.mono fun p xs h => s _ _ h⟩
theorem cut_take {xs : List V} {c : Nat} (h : c ≤ xs.length) : cutV xs none (some (c : Int)) = xs.take c := by
  unfold cutV
  rw [HT.sIx_nat, HT.sIx_none, Nat.min_eq_left h]
  rfl
theorem RtsAt.three {K : PySem.W.Frag} {H : Hp} {rs : List V} {l : List (Int × Int)} (t : RtsAt K H rs l) (hz : 3 ≤ rs.length) : ∃ q1 q2 q3 x1 y1 x2 y2 x3 y3, rs.take 3 = [.ref q1, .ref q2, .ref q3] ∧ Ra K H q1 x1 y1 ∧ Ra K H q2 x2 y2 ∧ Ra K H q3 x3 y3 ∧ Bd 110 x1 ∧ Bd 110 y1 ∧ Bd 110 x2 ∧ Bd 110 y2 ∧ Bd 110 x3 ∧ Bd 110 y3 := by
  cases t with
  | nil => simp at hz
  | cons h1 a1 b1 c1 d1 t =>
    cases t with
    | nil => simp at hz
    | cons h2 a2 b2 c2 d2 t =>
      cases t with
      | nil => simp at hz
      | cons h3 a3 b3 c3 d3 t => exact ⟨_, _, _, _, _, _, _, _, _, rfl, ra_of h1 a1 b1 (c1.mono (by decide)) (d1.mono (by decide)), ra_of h2 a2 b2 (c2.mono (by decide)) (d2.mono (by decide)), ra_of h3 a3 b3 (c3.mono (by decide)) (d3.mono (by decide)), c1, d1, c2, d2, c3, d3⟩
end Ob
namespace Ob
open PySem PySem.Spec PyProof.Rows L2
/-! ### own functions called by the names of their parameters alone -/
structure KB (fd : FuncData) (ps ks : List Str) (g : List Value → List Value) (gV : List V → List V) : Prop where
  to : ∀ (s : Shared) (ws : List Value), ws.length = ks.length → BindsTo s fd ⟨[], ks.zip ws⟩ (ps.zip (g ws))
  rel : ∀ {zs : List V} {ws : List Value}, Vals zs ws → zs.length = ks.length → Vals (gV zs) (g ws)
theorem Fun.kb {K : PySem.W.Frag} {x qual : Str} {st : Stmt} {f : Addr} {fd : FuncData} (F : Fun K x qual st f fd) {ps ks : List Str} {g : List Value → List Value} {gV : List V → List V}
    (h : ∀ (kV doc pm : Value) (an : Option Addr) (cdv ct : Value) (ws : List Value), ws.length = ks.length → bindArgs (PySem.W.fnOf x qual (defArgs st) (defBody st) (defScope st) .none kV doc pm an cdv ct) ⟨[], ks.zip ws⟩ = pure (ps.zip (g ws)))
    (r : ∀ {zs : List V} {ws : List Value}, Vals zs ws → zs.length = ks.length → Vals (gV zs) (g ws)) : KB fd ps ks g gV := by
  obtain ⟨oc, od, kV, doc, pm, an, c, ct, osl, rfl, look, code⟩ := F.ex
  exact ⟨fun s ws hl => .of_eq (h kV doc pm an c ct ws hl), r⟩
/-- reordering by places -/
def by_ {α : Type} [Inhabited α] (is : List Nat) (xs : List α) : List α := is.map fun i => xs.getD i default
def tCallK (m : Nat) (sp : Sp) (gV : List V → List V) (E : XK) (tk : TA) : TE := fun σ H Q => tk σ H fun zs H1 => zs.length = m ∧ sp (gV zs) H1 Q E
section
variable {K : PySem.W.Frag} {H : Hp} {σ : L2.St} {Q : VK} {tk : TA}
theorem rd_callK {m : Nat} {sp : Sp} {gV : List V → List V} {E : XK} (q : tk σ H fun zs H1 => zs.length = m ∧ sp (gV zs) H1 Q E) : tCallK m sp gV E tk σ H Q := q
theorem rd_kwl {zs : List V} {m : Nat} {A : Prop} (h : zs.length = m) (q : A) : zs.length = m ∧ A := ⟨h, q⟩
end
/-! ### lengths, by the numbers alone -/
section
variable {K : PySem.W.Frag} {H : Hp} {Q : VK}
end
end Ob
namespace Ob
open PySem PySem.Spec PyProof.Rows L2
/-! ### sets of cuts as truth over the units of a grain -/
def Frm (g : Nat) (f : Nat → Bool) (ss : List Sn) : Prop := 0 < g ∧ SnsOf g (rruns f g).reverse ss
def inB (ps : List (Nat × Nat)) (u : Nat) : Bool := ps.any fun r => decide (r.1 ≤ u) && decide (u < r.2)
theorem inB_iff {ps : List (Nat × Nat)} {u : Nat} : inB ps u = true ↔ In u ps := by
  unfold inB In
  rw [List.any_eq_true]
  constructor
  · rintro ⟨r, hr, h⟩
    rw [Bool.and_eq_true, decide_eq_true_eq, decide_eq_true_eq] at h
    exact ⟨r, hr, h⟩
  · rintro ⟨r, hr, h⟩
    exact ⟨r, hr, by rw [Bool.and_eq_true, decide_eq_true_eq, decide_eq_true_eq]; exact h⟩
theorem frm_of {g : Nat} {ps : List (Nat × Nat)} {ss : List Sn} (g0 : 0 < g) (a : Asc 0 ps) (bd : ∀ x ∈ ps, x.2 ≤ g) (s : SnsOf g ps ss) : Frm g (inB ps) ss := by
  have e : ps = (rruns (inB ps) g).reverse := asc_ext a (asc_rev (rruns_ok _ g)) fun u => by
    rw [in_rruns, inB_iff]
    refine ⟨fun h => ⟨?_, h⟩, fun h => h.2⟩
    obtain ⟨r, hr, h1, h2⟩ := h
    exact Nat.lt_of_lt_of_le h2 (bd r hr)
  exact ⟨g0, e ▸ s⟩
theorem rruns_congr {g : Nat} {f h : Nat → Bool} (e : ∀ u, u < g → f u = h u) : (rruns f g).reverse = (rruns h g).reverse :=
  asc_ext (asc_rev (rruns_ok f g)) (asc_rev (rruns_ok h g)) fun u => by
    rw [in_rruns, in_rruns]
    constructor
    · rintro ⟨a, b⟩
      exact ⟨a, by rw [← e u a]; exact b⟩
    · rintro ⟨a, b⟩
      exact ⟨a, by rw [e u a]; exact b⟩
theorem Frm.congr {g : Nat} {f h : Nat → Bool} {ss : List Sn} (k : Frm g f ss) (e : ∀ u, u < g → f u = h u) : Frm g h ss := ⟨k.1, rruns_congr e ▸ k.2⟩
theorem Frm.uniq {g : Nat} {f h : Nat → Bool} {ss ts : List Sn} (k : Frm g f ss) (l : Frm g h ts) (e : ∀ u, u < g → f u = h u) : ss = ts := sns_uniq k.1 (k.congr e).2 l.2
theorem low_inj {lo lo' g : Nat} {x y : Int} (h : IsLow (lo : Int) (g : Int) x y) (k : IsLow (lo' : Int) (g : Int) x y) : lo = lo' := by
  have e : (lo : Int) * y = (lo' : Int) * y := h.2.2.1.symm.trans k.2.2.1
  have := Int.eq_of_mul_eq_mul_right (show y ≠ 0 by have := h.1; omega) e
  omega
theorem sns_inj {g : Nat} : ∀ {ps qs : List (Nat × Nat)} {ss : List Sn}, SnsOf g ps ss → SnsOf g qs ss → ps = qs
  | _, _, _, .nil, .nil => rfl
  | _, _, _, .cons a b t, .cons a' b' t' => by rw [low_inj a a', low_inj b b', sns_inj t t']
theorem Frm.inj {g : Nat} {f h : Nat → Bool} {ss : List Sn} (k : Frm g f ss) (l : Frm g h ss) : ∀ u, u < g → f u = h u := by
  have e := sns_inj k.2 l.2
  intro u hu
  have a := in_rruns f g u
  have b := in_rruns h g u
  rw [e] at a
  rw [Bool.eq_iff_iff]
  constructor
  · intro z
    exact (b.mp (a.mpr ⟨hu, z⟩)).2
  · intro z
    exact (a.mp (b.mpr ⟨hu, z⟩)).2
theorem low_zero {g : Nat} (g0 : 0 < g) : IsLow ((0 : Nat) : Int) (g : Int) 0 1 := low_of (by decide) (by decide) (by simp) (by omega)
theorem low_full {g : Nat} (g0 : 0 < g) : IsLow (g : Int) (g : Int) 1 1 := low_of (by decide) (by decide) (by simp) (by omega)
theorem frm_all {g : Nat} (g0 : 0 < g) : Frm g (fun _ => true) [⟨0, 1, 1, 1⟩] := by
  refine (frm_of (ps := [(0, g)]) g0 (.cons (Nat.le_refl _) g0 .nil) (fun x hx => ?_) (.cons (low_zero g0) (low_full g0) .nil)).congr fun u hu => ?_
  · obtain rfl := List.mem_singleton.mp hx
    exact Nat.le_refl _
  · simp [inB, hu]
theorem frm_nil {g : Nat} (g0 : 0 < g) : Frm g (fun _ => false) [] := frm_of (ps := []) g0 .nil (fun x hx => by cases hx) .nil
theorem Frm.both {g : Nat} {f h : Nat → Bool} {ss ts : List Sn} (a : Frm g f ss) (b : Frm g h ts) : Frm g (fun u => f u && h u) (bothS ss ts) := ⟨a.1, both_form a.1 a.2 b.2⟩
theorem Frm.without {g : Nat} {f h : Nat → Bool} {ss ts : List Sn} (a : Frm g f ss) (b : Frm g h ts) : Frm g (fun u => f u && !h u) (bothS ss (gapsS (0, 1) ts)) := ⟨a.1, without_form a.1 a.2 b.2⟩
theorem cuts_of {g : Nat} (g0 : 0 < g) : ∀ {ps : List (Nat × Nat)} {ss : List Sn} {i : Nat}, Asc i ps → (∀ x ∈ ps, x.2 ≤ g) → SnsOf g ps ss → cutsB ss = true
  | _, _, _, _, _, .nil => rfl
  | _, _, _, h, bd, .cons (s := s) a b t => by
    cases h with
    | cons k lt r =>
      have ih := cuts_of g0 r (fun x hx => bd x (List.mem_cons_of_mem _ hx)) t
      unfold cutsB at ih ⊢
      rw [Bool.and_eq_true] at ih
      have ok : okS s = true := by
        have hb := bd _ List.mem_cons_self
        have e1 := a.2.2.1
        have e2 := b.2.2.1
        have y0 := a.1
        have v0 := b.1
        have x0 : 0 ≤ s.x := by
          have h1 : 0 ≤ s.x * (g : Int) := by rw [e1]; exact Int.mul_nonneg (by omega) (by omega)
          exact Int.nonneg_of_mul_nonneg_left h1 (by omega)
        have u1 : s.u ≤ s.v := by
          have h1 : s.u * (g : Int) ≤ s.v * (g : Int) := by
            rw [e2, Int.mul_comm s.v]
            exact Int.mul_le_mul_of_nonneg_right (by exact_mod_cast hb) (by omega)
          exact Int.le_of_mul_le_mul_right h1 (by omega)
        have l := (low_lt a b g0).mpr lt
        unfold okS
        simp [l]
        omega
      rw [Bool.and_eq_true]
      refine ⟨by simp [ok]; simpa using ih.1, ?_⟩
      cases t with
      | nil => simp
      | cons a' b' t' =>
        cases r with
        | cons k' lt' r' =>
          have l := (low_lt b a' g0).mpr (by omega)
          have ih2 := ih.2
          simp [okN, l] at ih2 ⊢
          exact ih2
theorem Frm.cuts {g : Nat} {f : Nat → Bool} {ss : List Sn} (h : Frm g f ss) : cutsB ss = true := cuts_of h.1 (asc_rev (rruns_ok f g)) (fun x hx => (rruns_ok f g).bnd x (List.mem_reverse.mp hx)) h.2
theorem Frm.has {g : Nat} {f : Nat → Bool} {ss : List Sn} (h : Frm g f ss) {x y : Int} (x0 : 0 ≤ x) (xy : x < y) (gg : Int.gcd x y = 1) : ∃ u : Nat, u < g ∧ ∀ {f' : Nat → Bool} {ts : List Sn}, Frm g f' ts → ts.any (hasS x y) = f' u := by
  have g0 := h.1
  have y0 : 0 < y := by omega
  have q0 : 0 ≤ x * g / y := Int.ediv_nonneg (Int.mul_nonneg x0 (by omega)) (by omega)
  have ql : x * g / y < g := by
    refine (Int.ediv_lt_iff_lt_mul y0).mpr ?_
    rw [Int.mul_comm (g : Int) y]
    exact Int.mul_lt_mul_of_pos_right xy (by omega)
  obtain ⟨u, hu⟩ := Int.eq_ofNat_of_zero_le q0
  refine ⟨u, by omega, fun {f' ts} k => ?_⟩
  have e := Int.emod_add_mul_ediv (x * g) y
  have low : IsLow ((u : Int) * y + (x * g) % y) ((g : Int) * y) x y := by
    refine low_of y0 gg ?_ (Int.mul_ne_zero (by omega) (by omega))
    rw [← hu]
    grind
  have hf := has_form low (by omega) y0 (Int.emod_nonneg _ (by omega)) (Int.emod_lt_of_pos _ y0) k.2
  rw [Bool.eq_iff_iff, hf]
  have m := in_rruns f' g u
  constructor
  · rintro ⟨r, hr, h1, h2⟩
    exact (m.mp ⟨r, hr, by omega, by omega⟩).2
  · intro z
    obtain ⟨r, hr, h1, h2⟩ := m.mpr ⟨by omega, z⟩
    exact ⟨r, hr, by omega, by omega⟩
/-! ### lengths -/
theorem Frm.empty {g : Nat} {f : Nat → Bool} {ss : List Sn} (h : Frm g f ss) : ss = [] ↔ ∀ u, u < g → f u = false := by
  constructor
  · rintro rfl u hu
    exact h.inj (frm_nil h.1) u hu
  · intro z
    exact h.uniq (frm_nil h.1) z
theorem Frm.same {g : Nat} {f h : Nat → Bool} {ss ts : List Sn} (a : Frm g f ss) (b : Frm g h ts) : ss = ts ↔ ∀ u, u < g → f u = h u := by
  constructor
  · rintro rfl
    exact a.inj b
  · exact a.uniq b
/-! ### lists of spans compared -/
instance : DecidableEq Sn := fun s t => decidable_of_iff (s.x = t.x ∧ s.y = t.y ∧ s.u = t.u ∧ s.v = t.v) ⟨fun ⟨a, b, c, d⟩ => by cases s; cases t; simp only at a b c d; subst a b c d; rfl, fun e => by subst e; exact ⟨rfl, rfl, rfl, rfl⟩⟩
section
variable {K : PySem.W.Frag} {H : Hp} {a b : Addr} {rs zs : List V} {ss ts : List Sn} {Q : VK}
end
end Ob
namespace Ob
open PySem PySem.Spec PyProof.Rows L2
/-! ### three sets of cuts put together and taken away -/
theorem Frm.ends {g : Nat} {f : Nat → Bool} {ss : List Sn} (a : Frm g f ss) : ∀ s ∈ ss, 0 ≤ s.x ∧ s.x < s.y := by
  obtain ⟨g0, k⟩ := a
  have hb : ∀ r ∈ (rruns f g).reverse, r.1 < r.2 ∧ r.2 ≤ g := fun r hr => ⟨(rruns_ok f g).pos r (List.mem_reverse.mp hr), (rruns_ok f g).bnd r (List.mem_reverse.mp hr)⟩
  generalize (rruns f g).reverse = ps at k hb
  induction k with
  | nil => intro s hs; cases hs
  | @cons lo hi ps s0 ss h k t ih =>
    intro s hs
    rcases List.mem_cons.mp hs with rfl | hs
    · have q := hb _ List.mem_cons_self
      have q1 : lo < hi := q.1
      have q2 : hi ≤ g := q.2
      have y0 := h.1
      have e := h.2.2.1
      constructor
      · have h1 : 0 ≤ s.x * (g : Int) := by rw [e]; exact Int.mul_nonneg (by omega) (by omega)
        exact Int.nonneg_of_mul_nonneg_left h1 (by omega)
      · have h1 : s.x * (g : Int) < s.y * (g : Int) := by
          rw [e, Int.mul_comm s.y]
          exact Int.mul_lt_mul_of_pos_right (by omega) y0
        exact Int.lt_of_mul_lt_mul_right h1 (by omega)
    · exact ih (fun r hr => hb r (List.mem_cons_of_mem _ hr)) s hs
/-! ### a set of cuts at an address -/
def SetA (K : PySem.W.Frag) (H : Hp) (l : Addr) (ss : List Sn) (m G : Nat) : Prop := ∃ rs, H l = some (.lst rs) ∧ SnsAt K H rs ss ∧ rs.length ≤ m ∧ ∃ g f, Frm g f ss ∧ g ≤ 2 ^ G
section
variable {K : PySem.W.Frag} {H J : Hp} {a b l D : Addr} {ss ts : List Sn} {m n G G' : Nat} {xs : List V} {σ : L2.St} {te : TE} {g : TG} {vs : List Nat}
theorem SetA.same (s : Same H J) (h : SetA K H l ss m G) : SetA K J l ss m G := by
  obtain ⟨rs, e, t, n, k⟩ := h
  exact ⟨rs, s _ _ e, t.mono fun p xs h => sqt_same s h, n, k⟩
theorem SetA.kp (k : Kp b H J) (gb : Bag b H) (nb : l ≠ b) (h : SetA K H l ss m G) : SetA K J l ss m G := by
  obtain ⟨rs, e, t, n, z⟩ := h
  exact ⟨rs, k _ _ nb e, t.mono fun p xs h => sqt_bag k gb h, n, z⟩
theorem SetA.up (h : SetA K H l ss m G) (a : m ≤ n) (b : G ≤ G') : SetA K H l ss n G' := by
  obtain ⟨rs, e, t, r, g, f, z, w⟩ := h
  exact ⟨rs, e, t, Nat.le_trans r a, g, f, z, Nat.le_trans w (Nat.pow_le_pow_right (by decide) b)⟩
/-- [f(x) for x in t], t a tuple; f may lay objects -/
theorem lc_growT (P : List V → Hp → Prop) {Qd : Hp → Prop} (hT : ∀ J, Kp D H J → SqT K J a xs) (hl : xs.length ≤ 500) (hD : H D = none) (h0 : ∀ J, Kp D H J → P [] J)
    (he : ∀ (i : Nat) x ys J, xs[i]? = some x → i ≤ 500 → ys.length = i → Kp D H J → J D = some (.lst ys) → P ys J → g x (wipe σ vs) J fun σ2 J2 => wipe σ2 vs = wipe σ vs ∧ te σ2 J2 fun y J3 => LcEnd D H P (i + 1) y J3)
    (hd : ∀ ys J, ys.length = xs.length → Kp D H J → J D = some (.lst ys) → P ys J → Qd J) : Lc (Itt K a) g tYes te vs σ Qd H D := by
  refine lc_tup (xs := xs) (fun i J => ∃ ys, ys.length = i ∧ Kp D H J ∧ J D = some (.lst ys) ∧ P ys J) ⟨[], rfl, Kp.new hD, upd_same, h0 _ (Kp.new hD)⟩ (fun i J _ w => ?_) (fun i x J hx w => ?_) fun J w => ?_
  · obtain ⟨ys, _, k, _⟩ := w
    exact hT J k
  · obtain ⟨ys, e, k, hJ, p⟩ := w
    have lt : i < xs.length := (List.getElem?_eq_some_iff.mp hx).1
    exact he i x ys J hx (by omega) e k hJ p
  · obtain ⟨ys, e, k, hJ, p⟩ := w
    exact hd ys J e k hJ p
/-- what the loop over cuts goes through -/
def CutV (K : PySem.W.Frag) (H : Hp) (v : V) : Prop := ∃ p x y, v = .ref p ∧ Ra K H p x y ∧ 0 ≤ x ∧ x < y
theorem CutV.same (s : Same H J) {v : V} (h : CutV K H v) : CutV K J v := by
  obtain ⟨p, x, y, e, r, z⟩ := h
  exact ⟨p, x, y, e, r.mono fun xs h => sqt_same s h, z⟩
end
end Ob
namespace Ob
open PySem PySem.Spec PyProof.Rows L2
/-! ### zip(list, tuple) -/
def ItzM (K : PySem.W.Frag) (a b : Addr) : It :=
  ⟨fun n H => ∃ (us ws : List V) (u w : V), SqL K H a us ∧ SqT K H b ws ∧ us[n]? = some u ∧ ws[n]? = some w,
    fun n H v J => ∃ T u w, v = .ref T ∧ H T = none ∧ J = upd H T (.tup [u, w]) ∧ (∀ us, SqL K H a us → us[n]? = some u) ∧ ∀ ws, SqT K H b ws → ws[n]? = some w,
    fun n H => ∃ us ws : List V, SqL K H a us ∧ SqT K H b ws ∧ n ≤ us.length ∧ n ≤ ws.length ∧ (n = us.length ∨ n = ws.length)⟩
theorem sep_of {z p q k m a b : Addr} (D : ZipApart z p q k m a b) : ZipSep2 z p q k m [k, a] [m, b] :=
  ⟨D.TIz, D.TOz, D.TITO, D.TIi1, by simp, by simp [D.i1z.symm, D.l1z.symm], by simp [D.TOi1, D.l1TO.symm], D.TIi2, by simp, by simp [D.i2z.symm, D.l2z.symm], by simp [D.TOi2, D.l2TO.symm], by simp [D.i12, D.l2i1.symm], by simp [D.i12.symm, D.l1i2.symm]⟩
abbrev fp5 (z p q k m : Addr) : List Addr := [z, p, q, k, m]
theorem off5 {z p q k m c : Addr} (h : c ∉ fp5 z p q k m) : c ≠ z ∧ c ≠ q ∧ c ≠ k ∧ c ≠ m := by
  simp only [fp5, List.mem_cons, List.not_mem_nil, or_false, not_or] at h
  exact ⟨h.1, h.2.2.1, h.2.2.2.1, h.2.2.2.2⟩
theorem turn_zipM {P : Program} {w : World} {K : PySem.W.Frag} {elts : List Expr} {kk : Nat} {tpos : PySem.Pos} {a b z p q k m : Addr} (D : ZipApart z p q k m a b) :
    Turn P w K (.Tuple elts kk tpos) (ItzM K a b) (fp5 z p q k m) z (fun n h => (IsZip h z p q .none ∧ IsPair h p (.ref k) (.ref m)) ∧ (∃ u v, IsPair h q u v) ∧ h.IsListIter k a n ∧ h.IsTupleIter m b n) where
  mem := by simp [fp5]
  obj := fun n h st c hc => by
    obtain ⟨⟨hz, hp⟩, ⟨u, v, hq⟩, ⟨o1, e1, _, d1⟩, ⟨o2, e2, _, d2⟩⟩ := st
    have hc2 : c = z ∨ c = p ∨ c = q ∨ c = k ∨ c = m := by simpa [fp5] using hc
    rcases hc2 with rfl | rfl | rfl | rfl | rfl
    · exact ⟨_, hz, fun _ r => nomatch r⟩
    · exact ⟨_, hp, fun _ r => nomatch r⟩
    · exact ⟨_, hq, fun _ r => nomatch r⟩
    · exact ⟨o1, e1, fun _ r => by rw [d1] at r; cases r⟩
    · exact ⟨o2, e2, fun _ r => by rw [d2] at r; cases r⟩
  keep := fun n h h' st kp => by
    obtain ⟨⟨hz, hp⟩, ⟨u, v, hq⟩, hk, hm⟩ := st
    have kz := kp z (by simp [fp5])
    have kp' := kp p (by simp [fp5])
    have kq := kp q (by simp [fp5])
    exact ⟨⟨kz _ hz, kp' _ hp⟩, ⟨u, v, kq _ hq⟩, hk.at fun o r => kp k (by simp [fp5]) o r, hm.at fun o r => kp m (by simp [fp5]) o r⟩
  item := by
    intro X eP ew eK hc n pins s σ H E I hf st hg
    subst eP ew eK
    obtain ⟨⟨hz, hp⟩, ⟨u0, v0, hq⟩, hk, hm⟩ := st
    obtain ⟨us, ws, u, w, qa, qb, eu, ew⟩ := hg
    obtain ⟨is1, rv1, p1, _⟩ := I.list qa
    obtain ⟨is2, rv2, p2, _⟩ := I.tuple qb
    obtain ⟨x, hx, rx⟩ := rv1.get eu
    obtain ⟨y, hy, ry⟩ := rv2.get ew
    have hh : X.A.in1.handled = none := I.ok.hd hc
    have D1 := Draws.list (prog := X.prog) (w := X.w) hh k a D.l1i1 is1.toArray
    have D2 := Draws.tuple (prog := X.prog) (w := X.w) hh m b D.l2i2 is2.toArray
    have zl : z < s.heap.objs.size := Heap.lt_size hz
    have n1 : n < is1.toArray.size := by
      have := (List.getElem?_eq_some_iff.mp hx).1
      simpa using this
    have n2 : n < is2.toArray.size := by
      have := (List.getElem?_eq_some_iff.mp hy).1
      simpa using this
    refine wpAny_pyNext_zipD2_item (sep_of D) D1 D2 hz hp hq ⟨hk, p1.isList⟩ ⟨hm, p2⟩ n1 n2 fun x1 x2 h' tk g1 g2 hz' hq' st1 st2 hT hsz kp => ?_
    have ex : x1 = x := by
      have g1' : is1[n]? = some x1 := by simpa using g1
      exact Option.some.inj (g1'.symm.trans hx)
    have ey : x2 = y := by
      have g2' : is2[n]? = some x2 := by simpa using g2
      exact Option.some.inj (g2'.symm.trans hy)
    subst ex ey
    refine ⟨_, rfl, wpAny_letOwnedTupleGo_zip (s := { s with heap := h', toks := tk }) hz' fun g gz sb => ?_⟩
    have hT2 : g.get? s.heap.objs.size = some { cls := .type "tuple", data := .seq #[x1, x2] } := (sb.2 _ (Nat.ne_of_gt zl)).trans hT
    have laid : ObjOk X.prog X.w (upd H s.heap.objs.size (.tup [u, w])) g s.heap.objs.size (.tup [u, w]) :=
      ⟨by show 2 ≤ sizeLine; decide, [x1, x2], .cons rx (.cons ry .nil), ⟨_, hT2, rfl, _, rfl⟩⟩
    have I2 : Inv X pins σ (upd H s.heap.objs.size (.tup [u, w])) { s with heap := g, toks := tk } :=
      I.turnedNew (t' := tk) (ch := fp5 z p q k m) (fun c o hb r => (sb.2 c (off5 hb).1).trans (kp c o (off5 hb).1 (off5 hb).2.1 (off5 hb).2.2.1 (off5 hb).2.2.2 r)) hf (Nat.le_refl _) laid
    refine ⟨.ref s.heap.objs.size, _, I2, rfl, ⟨_, u, w, rfl, I.hok.fresh (Nat.le_refl _), rfl, fun l hl => by rw [I.list_inj hl qa]; exact eu, fun l hl => by rw [I.tuple_inj hl qb]; exact ew⟩, ⟨⟨gz, ?_⟩, ⟨x1, x2, ?_⟩, ?_, ?_⟩, fun c hcm => ?_⟩
    · exact (sb.2 _ D.TIz).trans (kp _ _ D.TIz D.TITO D.TIi1 D.TIi2 hp)
    · exact (sb.2 _ D.TOz).trans hq'
    · exact st1.1.at fun o r => (sb.2 _ D.i1z).trans r
    · exact st2.1.at fun o r => (sb.2 _ D.i2z).trans r
    · obtain ⟨o, eo⟩ : ∃ o, s.heap.get? c = some o := by
        have hc2 : c = z ∨ c = p ∨ c = q ∨ c = k ∨ c = m := by simpa [fp5] using hcm
        rcases hc2 with rfl | rfl | rfl | rfl | rfl
        · exact ⟨_, hz⟩
        · exact ⟨_, hp⟩
        · exact ⟨_, hq⟩
        · obtain ⟨o, e, _⟩ := hk
          exact ⟨o, e⟩
        · obtain ⟨o, e, _⟩ := hm
          exact ⟨o, e⟩
      rw [upd_ne (Nat.ne_of_lt (Heap.lt_size eo))]
      exact (hf c hcm).1
  done := by
    intro X eP ew eK hc n pins s σ H E I hf st hg
    subst eP ew eK
    obtain ⟨⟨hz, hp⟩, ⟨u0, v0, hq⟩, hk, hm⟩ := st
    obtain ⟨us, ws, qa, qb, le1, le2, hend⟩ := hg
    obtain ⟨is1, rv1, p1, _⟩ := I.list qa
    obtain ⟨is2, rv2, p2, _⟩ := I.tuple qb
    have hh : X.A.in1.handled = none := I.ok.hd hc
    have D1 := Draws.list (prog := X.prog) (w := X.w) hh k a D.l1i1 is1.toArray
    have D2 := Draws.tuple (prog := X.prog) (w := X.w) hh m b D.l2i2 is2.toArray
    have s1 : is1.toArray.size = us.length := by
      have := rv1.length
      simp
      omega
    have s2 : is2.toArray.size = ws.length := by
      have := rv2.length
      simp
      omega
    exact wpAny_pyNext_zipD2_end (sep_of D) D1 D2 hz hp hq ⟨hk, p1.isList⟩ ⟨hm, p2⟩ (by omega) (by omega) (by omega) fun h' tk kp => ⟨rfl, I.turnedL (t' := tk) (ch := fp5 z p q k m) (fun c o hb r => kp c o (off5 hb).1 (off5 hb).2.1 (off5 hb).2.2.1 (off5 hb).2.2.2 r) hf⟩
  self := fun A n s Q E st h => wpAny_pyIter_zip st.1.1 h
def iZipM (K : PySem.W.Frag) (ta : TA) : TI := fun σ H R => ta σ H fun vs J => ∃ a b us ws, vs = [.ref a, .ref b] ∧ (SqL K J a us ∧ SqT K J b ws) ∧ R (ItzM K a b) J
theorem pi_zipM {X : Cx} {e1 e2 : Expr} {ta : TA} {ps qs ts : PySem.Pos} {elts : List Expr} {kk : Nat} (gl : Gl X "zip") (hm : X.mg "zip" = none) (ha : PA X [e1, e2] ta)
    (hse : starEach [e1, e2] X.env = (false, eval e1 X.env) :: starEach [e2] X.env := by rfl) (hpn : (backTo qs (starEach [e2] X.env)).any (·.1) = false := by rfl) :
    PI X (.Tuple elts kk ts) (.Call (.Name "zip" ps) [e1, e2] [] qs) (iZipM X.K ta) := by
  refine ⟨fun pins s σ H R I h => Call_ (ld_blt I gl hm PyProof.Rows.boot_zip (PyProof.Rows.callWith_type1 (thn (ha.run qs pins s σ H _ I h) fun us s1 w => ?_) hse hpn))⟩
  obtain ⟨vs, J, I1, rv, a, b, xs, ys, rfl, ⟨qa, qb⟩, q⟩ := w
  obtain ⟨u, us, rfl⟩ : ∃ u t, us = u :: t := by
    cases rv
    exact ⟨_, _, rfl⟩
  cases rv with
  | cons ra rv =>
  obtain ⟨w2, us, rfl⟩ : ∃ u t, us = u :: t := by
    cases rv
    exact ⟨_, _, rfl⟩
  cases rv with
  | cons rb rv =>
  cases rv
  cases ra
  cases rb
  obtain ⟨is1, rv1, p1, _⟩ := I1.list qa
  obtain ⟨is2, rv2, p2, _⟩ := I1.tuple qb
  obtain ⟨o2, ho2, _⟩ := id p2
  refine zip_begins2 (begins_list a is1.toArray) (begins_tuple b is2.toArray) p1.isList p2 fun h' hz hp hq g1 g2 hsz kp => wpAny_pyIter_zip hz ?_
  have D := PySem.W.ktu_apart s1.heap.objs.size a b p1.lt (Heap.lt_size ho2)
  refine ⟨s1.heap.objs.size + 4, fp5 (s1.heap.objs.size + 4) (s1.heap.objs.size + 2) (s1.heap.objs.size + 3) s1.heap.objs.size (s1.heap.objs.size + 1), _, _, J, rfl, I1.kept (t' := s1.toks) kp, turn_zipM D, ⟨⟨hz, hp⟩, ⟨_, _, hq⟩, ⟨_, g1, rfl, rfl⟩, ⟨_, g2, rfl, rfl⟩⟩, fun c hcm => ?_, q⟩
  have le : s1.heap.objs.size ≤ c := by
    simp only [fp5, List.mem_cons, List.not_mem_nil, or_false] at hcm
    rcases hcm with rfl | rfl | rfl | rfl | rfl
    · exact Nat.le_add_right _ _
    · exact Nat.le_add_right _ _
    · exact Nat.le_add_right _ _
    · exact Nat.le_refl _
    · exact Nat.le_add_right _ _
  exact I1.fpOk le (I1.hok.fresh le)
theorem piZM {X : Cx} {K : PySem.W.Frag} (h : X.K = K) {e1 e2 : Expr} {ta : TA} {ps qs ts : PySem.Pos} {elts : List Expr} {kk : Nat} (gl : Gl X "zip") (hm : X.mg "zip" = none) (ha : PA X [e1, e2] ta)
    (hse : starEach [e1, e2] X.env = (false, eval e1 X.env) :: starEach [e2] X.env := by rfl) (hpn : (backTo qs (starEach [e2] X.env)).any (·.1) = false := by rfl) :
    PI X (.Tuple elts kk ts) (.Call (.Name "zip" ps) [e1, e2] [] qs) (iZipM K ta) := h ▸ pi_zipM gl hm ha hse hpn
end Ob
namespace Ob
open PySem PySem.Spec PyProof.Rows L2
/-! ### repr of data with texts -/
mutual
def szT : PyData → Nat
  | .none => 4
  | .bool _ => 5
  | .int i => i.natAbs.log2 + 2
  | .str x => (reprText x).length
  | .list xs => szsT xs + 2
  | .tuple xs => szsT xs + 2
  | .dict _ => 0
def szsT : List PyData → Nat
  | [] => 0
  | x :: xs => szT x + 2 + szsT xs
end
mutual
def smT : PyData → Bool
  | .none => true
  | .bool _ => true
  | .int i => decide (i.natAbs.log2 < 1900)
  | .str _ => true
  | .list xs => smsT xs
  | .tuple xs => smsT xs
  | .dict _ => false
def smsT : List PyData → Bool
  | [] => true
  | x :: xs => smT x && smsT xs
end
mutual
theorem shownT_le : ∀ d : PyData, smT d = true → d.shown.length ≤ szT d ∧ d.showable = true ∧ d.hasDict = false
  | .none, _ => ⟨by decide +kernel, by simp [PyData.showable], by simp [PyData.hasDict]⟩
  | .bool b, _ => ⟨by cases b <;> decide +kernel, by simp [PyData.showable], by simp [PyData.hasDict]⟩
  | .int i, h => by
    have h1 : i.natAbs.log2 < 1900 := by simpa [smT] using h
    refine ⟨?_, by simp [PyData.showable]; omega, by simp [PyData.hasDict]⟩
    have e := int_text_length_le (a := i) (k := i.natAbs.log2 + 1) (by omega) (by omega)
    have e3 : (PyData.int i).shown = Str.ofString (toString i) := by simp only [PyData.shown]
    rw [e3, PySem.ofString_length, szT]
    omega
  | .str x, _ => ⟨by simp [PyData.shown, szT], by simp [PyData.showable], by simp [PyData.hasDict]⟩
  | .dict _, h => by simp [smT] at h
  | .list xs, h => by
    have q := shownsT_le xs (by simpa [smT] using h)
    refine ⟨?_, by simp [PyData.showable, q.2.1], by simp [PyData.hasDict, q.2.2]⟩
    have e := list_le (PyData.shownAll xs)
    simp only [PyData.shown, szT]
    omega
  | .tuple xs, h => by
    have q := shownsT_le xs (by simpa [smT] using h)
    refine ⟨?_, by simp [PyData.showable, q.2.1], by simp [PyData.hasDict, q.2.2]⟩
    have e := fmt_text (PyData.shownAll xs)
    simp only [PyData.shown, szT]
    omega
theorem shownsT_le : ∀ xs : List PyData, smsT xs = true → piled (PyData.shownAll xs) ≤ szsT xs ∧ PyData.showableAll xs = true ∧ PyData.hasDictAll xs = false
  | [], _ => ⟨Nat.zero_le _, by simp [PyData.showableAll], by simp [PyData.hasDictAll]⟩
  | x :: xs, h => by
    have h2 : smT x = true ∧ smsT xs = true := by simpa [smsT] using h
    have p := shownT_le x h2.1
    have q := shownsT_le xs h2.2
    refine ⟨?_, by simp [PyData.showableAll, p.2.1, q.2.1], by simp [PyData.hasDictAll, p.2.2, q.2.2]⟩
    have e : PyData.shownAll (x :: xs) = x.shown :: PyData.shownAll xs := by simp only [PyData.shownAll]
    rw [e, piled_cons, szsT]
    omega
end
section
variable {X : Cx} {K : PySem.W.Frag}
/-! ### divmod, tuple(x), what is never reached -/
def rDm : List V → Hp → VK → Prop := fun xs H Q => ∃ i j : Int, xs = [.int i, .int j] ∧ 0 < j ∧ j.natAbs < 2 ^ 9000 ∧ kT Q [.int (i / j), .int (i % j)] H
theorem cr_dm : CallR X (.builtin "divmod") rDm := by
  intro pins s σ H xs us Q I r h
  obtain ⟨i, j, e, j0, jb, _, q⟩ := h
  exact call_divmodW pins s σ H xs us Q I r ⟨i, j, e, ⟨j0, PyProof.noPylong_of_log2 (PySem.Flt.log2_lt_of (by decide) jb)⟩, q⟩
theorem rd_dm {H : Hp} {Q : VK} {i j : Int} (j0 : 0 < j) (jb : j.natAbs < 2 ^ 9000) (q : ∀ p J, H p = none → Same H J → J p = some (.tup [.int (i / j), .int (i % j)]) → Q (.ref p) J) : rDm [.int i, .int j] H Q := ⟨i, j, rfl, j0, jb, rd_kT rfl q⟩
def rTupL (K : PySem.W.Frag) : List V → Hp → VK → Prop := fun xs H Q => ∃ p ys, xs = [.ref p] ∧ ((SqL K H p ys ∧ ∀ l, H l = none → Q (.ref l) (upd H l (.tup ys))) ∨ (SqT K H p ys ∧ Q (.ref p) H))
theorem tupK (h : X.K = K) : CallR X (.type "tuple") (rTupL K) := h ▸ call_tuple_of
theorem rd_tupL {H : Hp} {Q : VK} {p : Addr} {ys : List V} (h : SqL K H p ys) (q : ∀ l J, H l = none → Same H J → J l = some (.tup ys) → Q (.ref l) J) : rTupL K [.ref p] H Q := ⟨p, ys, rfl, .inl ⟨h, fun l nl => q l _ nl (same_new nl) upd_same⟩⟩
theorem ps_dead {st : Stmt} : PS X st (fun _ _ _ => False) := ⟨fun _ _ _ _ _ _ h => h.elim⟩
end
section
variable {K : PySem.W.Frag} {H : Hp} {σ : L2.St} {a : Addr} {xs : List V} {g : TG}
theorem rd_forT {tl : TE} {tb : TS} {E : Ends} (q : tl σ H fun x H1 => ∃ a, x = .ref a ∧ (∃ xs, SqT K H1 a xs) ∧ Lp (Itt K a) g tb E σ H1) : tFor (iTup K tl) g tb E σ H := q
theorem lp_tup {tb : TS} {E : Ends} (Pv : Nat → L2.St → Hp → Prop) (h0 : Pv 0 σ H) (hl : ∀ i σ H, i ≤ xs.length → Pv i σ H → SqT K H a xs)
    (hs : ∀ i x σ H, xs[i]? = some x → Pv i σ H → g x σ H fun σ2 H2 => tb { E with nx := Pv (i + 1), ct := Pv (i + 1), bk := E.nx } σ2 H2) (hd : ∀ σ H, Pv xs.length σ H → E.nx σ H) : Lp (Itt K a) g tb E σ H := for_tup Pv h0 hl hs hd
theorem rd_iZM {ta : TA} {R : It → Hp → Prop} (q : ta σ H fun vs J => ∃ a b us ws, vs = [.ref a, .ref b] ∧ (SqL K J a us ∧ SqT K J b ws) ∧ R (ItzM K a b) J) : iZipM K ta σ H R := q
/-- over zip(list, tuple) of one length -/
theorem lc_zipM {te : TE} {vs : List Nat} {b D : Addr} {ys : List V} (P : List V → Hp → Prop) {Qd : Hp → Prop} (ha : H a = some (.lst xs)) (hb : H b = some (.tup ys)) (hxy : xs.length = ys.length) (hl : xs.length ≤ 500) (hD : H D = none) (h0 : ∀ J, Kp D H J → P [] J)
    (hP : ∀ zs J J', Same J J' → P zs J → P zs J')
    (he : ∀ (i : Nat) x y zs J T, xs[i]? = some x → ys[i]? = some y → i ≤ 500 → zs.length = i → Kp D H J → J D = some (.lst zs) → P zs J → J T = some (.tup [x, y]) → g (.ref T) (wipe σ vs) J fun σ2 J2 => wipe σ2 vs = wipe σ vs ∧ te σ2 J2 fun y J3 => LcEnd D H P (i + 1) y J3)
    (hd : ∀ zs J, zs.length = xs.length → Kp D H J → J D = some (.lst zs) → P zs J → Qd J) : Lc (ItzM K a b) g tYes te vs σ Qd H D := by
  have na : a ≠ D := ne_of_none ha hD
  have nb : b ≠ D := ne_of_none hb hD
  let W : Nat → Hp → Prop := fun i J => ∃ zs, zs.length = i ∧ Kp D H J ∧ J D = some (.lst zs) ∧ P zs J
  refine ⟨fun i m J => m = xs.length - i ∧ i ≤ xs.length ∧ W i J, ⟨_, rfl, Nat.zero_le _, [], rfl, Kp.new hD, upd_same, h0 _ (Kp.new hD)⟩, ?_⟩
  rintro i m J ⟨rfl, le, zs, e, k, hJ, p⟩
  have qa : SqL K J a xs := SqL.of (k a _ na ha)
  have qb : SqT K J b ys := SqT.of (k b _ nb hb)
  by_cases lt : i < xs.length
  · have hx : xs[i]? = some xs[i] := List.getElem?_eq_getElem lt
    have hy : ys[i]? = some ys[i] := List.getElem?_eq_getElem (by omega)
    refine .inr ⟨⟨xs, ys, _, _, qa, qb, hx, hy⟩, W (i + 1), fun J' w => ⟨xs.length - (i + 1), by omega, rfl, by omega, w⟩, fun v J' y => ?_⟩
    obtain ⟨T, x', y', rfl, nT, rfl, fx, fy⟩ := y
    have kT : Kp D H (upd J T (.tup [x', y'])) := k.trans (Kp.new nT)
    exact he i x' y' zs _ T (fx xs qa) (fy ys qb) (by omega) e kT (new_any nT hJ) (hP _ _ _ (same_new nT) p) upd_same
  · have ei : i = xs.length := by omega
    exact .inl ⟨⟨xs, ys, qa, qb, by omega, by omega, .inl ei⟩, hd zs J (by omega) k hJ p⟩
end
end Ob
namespace Ob
open PySem PySem.Spec PyProof.Rows L2
/-! ### entries: what they give, over a grain -/
structure Ent where
  first : Nat
  many : Nat
  am : List (Int × Int)
/-- the units of an amount -/
def unit (G : Nat) (r : Int × Int) : Int := r.1 * (G : Int) / r.2
def uts (G : Nat) (e : Ent) : List Int := e.am.map (unit G)
def Fits (G : Nat) (am : List (Int × Int)) : Prop := ∀ r ∈ am, 0 < r.2 ∧ r.2 ∣ (G : Int)
theorem unit_eq {G : Nat} {r : Int × Int} (h : r.2 ∣ (G : Int)) : unit G r * r.2 = r.1 * (G : Int) := Int.ediv_mul_cancel (Int.dvd_mul_of_dvd_right h)
/-- the sum of the first n of a pattern that goes on and on -/
def rnd (us : List Int) (n : Nat) : Int := ((n / us.length : Nat) : Int) * us.sum + (us.take (n % us.length)).sum
theorem take_succ_sum (us : List Int) (i : Nat) : (us.take (i + 1)).sum = (us.take i).sum + us.getD i 0 := by
  rw [List.take_add_one, List.sum_append]
  cases e : us[i]? with
  | none => simp [List.getD, e]
  | some x => simp [List.getD, e]
theorem rnd_zero (us : List Int) : rnd us 0 = 0 := by simp [rnd]
def bE (G : Nat) (e : Ent) (d : Nat) : Int := rnd (uts G e) (min (d - e.first) e.many)
def uE (G : Nat) (e : Ent) (d : Nat) : Int := if e.first ≤ d ∧ d < e.first + e.many then (uts G e).getD ((d - e.first) % e.am.length) 0 else 0
theorem uts_len (G : Nat) (e : Ent) : (uts G e).length = e.am.length := List.length_map ..
def bS (G : Nat) (es : List Ent) (d : Nat) : Int := (es.map fun e => bE G e d).sum
def uS (G : Nat) (es : List Ent) (d : Nat) : Int := (es.map fun e => uE G e d).sum
theorem bS_zero (G : Nat) : ∀ es : List Ent, bS G es 0 = 0
  | [] => by simp [bS]
  | e :: es => by
    have ih := bS_zero G es
    unfold bS at ih ⊢
    rw [List.map_cons, List.sum_cons, ih]
    simp [bE, rnd_zero]
/-! what often each amount comes -/
def dotF (f : Nat → Int) : List Int → Int
  | [] => 0
  | u :: us => u * f 0 + dotF (fun i => f (i + 1)) us
theorem dotF_const (q : Int) : ∀ us : List Int, dotF (fun _ => q) us = q * us.sum
  | [] => by simp [dotF]
  | u :: us => by rw [dotF, dotF_const q us, List.sum_cons, Int.mul_add, Int.mul_comm u q]
theorem dotF_times (q : Int) : ∀ (us : List Int) (r : Nat), dotF (fun i => if i < r then q + 1 else q) us = q * us.sum + (us.take r).sum
  | [], r => by simp [dotF]
  | u :: us, 0 => by
    have e : (fun i : Nat => if i < 0 then q + 1 else q) = fun _ => q := funext fun i => if_neg (by omega)
    rw [e, dotF_const]
    simp
  | u :: us, r + 1 => by
    have e : (fun i : Nat => if i + 1 < r + 1 then q + 1 else q) = fun i => if i < r then q + 1 else q := funext fun i => by
      by_cases c : i < r
      · rw [if_pos c, if_pos (by omega)]
      · rw [if_neg c, if_neg (by omega)]
    rw [dotF, if_pos (by omega), e, dotF_times q us r, List.sum_cons, List.take_succ_cons, List.sum_cons, Int.mul_add, Int.mul_add]
    rw [Int.mul_comm u q]
    omega
def dots (f : Nat → Int) (us : List Int) : List Int := (List.range us.length).map fun i => us.getD i 0 * f i
theorem dots_sum : ∀ (f : Nat → Int) (us : List Int), (dots f us).sum = dotF f us
  | f, [] => by simp [dots, dotF]
  | f, u :: us => by
    have ih := dots_sum (fun i => f (i + 1)) us
    unfold dots at ih ⊢
    rw [List.length_cons, List.range_succ_eq_map, List.map_cons, List.map_map, List.sum_cons, dotF, ← ih]
    congr 1
theorem dots_len (f : Nat → Int) (us : List Int) : (dots f us).length = us.length := by simp [dots]
theorem dots_get {f : Nat → Int} {us : List Int} {i : Nat} {u : Int} (h : us[i]? = some u) : (dots f us)[i]? = some (u * f i) := by
  have lt := (List.getElem?_eq_some_iff.mp h).1
  unfold dots
  rw [List.getElem?_map, List.getElem?_range lt]
  simp [List.getD, h]
/-! bounds -/
theorem bd_sum {n : Nat} : ∀ {us : List Int}, (∀ u ∈ us, Bd n u) → us.sum.natAbs ≤ us.length * 2 ^ n
  | [], _ => by simp
  | u :: us, h => by
    have ih := bd_sum (us := us) fun x hx => h x (List.mem_cons_of_mem _ hx)
    have h1 := h u List.mem_cons_self
    unfold Bd at h1
    rw [List.sum_cons, List.length_cons, Nat.succ_mul]
    have := Int.natAbs_add_le u us.sum
    omega
theorem bd_sums {n m : Nat} {us : List Int} (h : ∀ u ∈ us, Bd n u) (l : us.length < 2 ^ m) : Bd (m + n) us.sum := by
  have := bd_sum h
  unfold Bd
  rw [Nat.pow_add]
  exact Nat.lt_of_le_of_lt this (Nat.mul_lt_mul_of_pos_right l (Nat.pow_pos (by decide)))
theorem natAbs_ediv_le (u : Int) {v : Int} (h : 0 < v) : (u / v).natAbs ≤ u.natAbs := by
  have := natAbs_fdiv_le u h
  rwa [Int.fdiv_eq_ediv_of_nonneg u (by omega)] at this
theorem unit_bd {G n m : Nat} {r : Int × Int} (h : 0 < r.2) (a : Bd n r.1) (g : G < 2 ^ m) : Bd (n + m) (unit G r) := by
  have h1 : Bd (n + m) (r.1 * (G : Int)) := a.mul (by unfold Bd; omega)
  exact h1.le (natAbs_ediv_le _ h)
/-! ### entries at addresses -/
inductive AmsAt (H : Hp) : List V → List (Int × Int) → Prop
  | nil : AmsAt H [] []
  | cons {p : Addr} {rs : List V} {x y : Int} {l : List (Int × Int)} (h : H p = some (.tup [.int x, .int y])) (y0 : 0 < y) (g : Int.gcd x y = 1) (bx : Bd 20 x) (bu : Bd 20 y) (t : AmsAt H rs l) : AmsAt H (.ref p :: rs) ((x, y) :: l)
def EntAt (H : Hp) (v : V) (e : Ent) : Prop := ∃ p a rs, v = .ref p ∧ H p = some (.tup [.str "entry", .int (e.first : Int), .int (e.many : Int), .ref a]) ∧ H a = some (.tup rs) ∧ AmsAt H rs e.am ∧ e.am ≠ [] ∧ e.am.length ≤ 4 ∧ e.first + e.many ≤ 10 ^ 30 ∧ 1 ≤ e.many
inductive EntsAt (H : Hp) : List V → List Ent → Prop
  | nil : EntsAt H [] []
  | cons {v : V} {vs : List V} {e : Ent} {es : List Ent} (h : EntAt H v e) (t : EntsAt H vs es) : EntsAt H (v :: vs) (e :: es)
section
variable {K : PySem.W.Frag} {H J : Hp}
theorem AmsAt.mono (m : ∀ p xs, H p = some (.tup xs) → J p = some (.tup xs)) : ∀ {rs : List V} {l : List (Int × Int)}, AmsAt H rs l → AmsAt J rs l
  | _, _, .nil => .nil
  | _, _, .cons h a b c d t => .cons (m _ _ h) a b c d (t.mono m)
theorem AmsAt.len : ∀ {rs : List V} {l : List (Int × Int)}, AmsAt H rs l → rs.length = l.length
  | _, _, .nil => rfl
  | _, _, .cons _ _ _ _ _ t => by rw [List.length_cons, List.length_cons, t.len]
theorem AmsAt.get : ∀ {rs : List V} {l : List (Int × Int)}, AmsAt H rs l → ∀ {i : Nat} {v : V}, rs[i]? = some v → ∃ p x y, v = .ref p ∧ l[i]? = some (x, y) ∧ H p = some (.tup [.int x, .int y]) ∧ 0 < y ∧ Int.gcd x y = 1 ∧ Bd 20 x ∧ Bd 20 y
  | _, _, .nil, i, v, e => by simp at e
  | _, _, .cons h a b c d t, 0, v, e => by
    simp at e
    exact ⟨_, _, _, e.symm, rfl, h, a, b, c, d⟩
  | _, _, .cons h a b c d t, i + 1, v, e => by
    simp at e
    obtain ⟨p, x, y, e1, e2, e3⟩ := t.get e
    exact ⟨p, x, y, e1, by simpa using e2, e3⟩
theorem AmsAt.snoc {p : Addr} {x y : Int} (h : H p = some (.tup [.int x, .int y])) (y0 : 0 < y) (g : Int.gcd x y = 1) (bx : Bd 20 x) (bu : Bd 20 y) : ∀ {rs : List V} {l : List (Int × Int)}, AmsAt H rs l → AmsAt H (rs ++ [.ref p]) (l ++ [(x, y)])
  | _, _, .nil => .cons h y0 g bx bu .nil
  | _, _, .cons a b c d e t => .cons a b c d e (t.snoc h y0 g bx bu)
theorem AmsAt.bds : ∀ {rs : List V} {l : List (Int × Int)}, AmsAt H rs l → ∀ r ∈ l, 0 < r.2 ∧ Int.gcd r.1 r.2 = 1 ∧ Bd 20 r.1 ∧ Bd 20 r.2
  | _, _, .nil => fun r hr => by cases hr
  | _, _, .cons _ a b c d t => fun r hr => by
    rcases List.mem_cons.mp hr with rfl | hr
    · exact ⟨a, b, c, d⟩
    · exact t.bds r hr
theorem AmsAt.dp : ∀ {rs : List V} {l : List (Int × Int)}, AmsAt H rs l → DpAll K H rs (l.map ratD)
  | _, _, .nil => .nil
  | _, _, .cons h _ _ _ _ t => .cons (.tup (SqT.of h) (.cons (.int _) (.cons (.int _) .nil))) t.dp
theorem EntAt.mono (m : ∀ p xs, H p = some (.tup xs) → J p = some (.tup xs)) {v : V} {e : Ent} (h : EntAt H v e) : EntAt J v e := by
  obtain ⟨p, a, rs, e1, h1, h2, h3, r⟩ := h
  exact ⟨p, a, rs, e1, m _ _ h1, m _ _ h2, h3.mono m, r⟩
theorem EntsAt.mono (m : ∀ p xs, H p = some (.tup xs) → J p = some (.tup xs)) : ∀ {vs : List V} {es : List Ent}, EntsAt H vs es → EntsAt J vs es
  | _, _, .nil => .nil
  | _, _, .cons h t => .cons (h.mono m) (t.mono m)
theorem EntsAt.len : ∀ {vs : List V} {es : List Ent}, EntsAt H vs es → vs.length = es.length
  | _, _, .nil => rfl
  | _, _, .cons _ t => by rw [List.length_cons, List.length_cons, t.len]
theorem EntsAt.get : ∀ {vs : List V} {es : List Ent}, EntsAt H vs es → ∀ {i : Nat} {v : V}, vs[i]? = some v → ∃ e, es[i]? = some e ∧ EntAt H v e
  | _, _, .nil, i, v, e => by simp at e
  | _, _, .cons h t, 0, v, e => by
    simp at e
    subst e
    exact ⟨_, rfl, h⟩
  | _, _, .cons h t, i + 1, v, e => by
    simp at e
    obtain ⟨x, e1, e2⟩ := t.get e
    exact ⟨x, by simpa using e1, e2⟩
theorem EntsAt.snoc {v : V} {e : Ent} (h : EntAt H v e) : ∀ {vs : List V} {es : List Ent}, EntsAt H vs es → EntsAt H (vs ++ [v]) (es ++ [e])
  | _, _, .nil => .cons h .nil
  | _, _, .cons a t => .cons a (t.snoc h)
theorem EntsAt.all : ∀ {vs : List V} {es : List Ent}, EntsAt H vs es → ∀ e ∈ es, e.am ≠ [] ∧ e.am.length ≤ 4 ∧ e.first + e.many ≤ 10 ^ 30 ∧ 1 ≤ e.many ∧ ∀ r ∈ e.am, 0 < r.2 ∧ Int.gcd r.1 r.2 = 1 ∧ Bd 20 r.1 ∧ Bd 20 r.2
  | _, _, .nil => fun e he => by cases he
  | _, _, .cons h t => fun e he => by
    rcases List.mem_cons.mp he with rfl | he
    · obtain ⟨p, a, rs, _, _, _, am, h1, h2, h3, h4⟩ := h
      exact ⟨h1, h2, h3, h4, am.bds⟩
    · exact t.all e he
def entD (e : Ent) : PyData := .tuple [.str "entry", .int (e.first : Int), .int (e.many : Int), .tuple (e.am.map ratD)]
theorem EntsAt.dp : ∀ {vs : List V} {es : List Ent}, EntsAt H vs es → DpAll K H vs (es.map entD)
  | _, _, .nil => .nil
  | _, _, .cons h t => by
    obtain ⟨p, a, rs, rfl, h1, h2, h3, _⟩ := h
    exact .cons (.tup (SqT.of h1) (.cons (.str _) (.cons (.int _) (.cons (.int _) (.cons (.tup (SqT.of h2) h3.dp) .nil))))) t.dp
/-! ### fractions to be added -/
inductive FrsAt (K : PySem.W.Frag) (H : Hp) (G : Nat) : List V → List Int → Prop
  | nil : FrsAt K H G [] []
  | cons {p : Addr} {rs : List V} {x y u : Int} {us : List Int} (h : SqT K H p [.int x, .int y]) (y0 : 0 < y) (e : x * (G : Int) = u * y) (bx : Bd 1500 x) (bu : Bd 1500 y) (t : FrsAt K H G rs us) : FrsAt K H G (.ref p :: rs) (u :: us)
theorem FrsAt.mono {G : Nat} (m : ∀ p xs, SqT K H p xs → SqT K J p xs) : ∀ {rs : List V} {us : List Int}, FrsAt K H G rs us → FrsAt K J G rs us
  | _, _, .nil => .nil
  | _, _, .cons h a b c d t => .cons (m _ _ h) a b c d (t.mono m)
theorem FrsAt.len {G : Nat} : ∀ {rs : List V} {us : List Int}, FrsAt K H G rs us → rs.length = us.length
  | _, _, .nil => rfl
  | _, _, .cons _ _ _ _ _ t => by rw [List.length_cons, List.length_cons, t.len]
theorem FrsAt.get {G : Nat} : ∀ {rs : List V} {us : List Int}, FrsAt K H G rs us → ∀ {i : Nat} {v : V}, rs[i]? = some v → ∃ p x y u, v = .ref p ∧ us[i]? = some u ∧ SqT K H p [.int x, .int y] ∧ 0 < y ∧ x * (G : Int) = u * y ∧ Bd 1500 x ∧ Bd 1500 y
  | _, _, .nil, i, v, e => by simp at e
  | _, _, .cons h a b c d t, 0, v, e => by
    simp at e
    exact ⟨_, _, _, _, e.symm, rfl, h, a, b, c, d⟩
  | _, _, .cons h a b c d t, i + 1, v, e => by
    simp at e
    obtain ⟨p, x, y, u, e1, e2, e3⟩ := t.get e
    exact ⟨p, x, y, u, e1, by simpa using e2, e3⟩
theorem FrsAt.snoc {G : Nat} {p : Addr} {x y u : Int} (h : SqT K H p [.int x, .int y]) (y0 : 0 < y) (e : x * (G : Int) = u * y) (bx : Bd 1500 x) (bu : Bd 1500 y) : ∀ {rs : List V} {us : List Int}, FrsAt K H G rs us → FrsAt K H G (rs ++ [.ref p]) (us ++ [u])
  | _, _, .nil => .cons h y0 e bx bu .nil
  | _, _, .cons a b c d f t => .cons a b c d f (t.snoc h y0 e bx bu)
end
theorem lc_sig {J : It} {g : TG} {tt : TT} {te : TE} {vs : List Nat} {σ τ : L2.St} {Qd : Hp → Prop} {H1 : Hp} {D : Addr} (e : σ = τ) (q : Lc J g tt te vs τ Qd H1 D) : Lc J g tt te vs σ Qd H1 D := e ▸ q
theorem bE_bd {G : Nat} {e : Ent} {d : Nat} (l4 : e.am.length ≤ 4) (h : ∀ r ∈ e.am, 0 < r.2 ∧ Bd 20 r.1) (g : G < 2 ^ 500) (m30 : e.many ≤ 10 ^ 30) : Bd 640 (bE G e d) := by
  have hu : ∀ u ∈ uts G e, Bd 520 u := fun u hu => by
    obtain ⟨r, hr, rfl⟩ := List.mem_map.mp hu
    exact unit_bd (h r hr).1 (h r hr).2 g
  have s1 : Bd (3 + 520) (uts G e).sum := bd_sums hu (by rw [uts_len]; omega)
  have hn : min (d - e.first) e.many ≤ 10 ^ 30 := by omega
  unfold bE rnd
  generalize min (d - e.first) e.many = N at hn
  have s2 : Bd (3 + 520) ((uts G e).take (N % (uts G e).length)).sum := bd_sums (fun u k => hu u (List.mem_of_mem_take k)) (by rw [List.length_take, uts_len]; omega)
  have q1 : Bd 100 ((N / (uts G e).length : Nat) : Int) := by
    have h := Nat.div_le_self N (uts G e).length
    unfold Bd
    rw [Int.natAbs_natCast]
    exact Nat.lt_of_le_of_lt h (by omega)
  exact ((q1.mul s1).add (s2.mono (by decide))).mono (by decide)
theorem bS_bd {G : Nat} {es : List Ent} {d : Nat} (l : es.length ≤ 10) (h : ∀ e ∈ es, e.am.length ≤ 4 ∧ e.many ≤ 10 ^ 30 ∧ ∀ r ∈ e.am, 0 < r.2 ∧ Bd 20 r.1) (g : G < 2 ^ 500) : Bd 650 (bS G es d) := by
  have hu : ∀ u ∈ es.map (fun e => bE G e d), Bd 640 u := fun u hu => by
    obtain ⟨e, he, rfl⟩ := List.mem_map.mp hu
    exact bE_bd (h e he).1 (h e he).2.2 g (h e he).2.1
  exact (bd_sums (m := 4) hu (by rw [List.length_map]; omega)).mono (by decide)
/-- a list of entries at an address, and a grain that fits them -/
def Led (H : Hp) (l : Addr) (es : List Ent) (G : Nat) : Prop := ∃ vs, H l = some (.lst vs) ∧ EntsAt H vs es ∧ (∀ e ∈ es, Fits G e.am) ∧ 0 < G ∧ G < 2 ^ 500 ∧ vs.length ≤ 10
section
variable {H J : Hp} {l b : Addr} {es : List Ent} {G : Nat}
theorem Led.same (s : Same H J) (h : Led H l es G) : Led J l es G := by
  obtain ⟨vs, e, t, r⟩ := h
  exact ⟨vs, s _ _ e, t.mono fun p xs h => s _ _ h, r⟩
theorem Led.kp (k : Kp b H J) (gb : Bag b H) (nb : l ≠ b) (h : Led H l es G) : Led J l es G := by
  obtain ⟨vs, e, t, r⟩ := h
  exact ⟨vs, k _ _ nb e, t.mono fun p xs h => k.tup gb h, r⟩
theorem Led.pos (h : Led H l es G) : 0 < G := by
  obtain ⟨vs, e, t, f, g, r⟩ := h
  exact g
theorem Led.lt (h : Led H l es G) : G < 2 ^ 500 := by
  obtain ⟨vs, e, t, f, g, r, _⟩ := h
  exact r
theorem Led.bd (h : Led H l es G) (d : Nat) : Bd 650 (bS G es d) := by
  obtain ⟨vs, e, t, f, g, r, n⟩ := h
  have al := t.all
  have ln := t.len
  exact bS_bd (by omega) (fun e he => ⟨(al e he).2.1, by have := (al e he).2.2.1; omega, fun r hr => ⟨((al e he).2.2.2.2 r hr).1, ((al e he).2.2.2.2 r hr).2.2.1⟩⟩) r
end
theorem low_neg {t m n x y : Int} {g : Nat} (h : IsLow t (g : Int) m n) (l : IsLow (0 * n - m * 1) (1 * n) x y) (g0 : 0 < g) : IsLow (-t) (g : Int) x y := by
  refine low_of l.1 l.2.1 ?_ (by omega)
  have e1 := h.2.2.1
  have e2 := l.2.2.1
  have n0 := h.1
  refine Int.eq_of_mul_eq_mul_right (show n ≠ 0 by omega) ?_
  grind
theorem low_mod {t x y : Int} {g : Nat} (h : IsLow t (g : Int) x y) (g0 : 0 < g) : IsLow (t.fmod (g : Int)) (g : Int) (x.fmod y) y := by
  obtain ⟨y0, gg, e, b1, b2⟩ := h
  have d : y ∣ (g : Int) := by
    have : y ∣ x * (g : Int) := ⟨t, by rw [e, Int.mul_comm]⟩
    exact dvd_gcd1 gg this
  obtain ⟨k, ek⟩ := d
  have k0 : 0 < k := Int.pos_of_mul_pos_right (show 0 < y * k by omega) (by omega)
  have et : t = x * k := by
    refine Int.eq_of_mul_eq_mul_right (show y ≠ 0 by omega) ?_
    rw [← e, ek]
    grind
  refine low_of y0 ?_ ?_ (by omega)
  · rw [Int.gcd_comm, gcd_turn]
    exact gg
  · rw [Int.fmod_eq_emod_of_nonneg _ (by omega), Int.fmod_eq_emod_of_nonneg _ (by omega), ek, et, Int.mul_comm x k, Int.mul_comm y k, Int.mul_emod_mul_of_pos _ _ k0]
    grind
/-! ### what the drawing of a ledger keeps -/
def Kd (b D : Addr) (H J : Hp) : Prop := ∀ a o, a ≠ b → a ≠ D → H a = some o → J a = some o
section
variable {K : PySem.W.Frag} {H J M : Hp} {a b D p : Addr} {xs : List V}
theorem Kd.start (o : HO) : Kd b D H (upd H D o) := fun a u _ n e => by rw [upd_ne n]; exact e
theorem Kd.kp (k : Kd b D H J) (h : Kp b J M) : Kd b D H M := fun a o n1 n2 e => h _ _ n1 (k a o n1 n2 e)
theorem Kd.same (k : Kd b D H J) (h : Same J M) : Kd b D H M := fun a o n1 n2 e => h _ _ (k a o n1 n2 e)
theorem Kd.pu (k : Kd b D H J) (h : Pu D J M) : Kd b D H M := fun a o n1 n2 e => h.1 _ _ n2 (k a o n1 n2 e)
theorem Kd.tup (k : Kd b D H J) (gb : Bag b H) (nD : H D = none) (e : H a = some (.tup xs)) : J a = some (.tup xs) := k a _ (fun z => by
  obtain ⟨x, y, q⟩ := gb
  subst z
  cases e.symm.trans q) (ne_of_none e nD) e
theorem Kd.of (k : Kd b D H J) (nD : H D = none) : Kp b H J := fun a o n e => k a o n (ne_of_none e nD) e
end
/-! ### the least common grain -/
theorem lcm_at (G U : Nat) : ((G : Int) * (U : Int)).fdiv ((Int.gcd (G : Int) (U : Int) : Nat) : Int) = ((Nat.lcm G U : Nat) : Int) := by
  rw [Int.fdiv_eq_ediv_of_nonneg _ (by omega)]
  have e : Int.gcd (G : Int) (U : Int) = Nat.gcd G U := rfl
  rw [e]
  unfold Nat.lcm
  push_cast
  rfl
theorem lcm_le {G U a b : Nat} (g0 : 0 < G) (h : G ≤ 2 ^ a) (u0 : 0 < U) (k : U ≤ 2 ^ b) : 0 < Nat.lcm G U ∧ Nat.lcm G U ≤ 2 ^ (a + b) := by
  refine ⟨Nat.lcm_pos g0 u0, ?_⟩
  have h1 : Nat.lcm G U ≤ G * U := Nat.le_of_dvd (Nat.mul_pos g0 u0) (Nat.lcm_dvd (Nat.dvd_mul_right _ _) (Nat.dvd_mul_left _ _))
  rw [Nat.pow_add]
  exact Nat.le_trans h1 (Nat.mul_le_mul h k)
theorem Fits.up {G G' : Nat} {am : List (Int × Int)} (h : Fits G am) (d : G ∣ G') : Fits G' am := fun r hr => ⟨(h r hr).1, Int.dvd_trans (h r hr).2 (Int.natCast_dvd_natCast.mpr d)⟩
/-! ### statements -/
structure Stm where
  first : Nat
  many : Nat
  num : Int
def StmAt (H : Hp) (v : V) (s : Stm) : Prop := ∃ p, v = .ref p ∧ H p = some (.tup [.str "statement", .int (s.first : Int), .int (s.many : Int), .int s.num])
inductive StmsAt (H : Hp) : List V → List Stm → Prop
  | nil : StmsAt H [] []
  | cons {v : V} {vs : List V} {s : Stm} {ss : List Stm} (h : StmAt H v s) (t : StmsAt H vs ss) : StmsAt H (v :: vs) (s :: ss)
theorem StmAt.mono {H J : Hp} (m : ∀ p xs, H p = some (.tup xs) → J p = some (.tup xs)) {v : V} {s : Stm} (h : StmAt H v s) : StmAt J v s := by
  obtain ⟨p, e1, h1⟩ := h
  exact ⟨p, e1, m _ _ h1⟩
theorem StmsAt.mono {H J : Hp} (m : ∀ p xs, H p = some (.tup xs) → J p = some (.tup xs)) : ∀ {vs : List V} {es : List Stm}, StmsAt H vs es → StmsAt J vs es
  | _, _, .nil => .nil
  | _, _, .cons h t => .cons (h.mono m) (t.mono m)
theorem StmsAt.snoc {H : Hp} {v : V} {e : Stm} (h : StmAt H v e) : ∀ {vs : List V} {es : List Stm}, StmsAt H vs es → StmsAt H (vs ++ [v]) (es ++ [e])
  | _, _, .nil => .cons h .nil
  | _, _, .cons a t => .cons a (t.snoc h)
theorem StmsAt.len {H : Hp} : ∀ {vs : List V} {es : List Stm}, StmsAt H vs es → vs.length = es.length
  | _, _, .nil => rfl
  | _, _, .cons _ t => by rw [List.length_cons, List.length_cons, t.len]
theorem StmsAt.get {H : Hp} : ∀ {vs : List V} {es : List Stm}, StmsAt H vs es → ∀ {i : Nat} {v : V}, vs[i]? = some v → ∃ e, es[i]? = some e ∧ StmAt H v e
  | _, _, .nil, i, v, e => by simp at e
  | _, _, .cons h t, 0, v, e => by
    simp at e
    subst e
    exact ⟨_, rfl, h⟩
  | _, _, .cons h t, i + 1, v, e => by
    simp at e
    obtain ⟨x, e1, e2⟩ := t.get e
    exact ⟨x, by simpa using e1, e2⟩
def toldN (G : Nat) (es : List Ent) (u : Int) (i n : Nat) : Int := (bS G es (i + n) + u).fdiv (G : Int) - (bS G es i + u).fdiv (G : Int)
/-- what is drawn: entries, statements, a last day, a grain -/
structure Case (K : PySem.W.Frag) (H : Hp) (l s : Addr) (es : List Ent) (ss : List Stm) (last G : Nat) : Prop where
  led : Led H l es G
  g : G ≤ 2 ^ 320
  len : es.length ≤ 4
  first : ∀ e ∈ es, e.first + e.many ≤ last + 1
  lo : 2 ≤ last
  hi : last ≤ 13
  at_ : ∃ ws, H s = some (.lst ws) ∧ StmsAt H ws ss
  stm : ∀ x ∈ ss, 1 ≤ x.many ∧ x.first + x.many ≤ last + 1 ∧ Bd 700 x.num
theorem Case.same {K : PySem.W.Frag} {H J : Hp} {l s : Addr} {es : List Ent} {ss : List Stm} {last G : Nat} (h : Same H J) (c : Case K H l s es ss last G) : Case K J l s es ss last G :=
  ⟨c.led.same h, c.g, c.len, c.first, c.lo, c.hi, let ⟨ws, e, t⟩ := c.at_; ⟨ws, h _ _ e, t.mono fun p xs z => h _ _ z⟩, c.stm⟩
theorem Case.kp {K : PySem.W.Frag} {H J : Hp} {l s b : Addr} {es : List Ent} {ss : List Stm} {last G : Nat} (k : Kp b H J) (gb : Bag b H) (nl : l ≠ b) (ns : s ≠ b) (c : Case K H l s es ss last G) : Case K J l s es ss last G :=
  ⟨c.led.kp k gb nl, c.g, c.len, c.first, c.lo, c.hi, let ⟨ws, e, t⟩ := c.at_; ⟨ws, k _ _ ns e, t.mono fun p xs z => k.tup gb z⟩, c.stm⟩
theorem kl_tup {H J : Hp} {c a : Addr} {zs xs : List V} (k : Kp c H J) (hc : H c = some (.lst zs)) (e : H a = some (.tup xs)) : J a = some (.tup xs) := k a _ (fun z => by
  subst z
  cases hc.symm.trans e) e
theorem Case.kl {K : PySem.W.Frag} {H J : Hp} {l s c : Addr} {es : List Ent} {ss : List Stm} {last G : Nat} {zs : List V} (k : Kp c H J) (hc : H c = some (.lst zs)) (nl : l ≠ c) (ns : s ≠ c) (h : Case K H l s es ss last G) : Case K J l s es ss last G :=
  ⟨let ⟨ws, e, t, r⟩ := h.led; ⟨ws, k _ _ nl e, t.mono fun p xs z => kl_tup k hc z, r⟩, h.g, h.len, h.first, h.lo, h.hi, let ⟨ws, e, t⟩ := h.at_; ⟨ws, k _ _ ns e, t.mono fun p xs z => kl_tup k hc z⟩, h.stm⟩
theorem Bag.kl {H J : Hp} {b c : Addr} (k : Kp c H J) (n : b ≠ c) (g : Bag b H) : Bag b J := by
  obtain ⟨x, y, e⟩ := g
  exact ⟨x, y, k _ _ n e⟩
/-- how it is told in lowest terms by anyone -/
theorem low_same {t t' x y x' y' : Int} {g : Nat} (h : IsLow t (g : Int) x y) (k : IsLow t' (g : Int) x' y') (g0 : 0 < g) (e : t = t') : x = x' ∧ y = y' := by
  subst e
  exact low_uniq h k (by omega) (by omega) rfl
theorem rd_extK {H : Hp} {Q : VK} {l c : Addr} {xs zs : List V} (h : H l = some (.lst xs)) (k : H c = some (.lst zs)) (hz : xs.length + zs.length ≤ 1000) (q : ∀ J, Pu l H J → J l = some (.lst (xs ++ zs)) → Q .non J) : rExtend (.ref l) [.ref c] H Q :=
  ⟨l, c, xs, zs, rfl, rfl, h, k, Nat.le_of_lt (small1000 hz), q _ ⟨Kp.at, ⟨_, h⟩, ⟨_, upd_same⟩⟩ upd_same⟩
end Ob
namespace Ob
open PySem PySem.Spec PyProof.Rows L2
/-! ### set(a list of ints), and sorted of it -/
/-- the first i of the numbers as a set, of some size -/
def Some' (w : World) (h : Heap) (a : Addr) (val : Nat → Int) (i : Nat) : Prop := ∃ m, m ≤ i ∧ SetR w h a (fun k => ((List.range i).map val).any (· == k)) m
section
variable {P : Program} {w : World} {A : Around} {R : Result → Shared → Prop} {I S : Addr} {fp wr : List Addr} {G : Array GenState → Array GenState → Prop} {n : Nat} {Pv : Nat → Value → Prop} {St : Nat → Shared → Prop}
theorem update_loopR (W : WalksS P w A.in1 I fp wr G n Pv St) (off : S ∉ fp) (val : Nat → Int) (hv : ∀ i v, Pv i v → ∃ t, v = .int (val i) t) (hb : n + 1 < scanBound) :
    ∀ (k i : Nat) (s : Shared), n - i = k → i ≤ n → St i s → Some' w s.heap S val i → (∀ s', Moved (S :: wr) G s s' → Some' w s'.heap S val n → R (.ok (.ret .none)) s') →
      codeAny (model P w) A (.builtin "set.update.loop" ⟨[.ref S, .ref I], []⟩) R s := by
  have off2 : S ∉ wr := fun z => off (W.sub _ z)
  have more : ∀ b ∈ wr, b ∈ S :: wr := fun b z => List.mem_cons_of_mem _ z
  have still : ∀ {i : Nat} {s s' : Shared}, Moved wr G s s' → Some' w s.heap S val i → Some' w s'.heap S val i := fun {i s s'} m q => by
    obtain ⟨c, le, r⟩ := q
    exact ⟨c, le, r.at fun o e => m.heap S o off2 e⟩
  intro k
  induction k with
  | zero =>
    intro i s ek hi st q hR
    obtain rfl : i = n := by omega
    refine codeAny_builtin F.entry_set_update_loop ?_; rw [Around.under_plainId F.plain_set_update_loop _]
    show wpAny _ A.in1 (pyNext (.ref I) >>= _) _ _ s; refine wpAny_bind (W.done s _ _ st fun s' m => ?_)
    show wpAny _ A.in1 (ret Value.none) _ _ s'; exact wpAny_pure (hR s' (m.mono more) (still m q))
  | succ k ih =>
    intro i s ek hi st q hR
    have lt : i < n := by omega
    refine codeAny_builtin F.entry_set_update_loop ?_; rw [Around.under_plainId F.plain_set_update_loop _]
    show wpAny _ A.in1 (pyNext (.ref I) >>= _) _ _ s; refine wpAny_bind (W.item i s _ _ lt st fun v s' pv st' m => ?_)
    obtain ⟨t, rfl⟩ := hv i v pv
    obtain ⟨c, le, r⟩ := still m q
    show wpAny _ A.in1 (holding [Value.int (val i) t] (setAdd S (.int (val i) t)) >>= _) _ _ s'; refine wpAny_bind (wpAny_holding ?_)
    unfold setAdd; refine wpAny_holding ?_; refine wpAny_bind ((intKind P w).pyHash (k := val i) (intKind_is _ _ _ _) ?_)
    refine setR_add_hashed (s := { s' with toks := s'.toks + 1 }) r (by omega) fun h' sb r2 => ?_
    have q2 : Some' w h' S val (i + 1) := by
      refine ⟨_, ?_, SetR.congr r2 fun k' => ?_⟩
      · split <;> omega
      · rw [List.range_succ, List.map_append, List.any_append]
        by_cases e : k' = val i
        · subst e
          simp
        · have e2 : (val i == k') = false := by simpa [beq_iff_eq] using fun z : val i = k' => e z.symm
          simp [e, e2]
    refine wpAny_pure ⟨plainId_quiet F.plain_set_update_loop _, ih (i + 1) _ (by omega) lt (W.frame _ s' _ _ st' (Nat.le_succ _) fun b z o e => ?_) q2 fun s'' m2 q3 => ?_⟩
    · rw [sb.2 b (fun z2 : b = S => off (z2 ▸ z))]; exact e
    · refine hR s'' (Moved.trans W.gtrans ((m.mono more).then_heap (Nat.le_succ _) fun b o z e => ?_) m2) q3
      rw [sb.2 b (fun z2 : b = S => z (z2 ▸ List.mem_cons_self))]; exact e
end
abbrev freshSet (w : World) : Obj := { cls := .type "set", dict := none, data := .set #[] 0 (.fresh 0 0 (!w.params.followText "set-order")) }
section
variable {P : Program} {w : World} {A : Around} {E : Value → Shared → Prop} {s : Shared}
theorem code_set_one (a : Value) {Q₁ : Value → Shared → Prop} (h : Q₁ (.ref s.heap.objs.size) { s with heap := s.heap.push (freshSet w) }) :
    codeAny (model P w) A (.call (.builtin "set.__new__") ⟨[.type "set", a], []⟩) (wants Q₁ E) s := by
  refine codeAny_of_tree ?_
  show wpAny _ A.in1 (do checkBuiltinCall "set.__new__" ⟨[.type "set", a], []⟩; again (.builtin "set.__new__" ⟨[.type "set", a], []⟩)) _ _ s; refine wpAny_bind (wpAny_of_eq (F.newCall_set_1 a) (wpAny_pure ⟨plainId_quiet F.plain_set_new _, codeAny_builtin F.entry_set_new ?_⟩))
  rw [Around.under_plainId F.plain_set_new _]; unfold Builtin.«set.__new__» Builtin.Frozenset.newClass
  have hsub := sub_set_self
  obtain ⟨hp, g, d, tk, os⟩ := s
  dsimp only
  wp_walk
  refine wpAny_askSetting (wpAny_pure ?_); dsimp only; simp only [newObj]
  refine wpAny_bind (wpAny_alloc (wpAny_pure ?_)); exact wpAny_pure h
set_option maxHeartbeats 4000000 in
theorem set_listR {l : Addr} {items : Array Value} {ns : List Int} {Q : Value → Shared → Prop} (hh : A.handled = none) (hl : s.heap.IsList l items) (hi : IntsAre items.toList ns) (hb : items.size + 1 < scanBound)
    (h : ∀ (h' : Heap) (tk : Nat), Some' w h' s.heap.objs.size (fun i => ns.getD i 0) items.size → (∀ b o, b < s.heap.objs.size → s.heap.get? b = some o → h'.get? b = some o) → Q (.ref s.heap.objs.size) { s with heap := h', toks := tk }) :
    wpAny (model P w) A (call (.type "set") [.ref l]) Q E s := by
  obtain ⟨c, tl, hmro⟩ := F.called_set.mro
  have hmade := F.called_set.made; have hsub := F.called_set.sub
  refine wpAny_call (codeAny_of_tree ?_)
  show wpAny _ _ (callAny (.type "set") _) _ _ _; refine wpAny_pure ⟨Code.quiet_builtin _ (by decide +kernel), codeAny_builtin F.entry_type_call ?_⟩
  rw [Around.under_plain (weight_type_call_type "set" [.ref l] []) rfl]; have h1 := F.called_set.notType
  have h2 := F.called_set.canCreate; have hct := F.typeCall_set_1 (.ref l)
  repeat (any_goals (first | assumption | wp_step))
  refine codeAny_mono (code_set_one (.ref l) (E := E) (Q₁ := fun obj s₁ => obj = .ref s.heap.objs.size ∧ s₁ = { s with heap := s.heap.push (freshSet w) }) ⟨rfl, rfl⟩) fun r s₁ hr => ?_
  cases r with
  | error e => exact hr
  | ok fl =>
    cases fl with
    | ret obj =>
      obtain ⟨rfl, rfl⟩ := hr
      have hS : (s.heap.push (freshSet w)).get? s.heap.objs.size = some (freshSet w) := Heap.get?_push_size _ rfl
      have hT : Shared.TypeIs { s with heap := s.heap.push (freshSet w) } (.ref s.heap.objs.size) "set" := ⟨_, hS, rfl⟩
      have hli := F.called_set.init.lookup; have hbi := F.called_set.init.bind (.ref s.heap.objs.size)
      repeat (any_goals (first | assumption | wp_step))
      refine codeAny_mono (codeAny_call_builtin (R := wants (fun r s₂ => r = .none ∧ ∃ h' tk, s₂ = { s with heap := h', toks := tk } ∧ Some' w h' s.heap.objs.size (fun i => ns.getD i 0) items.size ∧ (∀ b o, b < s.heap.objs.size → s.heap.get? b = some o → h'.get? b = some o)) E)
        F.called_set.init.plain F.entry_set_init (check_set_init_1 hT ?_)) fun r₂ s₂ hr₂ => ?_
      · obtain ⟨ol, hol, hcl, nl, hdl⟩ := hl
        obtain ⟨ocls, odict, odata, oslots⟩ := ol
        simp only at hcl hdl
        subst hcl hdl
        have hol' : (s.heap.push (freshSet w)).get? l = some { cls := .type "list", dict := odict, data := .seq items nl, slots := oslots } := Heap.get?_push_of_some _ hol
        have hsls := F.sub_list_set; have hslf := F.sub_list_frozenset
        have hne : (Value.type "list" == Value.type "dict") = false := by decide
        have hl1 : (s.heap.push (freshSet w)).IsList l items := ⟨_, hol', rfl, nl, rfl⟩
        unfold Builtin.«set.__init__» noKeywords Builtin.Frozenset.updateFrom; generalize hPI : pyIter = PI
        wp_walk
        subst hPI
        refine wpAny_pyIter_list hl1 ?_; refine wpAny_bind (wpAny_runValue ?_)
        have ll : l < s.heap.objs.size := Heap.lt_size hol
        have h3 : A.in1.in1.in1.handled = none := by simp [hh]
        have sz : (s.heap.push (freshSet w)).objs.size = s.heap.objs.size + 1 := Heap.size_push ..
        have neI : l ≠ (s.heap.push (freshSet w)).objs.size := by rw [sz]; exact Nat.ne_of_lt (Nat.lt_succ_of_lt ll)
        have off : s.heap.objs.size ∉ [(s.heap.push (freshSet w)).objs.size, l] := by
          rw [sz]; simp only [List.mem_cons, List.not_mem_nil, or_false, not_or]
          exact ⟨Nat.ne_of_lt (Nat.lt_succ_self _), Nat.ne_of_gt ll⟩
        have hval : ∀ (i : Nat) (v : Value), items[i]? = some v → ∃ t, v = .int ((fun i => ns.getD i 0) i) t := fun i v hv => IntsAre.int_at hi i v (by rw [Array.getElem?_toList]; exact hv)
        refine update_loopR ((Walks.list h3 _ l neI items).toS) off (fun i => ns.getD i 0) hval hb (items.size - 0) 0 _ (by omega) (Nat.zero_le _) ⟨⟨_, Heap.get?_push_size _ rfl, rfl, rfl⟩, (hl1.push _)⟩ ?_ ?_
        · exact ⟨0, Nat.le_refl _, ((setR_fresh (h := s.heap) w).at fun o e => Heap.get?_push_of_some _ e).congr fun k => by simp⟩
        · intro s' hm hS'
          obtain ⟨h', g', d', tk', os'⟩ := s'
          have eg : g' = s.gens := hm.gens; have ed : d' = s.drawn := hm.drawn; have eo : os' = s.os := hm.os
          subst eg ed eo
          show wpAny _ _ _ _ _ _; refine wpAny_pure ?_
          show wpAny _ _ (ret Value.none) _ _ _; refine wpAny_pure ⟨rfl, h', tk', rfl, hS', fun b o z e => ?_⟩
          refine hm.heap b o (fun z2 => ?_) (Heap.get?_push_of_some _ (Heap.get?_push_of_some _ e))
          simp only [List.mem_cons, List.not_mem_nil, or_false] at z2
          rcases z2 with rfl | rfl
          · exact Nat.lt_irrefl _ z
          · rw [sz] at z
            exact Nat.not_succ_lt_self z
      · cases r₂ with
        | error e => exact hr₂
        | ok fl₂ =>
          cases fl₂ with
          | ret r =>
            obtain ⟨rfl, h', tk, rfl, hS', hk'⟩ := hr₂
            repeat (any_goals (first | assumption | wp_step))
            exact h _ _ hS' hk'
          | _ => exact hr₂.elim
    | _ => exact hr.elim
end
def rSetI (w : World) (K : PySem.W.Frag) : List V → Hp → VK → Prop := fun xs H Q => ∃ (l : Addr) (ns : List Int), xs = [.ref l] ∧ SqL K H l (ns.map V.int) ∧ ns.length ≤ 1000 ∧
  ∀ (p : Addr) (S : Int → Bool) (n : Nat), n ≤ ns.length → (∀ k, S k = true ↔ k ∈ ns) → H p = none → Q (.ref p) (upd H p (SetO w p S n))
theorem ints_vals : ∀ {ns : List Int} {us : List Value}, Vals (ns.map V.int) us → IntsAre us ns
  | [], _, .nil => .nil
  | n :: ns, _, .cons r t => by
    obtain ⟨k, rfl⟩ := r
    exact .cons n k (ints_vals t)
section
variable {X : Cx}
theorem cr_setI (hc : X.calm = true) : CallR X (.type "set") (rSetI X.w X.K) := by
  intro pins s σ H xs us Q I r h
  obtain ⟨l, ns, rfl, hq, le, q⟩ := h
  rw [Vals.ref1 r]
  obtain ⟨its, rv, p1, _⟩ := I.list hq
  have hz : its.toArray.size = ns.length := by rw [List.size_toArray, ← rv.length, List.length_map]
  refine set_listR (I.ok.hd hc) p1.isList (by simpa using ints_vals rv) (by rw [hz]; unfold scanBound; omega) fun h' tk hS hk => ?_
  obtain ⟨m, le2, R⟩ := hS
  rw [hz] at R le2
  have new : Inv X pins σ (upd H s.heap.objs.size (SetO X.w s.heap.objs.size (fun k => ((List.range ns.length).map fun i => ns.getD i 0).any (· == k)) m)) { s with heap := h', toks := tk } :=
    I.laid (t' := tk) (fun b u e => hk b u (Heap.lt_size e) e) (Nat.le_refl _) (setO_new R)
  refine ⟨.ref _, _, new, rfl, q _ _ m le2 (fun k => ?_) (I.hok.fresh (Nat.le_refl _))⟩
  rw [List.any_eq_true]
  constructor
  · rintro ⟨x, hx, e⟩
    obtain ⟨i, hi, rfl⟩ := List.mem_map.mp hx
    have hi := List.mem_range.mp hi
    have e : ns.getD i 0 = k := by simpa using e
    rw [← e, show ns.getD i 0 = ns[i] by simp [List.getD, List.getElem?_eq_getElem hi]]
    exact List.getElem_mem hi
  · intro hk
    obtain ⟨i, hi, rfl⟩ := List.mem_iff_getElem.mp hk
    exact ⟨_, List.mem_map.mpr ⟨i, List.mem_range.mpr hi, rfl⟩, by simp [List.getD, List.getElem?_eq_getElem hi]⟩
theorem setIK {w : World} {K : PySem.W.Frag} (h : X.w = w) (h2 : X.K = K) (hc : X.calm = true) : CallR X (.type "set") (rSetI w K) := h ▸ h2 ▸ cr_setI hc
end
section
variable {w : World} {K : PySem.W.Frag} {H : Hp} {Q : VK}
theorem rd_setI {l : Addr} {xs : List V} {ns : List Int} (h : SqL K H l xs) (e : xs = ns.map V.int) (le : ns.length ≤ 1000) (q : ∀ p J S n, n ≤ ns.length → (∀ k, S k = true ↔ k ∈ ns) → H p = none → Same H J → J p = some (SetO w p S n) → Q (.ref p) J) : rSetI w K [.ref l] H Q :=
  ⟨l, ns, rfl, e ▸ h, le, fun p S n a b c => q p _ S n a b c (same_new c) upd_same⟩
end
end Ob
namespace Ob
open PySem PySem.Spec PyProof.Rows L2
/-! ### which units tell a number -/
/-- the point of a sum, in units -/
def ptU (G : Nat) (b : Int) : Nat := ((-b).fmod (G : Int)).toNat
theorem ptU_eq {G : Nat} (g0 : 0 < G) (b : Int) : ((ptU G b : Nat) : Int) = (-b).fmod (G : Int) ∧ ptU G b < G := by
  have h := fmod_rng (x := -b) (n := (G : Int)) (by omega)
  unfold ptU
  omega
/-- what a unit adds to the floor of a sum -/
def stepU (G : Nat) (b : Int) (u : Nat) : Int := if ptU G b ≤ u ∧ 0 < ptU G b then 1 else 0
theorem floor_step {G : Nat} (g0 : 0 < G) (b : Int) {u : Nat} (hu : u < G) : (b + (u : Int)).fdiv (G : Int) = b.fdiv (G : Int) + stepU G b u := by
  obtain ⟨e1, lt⟩ := ptU_eq g0 b
  have G0 : (0 : Int) < (G : Int) := by omega
  rw [Int.fdiv_eq_ediv_of_nonneg _ (by omega), Int.fdiv_eq_ediv_of_nonneg _ (by omega)]
  rw [Int.fmod_eq_emod_of_nonneg _ (by omega)] at e1
  have r0 := Int.emod_nonneg b (show (G : Int) ≠ 0 by omega)
  have r1 := Int.emod_lt_of_pos b G0
  have d := Int.emod_add_mul_ediv b (G : Int)
  generalize b / (G : Int) = q at *
  generalize b % (G : Int) = r at *
  -- the point from the rest
  have hp : (-b) % (G : Int) = if r = 0 then 0 else (G : Int) - r := by
    by_cases c : r = 0
    · rw [if_pos c]
      refine ((Int.ediv_emod_unique G0 (q := -q)).mpr ⟨?_, by omega, by omega⟩).2
      rw [← d, c]
      grind
    · rw [if_neg c]
      refine ((Int.ediv_emod_unique G0 (q := -q - 1)).mpr ⟨?_, by omega, by omega⟩).2
      rw [← d]
      grind
  rw [hp] at e1
  unfold stepU
  by_cases c : r = 0
  · rw [if_pos c] at e1
    rw [if_neg (by omega)]
    refine ((Int.ediv_emod_unique G0 (r := (u : Int))).mpr ⟨?_, by omega, by omega⟩).1
    rw [← d, c]
    grind
  · rw [if_neg c] at e1
    by_cases c2 : ptU G b ≤ u
    · rw [if_pos ⟨c2, by omega⟩]
      refine ((Int.ediv_emod_unique G0 (r := r + (u : Int) - (G : Int))).mpr ⟨?_, by omega, by omega⟩).1
      rw [← d]
      grind
    · rw [if_neg (by omega)]
      refine ((Int.ediv_emod_unique G0 (r := r + (u : Int))).mpr ⟨?_, by omega, by omega⟩).1
      rw [← d]
      grind
theorem told_step {G : Nat} {es : List Ent} (g0 : 0 < G) {u : Nat} (hu : u < G) (i n : Nat) :
    toldN G es (u : Int) i n = (bS G es (i + n)).fdiv (G : Int) + stepU G (bS G es (i + n)) u - ((bS G es i).fdiv (G : Int) + stepU G (bS G es i) u) := by
  unfold toldN
  rw [floor_step g0 _ hu, floor_step g0 _ hu]
/-- the lesser neighbour -/
theorem lesser_eq {G : Nat} (g0 : 0 < G) (a b : Int) : (b - a).fdiv (G : Int) = b.fdiv (G : Int) - a.fdiv (G : Int) + (if ptU G a = ptU G b then 0 else if ptU G b = 0 then -1 else if ptU G a = 0 then 0 else if ptU G a < ptU G b then -1 else 0) := by
  obtain ⟨e1, l1⟩ := ptU_eq g0 a
  obtain ⟨e2, l2⟩ := ptU_eq g0 b
  have G0 : (0 : Int) < (G : Int) := by omega
  rw [Int.fdiv_eq_ediv_of_nonneg _ (by omega), Int.fdiv_eq_ediv_of_nonneg _ (by omega), Int.fdiv_eq_ediv_of_nonneg _ (by omega)]
  rw [Int.fmod_eq_emod_of_nonneg _ (by omega)] at e1 e2
  have pt : ∀ b : Int, (-b) % (G : Int) = if b % (G : Int) = 0 then 0 else (G : Int) - b % (G : Int) := fun b => by
    have r0 := Int.emod_nonneg b (show (G : Int) ≠ 0 by omega)
    have r1 := Int.emod_lt_of_pos b G0
    have d := Int.emod_add_mul_ediv b (G : Int)
    by_cases c : b % (G : Int) = 0
    · rw [if_pos c]
      refine ((Int.ediv_emod_unique G0 (q := -(b / (G : Int)))).mpr ⟨?_, by omega, by omega⟩).2
      grind
    · rw [if_neg c]
      refine ((Int.ediv_emod_unique G0 (q := -(b / (G : Int)) - 1)).mpr ⟨?_, by omega, by omega⟩).2
      grind
  rw [pt] at e1 e2
  have ra0 := Int.emod_nonneg a (show (G : Int) ≠ 0 by omega)
  have ra1 := Int.emod_lt_of_pos a G0
  have da := Int.emod_add_mul_ediv a (G : Int)
  have rb0 := Int.emod_nonneg b (show (G : Int) ≠ 0 by omega)
  have rb1 := Int.emod_lt_of_pos b G0
  have db := Int.emod_add_mul_ediv b (G : Int)
  generalize a / (G : Int) = qa at *
  generalize a % (G : Int) = ra at *
  generalize b / (G : Int) = qb at *
  generalize b % (G : Int) = rb at *
  by_cases c : ra ≤ rb
  · have e : (b - a) / (G : Int) = qb - qa := by
      refine ((Int.ediv_emod_unique G0 (r := rb - ra)).mpr ⟨?_, by omega, by omega⟩).1
      rw [← da, ← db]
      grind
    rw [e]
    split at e1 <;> split at e2 <;> (repeat' split) <;> omega
  · have e : (b - a) / (G : Int) = qb - qa - 1 := by
      refine ((Int.ediv_emod_unique G0 (r := rb - ra + (G : Int))).mpr ⟨?_, by omega, by omega⟩).1
      rw [← da, ← db]
      grind
    rw [e]
    split at e1 <;> split at e2 <;> (repeat' split) <;> omega
/-- the units from A up to below B, round the ring -/
def arcF (A B u : Nat) : Bool := if A = B then false else if A < B then decide (A ≤ u) && decide (u < B) else decide (u < B) || decide (A ≤ u)
theorem told_same {G : Nat} {es : List Ent} (g0 : 0 < G) {i n : Nat} (e : ptU G (bS G es i) = ptU G (bS G es (i + n))) {u : Nat} (hu : u < G) : toldN G es (u : Int) i n = (bS G es (i + n) - bS G es i).fdiv (G : Int) := by
  rw [told_step g0 hu, lesser_eq g0, if_pos e]
  unfold stepU
  rw [e]
  omega
theorem told_arcs {G : Nat} {es : List Ent} (g0 : 0 < G) {i n : Nat} (e : ptU G (bS G es i) ≠ ptU G (bS G es (i + n))) {u : Nat} (hu : u < G) :
    toldN G es (u : Int) i n = (bS G es (i + n) - bS G es i).fdiv (G : Int) + (if arcF (ptU G (bS G es i)) (ptU G (bS G es (i + n))) u = true then 0 else 1) ∧
      arcF (ptU G (bS G es (i + n))) (ptU G (bS G es i)) u = !arcF (ptU G (bS G es i)) (ptU G (bS G es (i + n))) u := by
  obtain ⟨_, l1⟩ := ptU_eq g0 (bS G es i)
  obtain ⟨_, l2⟩ := ptU_eq g0 (bS G es (i + n))
  rw [told_step g0 hu, lesser_eq g0, if_neg e]
  unfold stepU arcF
  generalize ptU G (bS G es i) = A at *
  generalize ptU G (bS G es (i + n)) = B at *
  constructor
  · rw [if_neg e]
    by_cases c : A < B
    · rw [if_pos c]
      by_cases c1 : A ≤ u <;> by_cases c2 : u < B <;> simp [c1, c2] <;> (repeat' split) <;> omega
    · rw [if_neg c]
      by_cases c1 : A ≤ u <;> by_cases c2 : u < B <;> simp [c1, c2] <;> (repeat' split) <;> omega
  · rw [if_neg e, if_neg fun z => e z.symm]
    by_cases c : A < B
    · rw [if_pos c, if_neg (by omega)]
      by_cases c1 : A ≤ u <;> by_cases c2 : u < B <;> by_cases c3 : u < A <;> by_cases c4 : B ≤ u <;> simp [c1, c2, c3, c4] <;> omega
    · rw [if_neg c, if_pos (by omega)]
      by_cases c1 : A ≤ u <;> by_cases c2 : u < B <;> by_cases c3 : u < A <;> by_cases c4 : B ≤ u <;> simp [c1, c2, c3, c4] <;> omega
theorem frm_arcF {A B G : Nat} {x y u v : Int} (ha : A < G) (hb : B < G) (la : IsLow (A : Int) (G : Int) x y) (lb : IsLow (B : Int) (G : Int) u v) : Frm G (arcF A B) (arcD x y u v) := by
  have g0 : 0 < G := by omega
  have eAB : (x = u ∧ y = v) ↔ A = B := by
    constructor
    · rintro ⟨rfl, rfl⟩
      exact low_inj la lb
    · rintro rfl
      exact low_uniq la lb (by omega) (by omega) rfl
  have lt := low_lt la lb g0
  have ez : (u = 0 ∧ v = 1) ↔ B = 0 := by
    constructor
    · rintro ⟨rfl, rfl⟩
      have := lb.2.2.1
      omega
    · rintro rfl
      exact low_uniq lb (low_zero g0) (by omega) (by omega) rfl
  unfold arcD
  by_cases c : A = B
  · rw [if_pos (eAB.mpr c)]
    refine (frm_nil g0).congr fun w _ => ?_
    unfold arcF
    rw [if_pos c]
  · rw [if_neg fun z => c (eAB.mp z)]
    by_cases c2 : A < B
    · rw [if_pos (lt.mpr c2)]
      refine (frm_of g0 (.cons (Nat.zero_le _) c2 .nil) (fun r hr => ?_) (.cons la lb .nil)).congr fun w _ => ?_
      · obtain rfl := List.mem_singleton.mp hr
        exact Nat.le_of_lt hb
      · unfold arcF inB
        rw [if_neg c, if_pos c2]
        simp
    · rw [if_neg fun z => c2 (lt.mp z)]
      by_cases c3 : B = 0
      · rw [if_pos (ez.mpr c3)]
        refine (frm_of g0 (ps := [(A, G)]) (.cons (Nat.zero_le _) ha .nil) (fun r hr => ?_) (.cons la (low_full g0) .nil)).congr fun w hw => ?_
        · obtain rfl := List.mem_singleton.mp hr
          exact Nat.le_refl _
        · unfold arcF inB
          rw [if_neg c, if_neg c2]
          simp [hw, c3]
      · rw [if_neg fun z => c3 (ez.mp z)]
        refine (frm_of g0 (ps := [(0, B), (A, G)]) (.cons (Nat.le_refl _) (by omega) (.cons (by omega) ha .nil)) (fun r hr => ?_) (.cons (low_zero g0) lb (.cons la (low_full g0) .nil))).congr fun w hw => ?_
        · simp only [List.mem_cons, List.not_mem_nil, or_false] at hr
          rcases hr with rfl | rfl
          · exact Nat.le_of_lt hb
          · exact Nat.le_refl _
        · unfold arcF inB
          rw [if_neg c, if_neg c2]
          simp [hw]
/-- the cuts that tell a number -/
def tellF (G : Nat) (es : List Ent) (i n : Nat) (num : Int) (u : Nat) : Bool := decide (toldN G es (u : Int) i n = num)
end Ob
/-! Methods whose promise is asked only where nothing is being shown (FnG). -/
namespace Ob
open PySem PySem.Spec PyProof.Rows L2
section
variable {X : Cx} {CX : CXT} {k : Nat} {f C : Addr} {fd : FuncData} {ps : List Str} {sp : Sp} {ds : List Value} {dvs : List V} {E : XK} {m : Str} {o e : Expr} {es : List Expr} {ta : TE} {t : TA} {apos pos : PySem.Pos} {pl : Sem Bool}
/-- o.m(e, ..) -/
theorem pm_g (he : PE X o ta) (c : Cls X.K C) (hm : Meth X.K C m f) (F : FnG X.prog X.w X.K X.mg X.base CX k f fd ps sp) (hg : X.A.guards = some []) (hr : Room k X.A) (hb : Binds X.K fd ps ds) (hd : Vals dvs ds) (hx : Passes CX X E) (ha : PA X (e :: es) t)
    (hst : starEach (e :: es) X.env = (false, eval e X.env) :: starEach es X.env := by rfl) (hpl : (backTo pos (starEach es X.env)).any (·.1) = false := by rfl)
    (ht : eval (.Call (.Attribute o m apos) (e :: es) [] pos) X.env = (do
      let ov ← eval o X.env
      standAt apos.atName
      let (f, first) ← holding [ov] (getMethod ov m pl)
      callWith pos f first (backTo pos (starEach (e :: es) X.env)) (backToKw pos (keywordEach [] X.env))) := by rfl) :
    PE X (.Call (.Attribute o m apos) (e :: es) [] pos) (tMeth C m sp dvs E ta t) :=
  ⟨fun pins s σ H Q I h => PySem.W.methodCall_KW (pl := pl) (thn (he.run pins s σ H _ I h) fun u s1 ⟨x, H1, I1, rx, a, dx, fs, ex, ea, l, q⟩ => by
    subst ex
    obtain rfl : u = Value.ref a := rx
    exact getmeth_ok I1 ea c hm l (PySem.W.callWith_K (first := [.ref a]) (h₀ := X.base) I1.ok.mod.kin hm.kp (thn (ha.run pos pins s1 σ H1 _ I1 q) fun us s2 ⟨vs, H2, I2, r, q2⟩ =>
      ⟨I2.kIn, run_g (us := .ref a :: us) (vs := .ref a :: vs) F hg hr hb hd hx I2 (.cons rfl r) q2⟩) hst hpl)) ht⟩
/-- o.m() -/
theorem pm_g0 (he : PE X o ta) (c : Cls X.K C) (hm : Meth X.K C m f) (F : FnG X.prog X.w X.K X.mg X.base CX k f fd ps sp) (hg : X.A.guards = some []) (hr : Room k X.A) (hb : Binds X.K fd ps ds) (hd : Vals dvs ds) (hx : Passes CX X E)
    (ht : eval (.Call (.Attribute o m apos) [] [] pos) X.env = (do
      let ov ← eval o X.env
      standAt apos.atName
      let (f, first) ← holding [ov] (getMethod ov m pl)
      callWith pos f first (backTo pos (starEach [] X.env)) (backToKw pos (keywordEach [] X.env))) := by rfl) :
    PE X (.Call (.Attribute o m apos) [] [] pos) (tMeth C m sp dvs E ta tNil) :=
  ⟨fun pins s σ H Q I h => PySem.W.methodCall_KW (pl := pl) (thn (he.run pins s σ H _ I h) fun u s1 ⟨x, H1, I1, rx, a, dx, fs, ex, ea, l, q⟩ => by
    subst ex
    obtain rfl : u = Value.ref a := rx
    exact getmeth_ok I1 ea c hm l (PySem.W.callWith_K0 (first := [.ref a]) I1.kIn hm.kp (run_g (us := [.ref a]) (vs := [.ref a]) F hg hr hb hd hx I1 (.cons rfl .nil) q))) ht⟩
end
end Ob
/-! Ledgers: items under numbers, an object with a dict. -/
namespace Ob
open PySem PySem.Spec PyProof.Rows L2 LiI
/-! ### items -/
inductive Itm
  | en (e : Ent)
  | st (s : Stm)
def AmOk (e : Ent) : Prop := ∀ r ∈ e.am, r.1.natAbs ≤ 1000000 ∧ r.2 ≤ 1000000
def StOk (s : Stm) : Prop := s.first + s.many ≤ 10 ^ 30 ∧ 1 ≤ s.many
def ItmAt (H : Hp) (v : V) : Itm → Prop
  | .en e => EntAt H v e ∧ AmOk e
  | .st s => StmAt H v s ∧ StOk s
inductive KvsAt (H : Hp) : List (Key × V) → List (Nat × Itm) → Prop
  | nil : KvsAt H [] []
  | cons {n : Nat} {v : V} {i : Itm} {kvs : List (Key × V)} {its : List (Nat × Itm)} (h : ItmAt H v i) (t : KvsAt H kvs its) : KvsAt H ((Sum.inl (n : Int), v) :: kvs) ((n, i) :: its)
inductive ItsAt (H : Hp) : List V → List Itm → Prop
  | nil : ItsAt H [] []
  | cons {v : V} {i : Itm} {vs : List V} {is : List Itm} (h : ItmAt H v i) (t : ItsAt H vs is) : ItsAt H (v :: vs) (i :: is)
def entsOf : List Itm → List Ent
  | [] => []
  | .en e :: r => e :: entsOf r
  | .st _ :: r => entsOf r
def stmsOf : List Itm → List Stm
  | [] => []
  | .en _ :: r => stmsOf r
  | .st s :: r => s :: stmsOf r
theorem entsOf_app : ∀ a b : List Itm, entsOf (a ++ b) = entsOf a ++ entsOf b
  | [], _ => rfl
  | .en e :: a, b => congrArg (e :: ·) (entsOf_app a b)
  | .st _ :: a, b => entsOf_app a b
theorem stmsOf_app : ∀ a b : List Itm, stmsOf (a ++ b) = stmsOf a ++ stmsOf b
  | [], _ => rfl
  | .en _ :: a, b => stmsOf_app a b
  | .st s :: a, b => congrArg (s :: ·) (stmsOf_app a b)
theorem entsOf_en : ∀ es : List Ent, entsOf (es.map Itm.en) = es
  | [] => rfl
  | e :: es => congrArg (e :: ·) (entsOf_en es)
theorem entsOf_st : ∀ ss : List Stm, entsOf (ss.map Itm.st) = []
  | [] => rfl
  | _ :: ss => entsOf_st ss
theorem stmsOf_en : ∀ es : List Ent, stmsOf (es.map Itm.en) = []
  | [] => rfl
  | _ :: es => stmsOf_en es
theorem stmsOf_st : ∀ ss : List Stm, stmsOf (ss.map Itm.st) = ss
  | [] => rfl
  | s :: ss => congrArg (s :: ·) (stmsOf_st ss)
theorem entsOf_perm {a b : List Itm} (h : a.Perm b) : (entsOf a).Perm (entsOf b) := by
  induction h with
  | nil => exact .nil
  | cons x _ ih => cases x with
    | en e => exact .cons e ih
    | st s => exact ih
  | swap x y l => cases x <;> cases y <;> first | exact List.Perm.swap _ _ _ | exact List.Perm.refl _
  | trans _ _ h1 h2 => exact h1.trans h2
theorem stmsOf_perm {a b : List Itm} (h : a.Perm b) : (stmsOf a).Perm (stmsOf b) := by
  induction h with
  | nil => exact .nil
  | cons x _ ih => cases x with
    | en e => exact ih
    | st s => exact .cons s ih
  | swap x y l => cases x <;> cases y <;> first | exact List.Perm.swap _ _ _ | exact List.Perm.refl _
  | trans _ _ h1 h2 => exact h1.trans h2
section
variable {H J : Hp} (m : ∀ p xs, H p = some (.tup xs) → J p = some (.tup xs))
include m
theorem ItmAt.mono {v : V} : ∀ {i : Itm}, ItmAt H v i → ItmAt J v i
  | .en _, ⟨h, a⟩ => ⟨h.mono m, a⟩
  | .st _, ⟨h, a⟩ => ⟨h.mono m, a⟩
theorem KvsAt.mono : ∀ {kvs : List (Key × V)} {its : List (Nat × Itm)}, KvsAt H kvs its → KvsAt J kvs its
  | _, _, .nil => .nil
  | _, _, .cons h t => .cons (h.mono m) t.mono
theorem ItsAt.mono : ∀ {vs : List V} {is : List Itm}, ItsAt H vs is → ItsAt J vs is
  | _, _, .nil => .nil
  | _, _, .cons h t => .cons (h.mono m) t.mono
end
section
variable {H J : Hp} {kvs : List (Key × V)} {its : List (Nat × Itm)}
theorem KvsAt.len : ∀ {kvs : List (Key × V)} {its : List (Nat × Itm)}, KvsAt H kvs its → kvs.length = its.length
  | _, _, .nil => rfl
  | _, _, .cons _ t => congrArg (· + 1) t.len
theorem KvsAt.get : ∀ {kvs : List (Key × V)} {its : List (Nat × Itm)}, KvsAt H kvs its → ∀ {i : Nat} {k : Key} {v : V}, kvs[i]? = some (k, v) → ∃ (n : Nat) (it : Itm), k = Sum.inl (n : Int) ∧ its[i]? = some (n, it) ∧ ItmAt H v it
  | _, _, .nil, _, _, _, e => by cases e
  | _, _, .cons h _, 0, _, _, e => by
    obtain ⟨rfl, rfl⟩ := Prod.mk.inj (Option.some.inj e)
    exact ⟨_, _, rfl, rfl, h⟩
  | _, _, .cons _ t, _ + 1, _, _, e => t.get e
theorem ItsAt.len : ∀ {vs : List V} {is : List Itm}, ItsAt H vs is → vs.length = is.length
  | _, _, .nil => rfl
  | _, _, .cons _ t => congrArg (· + 1) t.len
theorem ItsAt.app : ∀ {vs ws : List V} {is js : List Itm}, ItsAt H vs is → ItsAt H ws js → ItsAt H (vs ++ ws) (is ++ js)
  | _, _, _, _, .nil, h => h
  | _, _, _, _, .cons h t, k => .cons h (t.app k)
theorem ItsAt.perm {vs ws : List V} (h : vs.Perm ws) : ∀ {is : List Itm}, ItsAt H vs is → ∃ js, is.Perm js ∧ ItsAt H ws js := by
  induction h with
  | nil => intro is t; exact ⟨is, .refl _, t⟩
  | cons x _ ih =>
    intro is t
    cases t with
    | cons h t =>
      obtain ⟨js, p, u⟩ := ih t
      exact ⟨_, p.cons _, .cons h u⟩
  | swap x y l =>
    intro is t
    cases t with
    | cons h t => cases t with
      | cons k t => exact ⟨_, .swap _ _ _, .cons k (.cons h t)⟩
  | trans _ _ h1 h2 =>
    intro is t
    obtain ⟨js, p, u⟩ := h1 t
    obtain ⟨ks, r, w⟩ := h2 u
    exact ⟨ks, p.trans r, w⟩
theorem EntsAt.asI : ∀ {vs : List V} {es : List Ent}, EntsAt H vs es → (∀ e ∈ es, AmOk e) → ItsAt H vs (es.map Itm.en)
  | _, _, .nil, _ => .nil
  | _, _, .cons h t, a => .cons ⟨h, a _ (List.mem_cons_self ..)⟩ (t.asI fun e he => a e (List.mem_cons_of_mem _ he))
theorem StmsAt.asI : ∀ {vs : List V} {ss : List Stm}, StmsAt H vs ss → (∀ s ∈ ss, StOk s) → ItsAt H vs (ss.map Itm.st)
  | _, _, .nil, _ => .nil
  | _, _, .cons h t, a => .cons ⟨h, a _ (List.mem_cons_self ..)⟩ (t.asI fun e he => a e (List.mem_cons_of_mem _ he))
def isEn : Itm → Bool
  | .en _ => true
  | .st _ => false
/-- what stands ahead in an item -/
theorem ItmAt.tup {v : V} : ∀ {i : Itm}, ItmAt H v i → ∃ p a b c, v = .ref p ∧ H p = some (.tup [.str (if isEn i then "entry" else "statement"), a, b, c])
  | .en _, ⟨⟨p, a, rs, e, h, _⟩, _⟩ => ⟨p, _, _, _, e, h⟩
  | .st _, ⟨⟨p, e, h⟩, _⟩ => ⟨p, _, _, _, e, h⟩
theorem ItsAt.ents : ∀ {vs : List V} {is : List Itm}, ItsAt H vs is → (∀ i ∈ is, isEn i = true) → EntsAt H vs (entsOf is)
  | _, _, .nil, _ => .nil
  | _, _, .cons (i := .en e) h t, a => .cons h.1 (t.ents fun i hi => a i (List.mem_cons_of_mem _ hi))
  | _, _, .cons (i := .st s) h t, a => by cases a _ (List.mem_cons_self ..)
theorem ItsAt.stms : ∀ {vs : List V} {is : List Itm}, ItsAt H vs is → (∀ i ∈ is, isEn i = false) → StmsAt H vs (stmsOf is)
  | _, _, .nil, _ => .nil
  | _, _, .cons (i := .st s) h t, a => .cons h.1 (t.stms fun i hi => a i (List.mem_cons_of_mem _ hi))
  | _, _, .cons (i := .en e) h t, a => by cases a _ (List.mem_cons_self ..)
theorem entsOf_filter : ∀ is : List Itm, entsOf (is.filter isEn) = entsOf is
  | [] => rfl
  | .en e :: r => congrArg (e :: ·) (entsOf_filter r)
  | .st _ :: r => entsOf_filter r
theorem stmsOf_filter : ∀ is : List Itm, stmsOf (is.filter fun i => !isEn i) = stmsOf is
  | [] => rfl
  | .en _ :: r => stmsOf_filter r
  | .st s :: r => congrArg (s :: ·) (stmsOf_filter r)
theorem entsOf_len : ∀ is : List Itm, (is.filter isEn).length = (entsOf is).length
  | [] => rfl
  | .en _ :: r => congrArg (· + 1) (entsOf_len r)
  | .st _ :: r => entsOf_len r
theorem stmsOf_len : ∀ is : List Itm, (is.filter fun i => !isEn i).length = (stmsOf is).length
  | [] => rfl
  | .en _ :: r => stmsOf_len r
  | .st _ :: r => congrArg (· + 1) (stmsOf_len r)
/-! ### the object -/
def lgF (d : Addr) (n : Nat) : List (Str × V) := [("_items", V.ref d), ("_next_number", V.int (n : Int))]
theorem nin : ¬ (("_items" : Str) = "_next_number") := by decide +kernel
theorem lgF_items (d : Addr) (n : Nat) : (lgF d n).lookup ("_items" : Str) = some (.ref d) := by
  rw [show lgF d n = putF "_items" (.ref d) (lgF d n) from by
    show _ = (if ("_items" : Str) = "_items" then _ else _)
    rw [if_pos rfl]; rfl]
  rw [lookup_putF, if_pos rfl]
theorem lgF_next (d : Addr) (n : Nat) : (lgF d n).lookup ("_next_number" : Str) = some (.int (n : Int)) := by
  rw [show lgF d n = putF "_next_number" (.int (n : Int)) (lgF d n) from by
    show _ = (if ("_items" : Str) = "_next_number" then _ else _)
    rw [if_neg nin]
    show _ = _ :: (if ("_next_number" : Str) = "_next_number" then _ else _)
    rw [if_pos rfl]; rfl]
  rw [lookup_putF, if_pos rfl]
theorem lgF_no (d : Addr) (n : Nat) {m : Str} (h1 : ¬ m = "_items") (h2 : ¬ m = "_next_number") : (lgF d n).lookup m = none := by
  rw [show lgF d n = putF "_next_number" (.int (n : Int)) (putF "_items" (.ref d) []) from by
    show _ = (if ("_items" : Str) = "_next_number" then _ else _)
    rw [if_neg nin]; rfl]
  rw [lookup_putF, if_neg h2, lookup_putF, if_neg h1]
  rfl
theorem lgF_new (d : Addr) : putF "_next_number" (.int 0) (putF "_items" (.ref d) []) = lgF d 0 := by
  show (if ("_items" : Str) = "_next_number" then _ else _) = _
  rw [if_neg nin]; rfl
theorem lgF_put (d : Addr) (n m : Nat) : putF "_next_number" (.int (m : Int)) (lgF d n) = lgF d m := by
  show (if ("_items" : Str) = "_next_number" then _ else (_ :: (if ("_next_number" : Str) = "_next_number" then _ else _))) = _
  rw [if_neg nin, if_pos rfl]; rfl
structure LgAt (K : PySem.W.Frag) (H : Hp) (p d : Addr) (its : List (Nat × Itm)) (nx : Nat) : Prop where
  ob : ∃ C dx, PySem.W.nsIn K mainGlobals "Ledger" = some (some (.ref C)) ∧ H p = some (.ins C dx (lgF d nx))
  dc : ∃ kvs, H d = some (.dK kvs) ∧ KvsAt H kvs its
  nd : (its.map (·.1)).Nodup
  lt : ∀ x ∈ its, x.1 < nx
  len : its.length ≤ 100
structure LgC (K : PySem.W.Frag) (mg : Str → Option Value) (C : Addr) : Prop where
  at_ : PySem.W.nsIn K mainGlobals "Ledger" = some (some (.ref C))
  cl : Cls K C
  nI : NoAttr K C "_items"
  nN : NoAttr K C "_next_number"
  mgC : mg "Ledger" = some (.ref C)
  cE : ∃ u, Con K C "MOST_ENTRIES" (.int 6) u
  cS : ∃ u, Con K C "MOST_STATEMENTS" (.int 24) u
/-- all but the ledger stays -/
def Lk (p d : Addr) (H J : Hp) : Prop := ∀ a o, H a = some o → a ≠ p → a ≠ d → J a = some o
theorem Lk.of {p d : Addr} (s : Same H J) : Lk p d H J := fun a o e _ _ => s a o e
theorem Lk.trans {p d : Addr} {M : Hp} (h : Lk p d H J) (k : Lk p d J M) : Lk p d H M := fun a o e n1 n2 => k a o (h a o e n1 n2) n1 n2
section
variable {K : PySem.W.Frag} {p d : Addr} {nx : Nat} {its : List (Nat × Itm)}
theorem LgAt.tup (L : LgAt K H p d its nx) (k : Lk p d H J) {a : Addr} {xs : List V} (e : H a = some (.tup xs)) : J a = some (.tup xs) := by
  obtain ⟨C, dx, _, h⟩ := L.ob
  obtain ⟨kvs, g, _⟩ := L.dc
  exact k a _ e (fun z => by subst z; cases e.symm.trans h) (fun z => by subst z; cases e.symm.trans g)
theorem LgAt.lst (L : LgAt K H p d its nx) (k : Lk p d H J) {a : Addr} {xs : List V} (e : H a = some (.lst xs)) : J a = some (.lst xs) := by
  obtain ⟨C, dx, _, h⟩ := L.ob
  obtain ⟨kvs, g, _⟩ := L.dc
  exact k a _ e (fun z => by subst z; cases e.symm.trans h) (fun z => by subst z; cases e.symm.trans g)
theorem LgAt.same (s : Same H J) (L : LgAt K H p d its nx) : LgAt K J p d its nx :=
  ⟨let ⟨C, dx, c, h⟩ := L.ob; ⟨C, dx, c, s _ _ h⟩, let ⟨kvs, h, t⟩ := L.dc; ⟨kvs, s _ _ h, t.mono fun p xs e => s _ _ e⟩, L.nd, L.lt, L.len⟩
theorem LgAt.ne (L : LgAt K H p d its nx) : p ≠ d := by
  obtain ⟨C, dx, _, h⟩ := L.ob
  obtain ⟨kvs, g, _⟩ := L.dc
  intro z
  subst z
  cases h.symm.trans g
/-- a list is written: the ledger stays -/
theorem LgAt.kl {c : Addr} {zs : List V} (k : Kp c H J) (hc : H c = some (.lst zs)) (L : LgAt K H p d its nx) : LgAt K J p d its nx := by
  obtain ⟨C, dx, cc, h⟩ := L.ob
  obtain ⟨kvs, g, t⟩ := L.dc
  refine ⟨⟨C, dx, cc, k _ _ (fun z => by subst z; cases h.symm.trans hc) h⟩, ⟨kvs, k _ _ (fun z => by subst z; cases g.symm.trans hc) g, t.mono fun p xs e => k _ _ (fun z => by subst z; cases e.symm.trans hc) e⟩, L.nd, L.lt, L.len⟩
end
end
/-! ### calls -/
structure CalM (P : Program) (w : World) (K : PySem.W.Frag) (mg : Str → Option Value) (base : Heap) (C : Addr) (m : Str) (k : Nat) (f : Addr) (fd : FuncData) (ps : List Str) (sp : Sp) : Prop where
  g : FnG P w K mg base CX0 k f fd ps sp
  b : Binds K fd ps []
  m : Meth K C m f
structure MkL (P : Program) (w : World) (K : PySem.W.Frag) (mg : Str → Option Value) (base : Heap) (C f : Addr) (fd : FuncData) (sp : Sp) : Prop where
  m : Mk K C f
  g : FnOk P w K mg base CX0 1 f fd ["self"] sp
  b : Binds K fd ["self"] []
section
variable {X : Cx} {k : Nat} {f C : Addr} {fd : FuncData} {ps : List Str} {sp : Sp} {m : Str} {o e : Expr} {es : List Expr} {ta : TE} {t : TA} {apos pos : PySem.Pos} {pl : Sem Bool}
theorem pm_c (c : Cls X.K C) (M : CalM X.prog X.w X.K X.mg X.base C m k f fd ps sp) (hg : X.A.guards = some []) (hr : Room k X.A) (he : PE X o ta) (ha : PA X (e :: es) t)
    (hst : starEach (e :: es) X.env = (false, eval e X.env) :: starEach es X.env := by rfl) (hpl : (backTo pos (starEach es X.env)).any (·.1) = false := by rfl)
    (ht : eval (.Call (.Attribute o m apos) (e :: es) [] pos) X.env = (do
      let ov ← eval o X.env
      standAt apos.atName
      let (f, first) ← holding [ov] (getMethod ov m pl)
      callWith pos f first (backTo pos (starEach (e :: es) X.env)) (backToKw pos (keywordEach [] X.env))) := by rfl) :
    PE X (.Call (.Attribute o m apos) (e :: es) [] pos) (tMeth C m sp [] E0 ta t) := pm_g he c M.m M.g hg hr M.b .nil pass0 ha hst hpl ht
theorem pm_c0 (c : Cls X.K C) (M : CalM X.prog X.w X.K X.mg X.base C m k f fd ps sp) (hg : X.A.guards = some []) (hr : Room k X.A) (he : PE X o ta)
    (ht : eval (.Call (.Attribute o m apos) [] [] pos) X.env = (do
      let ov ← eval o X.env
      standAt apos.atName
      let (f, first) ← holding [ov] (getMethod ov m pl)
      callWith pos f first (backTo pos (starEach [] X.env)) (backToKw pos (keywordEach [] X.env))) := by rfl) :
    PE X (.Call (.Attribute o m apos) [] [] pos) (tMeth C m sp [] E0 ta tNil) := pm_g0 he c M.m M.g hg hr M.b .nil pass0 ht
end
/-! ### readings -/
section
variable {K : PySem.W.Frag} {H : Hp} {σ : L2.St} {Q : VK} {ta tb tc : TE} {t : TA} {p d C : Addr} {its : List (Nat × Itm)} {nx : Nat} {mg : Str → Option Value} {E : Ends}
theorem LgAt.obC (L : LgAt K H p d its nx) (T : LgC K mg C) : ∃ dx, H p = some (.ins C dx (lgF d nx)) := by
  obtain ⟨C', dx, c, h⟩ := L.ob
  obtain rfl : C' = C := by
    have := c.symm.trans T.at_
    simp at this
    exact this
  exact ⟨dx, h⟩
theorem rd_items (T : LgC K mg C) (L : LgAt K H p d its nx) (e : ∀ R : VK, R (.ref p) H → ta σ H R) (q : Q (.ref d) H) : tFld K ta "_items" σ H Q := by
  obtain ⟨dx, h⟩ := L.obC T
  exact e _ ⟨p, C, dx, _, _, rfl, h, T.cl, T.nI, lgF_items d nx, q⟩
theorem rd_nextN (T : LgC K mg C) (L : LgAt K H p d its nx) (e : ∀ R : VK, R (.ref p) H → ta σ H R) (q : Q (.int (nx : Int)) H) : tFld K ta "_next_number" σ H Q := by
  obtain ⟨dx, h⟩ := L.obC T
  exact e _ ⟨p, C, dx, _, _, rfl, h, T.cl, T.nN, lgF_next d nx, q⟩
theorem rd_mostE (T : LgC K mg C) (L : LgAt K H p d its nx) (e : ∀ R : VK, R (.ref p) H → ta σ H R) (q : Q (.int 6) H) : tCon K ta "MOST_ENTRIES" σ H Q := by
  obtain ⟨dx, h⟩ := L.obC T
  obtain ⟨u, k⟩ := T.cE
  exact e _ ⟨p, C, dx, _, _, u, rfl, h, T.cl, k, lgF_no d nx (by decide +kernel) (by decide +kernel), q⟩
theorem rd_mostS (T : LgC K mg C) (L : LgAt K H p d its nx) (e : ∀ R : VK, R (.ref p) H → ta σ H R) (q : Q (.int 24) H) : tCon K ta "MOST_STATEMENTS" σ H Q := by
  obtain ⟨dx, h⟩ := L.obC T
  obtain ⟨u, k⟩ := T.cS
  exact e _ ⟨p, C, dx, _, _, u, rfl, h, T.cl, k, lgF_no d nx (by decide +kernel) (by decide +kernel), q⟩
/-- a method of a ledger -/
theorem rd_meth {m : Str} {sp : Sp} (T : LgC K mg C) (L : LgAt K H p d its nx) (e : ∀ R : VK, R (.ref p) H → ta σ H R) (q : t σ H fun vs J => sp (.ref p :: vs) J Q E0) (h1 : ¬ m = "_items" := by decide +kernel) (h2 : ¬ m = "_next_number" := by decide +kernel) : tMeth C m sp [] E0 ta t σ H Q := by
  obtain ⟨dx, h⟩ := L.obC T
  refine e _ ⟨p, dx, _, rfl, h, lgF_no d nx h1 h2, ?_⟩
  simpa using q
end

/-! ### the dict -/
section
variable {H J : Hp}
theorem ItmAt.kd {v : V} {i : Itm} (h : ItmAt H v i) : ∃ p a b c, v = .ref p ∧ H p = some (.tup [.str (if isEn i then "entry" else "statement"), a, b, c]) := h.tup
def kdV (H : Hp) (kd : Str) : V → Bool
  | .ref p => match H p with
    | some (.tup (.str s :: _)) => decide (s = kd)
    | _ => false
  | _ => false
theorem kdV_at {v : V} {i : Itm} (h : ItmAt H v i) (kd : Str) : kdV H kd v = decide ((if isEn i then ("entry" : Str) else "statement") = kd) := by
  obtain ⟨p, a, b, c, rfl, e⟩ := h.tup
  simp only [kdV, e]
theorem ent_ne_stm : ¬ (("entry" : Str) = "statement") := by decide +kernel
theorem kdV_en {v : V} {i : Itm} (h : ItmAt H v i) : kdV H "entry" v = isEn i := by
  rw [kdV_at h]
  cases i with
  | en e => exact decide_eq_true rfl
  | st s => exact decide_eq_false fun z => ent_ne_stm z.symm
theorem kdV_st {v : V} {i : Itm} (h : ItmAt H v i) : kdV H "statement" v = !isEn i := by
  rw [kdV_at h]
  cases i with
  | en e => exact decide_eq_false ent_ne_stm
  | st s => exact decide_eq_true rfl
theorem KvsAt.filt {q : V → Bool} {r : Itm → Bool} : ∀ {kvs : List (Key × V)} {its : List (Nat × Itm)}, KvsAt H kvs its → (∀ v i, ItmAt H v i → q v = r i) → ItsAt H ((kvs.map (·.2)).filter q) ((its.map (·.2)).filter r)
  | _, _, .nil, _ => .nil
  | _, _, .cons (v := v) (i := i) h t, e => by
    rw [List.map_cons, List.map_cons, List.filter_cons, List.filter_cons, e v i h]
    split
    · exact .cons h (t.filt e)
    · exact t.filt e
theorem KvsAt.fresh : ∀ {kvs : List (Key × V)} {its : List (Nat × Itm)} {n : Nat}, KvsAt H kvs its → (∀ x ∈ its, x.1 ≠ n) → valV kvs (Sum.inl (n : Int) : Key) = none
  | _, _, _, .nil, _ => rfl
  | _, _, n, .cons (n := m) (v := v) (kvs := kvs) h t, e => by
    have ih := t.fresh fun x hx => e x (List.mem_cons_of_mem _ hx)
    unfold valV at ih ⊢
    rw [List.find?_cons_of_neg]
    · exact ih
    · have := e _ (List.mem_cons_self ..)
      simp
      omega
theorem KvsAt.snoc {n : Nat} {v : V} {i : Itm} (h : ItmAt H v i) : ∀ {kvs : List (Key × V)} {its : List (Nat × Itm)}, KvsAt H kvs its → KvsAt H (kvs ++ [(Sum.inl (n : Int), v)]) (its ++ [(n, i)])
  | _, _, .nil => .cons h .nil
  | _, _, .cons g t => .cons g (t.snoc h)
theorem KvsAt.val : ∀ {kvs : List (Key × V)} {its : List (Nat × Itm)} {n : Nat} {i : Itm}, KvsAt H kvs its → (its.map (·.1)).Nodup → (n, i) ∈ its → ∃ v, valV kvs (Sum.inl (n : Int) : Key) = some v ∧ ItmAt H v i
  | _, _, _, _, .nil, _, m => by cases m
  | _, _, n, i, .cons (n := k) (v := v) (kvs := kvs) h t, nd, m => by
    rw [List.map_cons, List.nodup_cons] at nd
    rcases List.mem_cons.mp m with e | m
    · obtain ⟨rfl, rfl⟩ := Prod.mk.inj e
      refine ⟨v, ?_, h⟩
      unfold valV
      rw [List.find?_cons_of_pos (by simp)]
      rfl
    · obtain ⟨u, e, g⟩ := t.val nd.2 m
      refine ⟨u, ?_, g⟩
      unfold valV at e ⊢
      rw [List.find?_cons_of_neg]
      · exact e
      · have : n ≠ k := fun z => nd.1 (z ▸ List.mem_map_of_mem (f := (·.1)) m)
        simp
        omega
theorem KvsAt.drop (n : Nat) : ∀ {kvs : List (Key × V)} {its : List (Nat × Itm)}, KvsAt H kvs its → KvsAt H (dropK kvs (Sum.inl (n : Int) : Key)) (its.filter fun x => decide (x.1 ≠ n))
  | _, _, .nil => .nil
  | _, _, .cons (n := m) (v := v) (i := i) (kvs := kvs) (its := its) h t => by
    have ih := KvsAt.drop n t
    unfold dropK at ih ⊢
    rw [List.filter_cons, List.filter_cons]
    by_cases c : m = n
    · subst c
      rw [if_neg (by simp), if_neg (by simp)]
      exact ih
    · rw [if_pos (by simp; omega), if_pos (by simp; exact c)]
      exact .cons h ih
/-- [x for x in d.values() if q(x)] -/
theorem lc_filtD {σ : L2.St} {D d : Addr} {od : Obj} {kvs : List (Key × V)} (q : V → Bool) {tt : TT} {te : TE} {i0 : Nat} {Qd : Hp → Prop} (hT : H d = some (.frz od (.dK kvs))) (hl : kvs.length ≤ 1000) (hD : H D = none)
    (he : ∀ kv, kv ∈ kvs → ∀ (l : List V) (R : Bool → Hp → Prop), R (q kv.2) (upd H D (.lst l)) → tt ((σ.set i0 none).set i0 (some kv.2)) (upd H D (.lst l)) R)
    (hf : ∀ kv, kv ∈ kvs → ∀ (l : List V) (R : VK), R kv.2 (upd H D (.lst l)) → te ((σ.set i0 none).set i0 (some kv.2)) (upd H D (.lst l)) R)
    (hd : Qd (upd H D (.lst ((kvs.map (·.2)).filter q)))) : Lc (Itd d od kvs) (gName i0) tt te [i0] σ Qd H D := by
  have ne : d ≠ D := ne_of_none hT hD
  refine ⟨fun i m J => m = kvs.length - i ∧ i ≤ kvs.length ∧ J = upd H D (.lst (((kvs.take i).map (·.2)).filter q)), ⟨kvs.length, by simp, Nat.zero_le _, rfl⟩, ?_⟩
  rintro i m J ⟨rfl, hi, rfl⟩
  have hd2 : ∀ l, (upd H D (.lst l)) d = some (.frz od (.dK kvs)) := fun l => by rw [upd_ne ne]; exact hT
  by_cases lt : i < kvs.length
  · refine .inr ⟨⟨hd2 _, lt⟩, fun J => J = upd H D (.lst (((kvs.take (i + 1)).map (·.2)).filter q)), fun H' e => ⟨kvs.length - (i + 1), by omega, rfl, lt, e⟩, ?_⟩
    rintro x J' ⟨rfl, k, hx⟩
    have hm := List.mem_of_getElem? hx
    have et : ((kvs.take (i + 1)).map (·.2)).filter q = ((kvs.take i).map (·.2)).filter q ++ (if q x = true then [x] else []) := by
      rw [List.take_add_one, hx]
      show (List.map (·.2) (kvs.take i ++ [(k, x)])).filter q = _
      rw [List.map_append, List.filter_append]
      by_cases c : q x = true <;> simp [c]
    refine ⟨?_, ?_⟩
    · show ((σ.set i0 none).set i0 (some x)).set i0 none = σ.set i0 none
      rw [List.set_set, List.set_set]
    · refine he (k, x) hm _ _ ?_
      by_cases c : q x = true
      · show if q x = true then _ else _
        rw [if_pos c]
        refine hf (k, x) hm _ _ ⟨_, upd_same, ?_, ?_⟩
        · have := List.length_filter_le q ((kvs.take i).map (·.2))
          rw [List.length_map, List.length_take] at this
          exact small1000 (by omega)
        · rw [upd_upd, et, if_pos c]
      · show if q x = true then _ else _
        rw [if_neg c]
        rw [et, if_neg c, List.append_nil]
  · have e : i = kvs.length := by omega
    subst e
    refine .inl ⟨⟨hd2 _, Nat.le_refl _⟩, ?_⟩
    rw [List.take_length]
    exact hd
end
/-! ### data -/
def stmD (s : Stm) : PyData := .tuple [.str "statement", .int (s.first : Int), .int (s.many : Int), .int s.num]
def itmD : Itm → PyData
  | .en e => entD e
  | .st s => stmD s
def numD (x : Nat × Itm) : PyData := .tuple [.int (x.1 : Int), itmD x.2]
section
variable {K : PySem.W.Frag} {H : Hp} {Q : VK}
theorem ItmAt.dp {v : V} : ∀ {i : Itm}, ItmAt H v i → Dp K H v (itmD i)
  | .en e, ⟨h, _⟩ => by
    have := EntsAt.dp (K := K) (EntsAt.cons h .nil)
    cases this with
    | cons h _ => exact h
  | .st s, ⟨⟨p, e, h⟩, _⟩ => by
    subst e
    exact Dp.tup (SqT.of h) (.cons (.str _) (.cons (.int _) (.cons (.int _) (.cons (.int _) .nil))))
theorem ItsAt.dp : ∀ {vs : List V} {is : List Itm}, ItsAt H vs is → DpAll K H vs (is.map itmD)
  | _, _, .nil => .nil
  | _, _, .cons h t => .cons h.dp t.dp
theorem ok_entry : PyData.strOk "entry" = true := by decide +kernel
theorem ok_statement : PyData.strOk "statement" = true := by decide +kernel
theorem itm_lay (i : Itm) : (itmD i).depth ≤ 4 ∧ (itmD i).canLay0 = true := by
  cases i with
  | en e =>
    obtain ⟨z, c⟩ := RtsAt.lay e.am
    refine ⟨?_, ?_⟩
    · simp only [itmD, entD, PyData.depth, PyData.depthAll]
      omega
    · simp [itmD, entD, PyData.canLay0, PyData.canLayAll0, ok_entry, c]
  | st s => exact ⟨by simp [itmD, stmD, PyData.depth, PyData.depthAll], by simp [itmD, stmD, PyData.canLay0, PyData.canLayAll0, ok_statement]⟩
theorem its_lay : ∀ is : List Itm, PyData.depthAll (is.map itmD) ≤ 4 ∧ PyData.canLayAll0 (is.map itmD) = true
  | [] => ⟨by simp [PyData.depthAll], rfl⟩
  | i :: is => by
    obtain ⟨a, b⟩ := its_lay is
    obtain ⟨c, d⟩ := itm_lay i
    refine ⟨?_, ?_⟩
    · simp only [List.map_cons, PyData.depthAll]
      omega
    · simp [PyData.canLayAll0, b, d]
/-- a list of items and [] -/
theorem rd_neNilI {a b : Addr} {rs : List V} {is : List Itm} (h : SqL K H a rs) (s : ItsAt H rs is) (k : H b = some (.lst [])) (q : Q (.bl (!decide (rs = []))) H) : rNeD K (.ref a) (.ref b) H Q := by
  obtain ⟨z, c⟩ := its_lay is
  have z2 : PyData.depthAll (is.map itmD) + 1 ≤ 64 := by omega
  refine ⟨.list (is.map itmD), .list [], Dp.lst h s.dp, Dp.lst (SqL.of k) .nil, by simp [SeqAt.shaped, PyData.canLay0, PyData.depth, c, z2], by simp [SeqAt.shaped, PyData.canLay0, PyData.canLayAll0, PyData.depth, PyData.depthAll], ?_⟩
  have e2 : PyData.eqv (.list (is.map itmD)) (.list []) = decide (rs = []) := by
    cases s with
    | nil => simp [PyData.eqv, PyData.eqvAll]
    | cons h t => simp [PyData.eqv, PyData.eqvAll]
  rw [e2]
  exact q
theorem KvsAt.dpN {J : Hp} : ∀ {kvs : List (Key × V)} {its : List (Nat × Itm)} {ts : List Addr}, KvsAt J kvs its → Paired (fun (t : Addr) (q : Key × V) => J t = some (.tup [kV q.1, q.2])) ts kvs → DpAll K J (ts.map V.ref) (its.map numD)
  | _, _, _, .nil, .nil => .nil
  | _, _, _, .cons h t, .cons e r => .cons (.tup (SqT.of e) (.cons (.int _) (.cons h.dp .nil))) (t.dpN r)
theorem rd_eqStr {i j : Str} (q : Q (.bl (decide (i = j))) H) : rEq (.str i) (.str j) H Q := ⟨rfl, by
  rw [show decide (V.str i = V.str j) = decide (i = j) from decide_eq_decide.mpr ⟨fun h => by injection h, fun h => by rw [h]⟩]
  exact q⟩
/-! ### the sums do not ask for an order -/
end
end Ob
/-! Tuples put together. -/
namespace Ob
open PySem PySem.Spec PyProof.Rows L2
end Ob
/-! Defs that may raise, over FnG: a def's end, calls of one, and the own classes' first line Base.__init__(self, ..). -/
namespace Ob
open PySem PySem.Spec PyProof.Rows L2
section
variable {P : Program} {w : World} {K : PySem.W.Frag} {mg : Str → Option Value} {base : Heap} {CX : CXT}
/-- as Fun_okG, for a def that may raise -/
theorem Fun_okGX {x qual : Str} {st : Stmt} {f : Addr} {fd : FuncData} {N ps : List Str} {k : Nat} {sp : Sp} (F : Fun K x qual st f fd) (S : FnScope N ps (defScope st)) (ar : ∀ vs H Q E, sp vs H Q E → vs.length = ps.length)
    (body : ∀ (c : Value) (A : Around) (outer : List Env) (s : Shared) (H : Hp) (vs : List V) (Q : VK) (E : XK), A.guards = some [] → Room k (A.deeper (envOfC qual (defScope st) s.heap.objs.size f c)) → sp vs H Q E →
      ∃ t, PSs (cxOf CX P w K mg base N qual (defScope st) f c A outer s H E) (defBody st) t ∧ t { nx := fun _ J => Q .non J, rt := Q } (start N vs) H) : FnG P w K mg base CX (k + 1) f fd ps sp := by
  obtain ⟨oc, od, kV, doc, pm, an, c, ct, osl, rfl, look, code⟩ := F.ex
  refine ⟨ar, fun A outer s H args us vs Q E hg hr e0 bnd rv hs => ?_⟩
  have count := ar _ _ _ _ hs
  have kept : ∀ b o, base.get? b = some o → s.heap.get? b = some o := fun b o e => (e0.bs b o e).1
  have inK : K.In s.heap := e0.mod.kin.keeps kept
  refine codeAny_call_function hr.depth (inK _ _ look) rfl S.co S.gen rfl (PySem.W.codeRec_of inK code) (bnd _ _ _ _ ?_)
  refine wpAny_newFunctionEnv_cells S.kind (fun y hy => (S.par y.1 (List.of_mem_zip (show (y.1, y.2) ∈ ps.zip us from hy)).1).imp id fun q => ⟨q, PySem.W.cellsFrom_some _ _ _ (.inl q)⟩) fun env he s1 x => ?_
  subst he
  obtain ⟨t, ht, hq⟩ := body c A outer s H vs Q E hg (hr.deeper _) hs
  have I : Inv (cxOf CX P w K mg base N qual (defScope st) f c A outer s H E) [] (start N vs) H s1 := inv_start S hr.hd e0 count rv x
  refine ⟨(e0.mod.nolimit.keeps kept).keeps x.toInCall.keep, codeAny_func (wpAny_mono (ht.run [] s1 (start N vs) H _ I hq) (fun fl s' z => ?_) fun e s' z => z)⟩
  cases fl with
  | next => exact (let ⟨σ', J, I', q⟩ := z; ⟨V.non, J, I'.os, I'.bare, I'.base, I'.hok, rfl, q⟩)
  | ret u => exact (let ⟨v, σ', J, I', r', q⟩ := z; ⟨v, J, I'.os, I'.bare, I'.base, I'.hok, r', q⟩)
  | brk => exact (let ⟨_, _, _, q⟩ := z; False.elim q)
  | cont => exact (let ⟨_, _, _, q⟩ := z; False.elim q)
end
section
variable {X : Cx} {CX : CXT} {k : Nat} {f C : Addr} {fd : FuncData} {ps : List Str} {sp : Sp} {ds : List Value} {dvs : List V} {E : L2.St → XK} {m x : Str} {o e : Expr} {es : List Expr} {ta : TE} {t : TA} {apos p pos : PySem.Pos} {pl : Sem Bool}
theorem run_gS {pins : List (Addr × Obj)} {σ : L2.St} {H : Hp} {s : Shared} {Q : VK} {us : List Value} {vs : List V} (F : FnG X.prog X.w X.K X.mg X.base CX k f fd ps sp) (hg : X.A.guards = some []) (hr : Room k X.A) (hb : Binds X.K fd ps ds) (hd : Vals dvs ds) (hx : PassesAt CX X σ (E σ))
    (I : Inv X pins σ H s) (rv : Vals vs us) (hs : sp (vs ++ dvs) H Q (E σ)) : wpAny (model X.prog X.w) X.A (call (.ref f) us) (EP X pins σ Q) X.xe s := by
  have all := rv.append hd
  refine wpAny_call (codeAny_mono (F.go X.A X.stack s H ⟨us, []⟩ (us ++ ds) (vs ++ dvs) Q (E σ) hg hr I.env0 (hb s us I.kIn (all.length ▸ F.ar _ _ _ _ hs)) all hs) fun r s' z => ?_)
  match r, z with
  | .error e, z => exact hx pins H s e s' I z
  | .ok (.ret u), z => exact I.after z
/-- f(e, ..), f may raise -/
theorem pe_gS (F : FnG X.prog X.w X.K X.mg X.base CX k f fd ps sp) (hg : X.A.guards = some []) (hr : Room k X.A) (gl : Gl X x) (hm : X.mg x = some (.ref f)) (hk : PySem.W.keepIn X.K (.ref f) = true) (hb : Binds X.K fd ps ds) (hd : Vals dvs ds) (hx : ∀ σ, PassesAt CX X σ (E σ))
    (ha : PA X (e :: es) t) (hdb : (x == ("__debug__" : Str)) = false := by decide) (he : starEach (e :: es) X.env = (false, eval e X.env) :: starEach es X.env := by rfl) (hpl : (backTo pos (starEach es X.env)).any (·.1) = false := by rfl) :
    PE X (.Call (.Name x p) (e :: es) [] pos) (tCallSD sp dvs E t) :=
  ⟨fun pins s σ H Q I h => wpAny_Call_Name_kw (ld_glob I gl hm (PySem.W.callWith_K (h₀ := X.base) I.ok.mod.kin hk (thn (ha.run pos pins s σ H _ I h) fun us s1 z => let ⟨vs, J, I1, rv, q⟩ := z; ⟨I1.kIn, run_gS F hg hr hb hd (hx σ) I1 rv q⟩) he hpl) hdb)⟩
end
section
variable {X : Cx} {e : Expr} {es : List Expr} {ta : TA} {p1 p2 pos : PySem.Pos} {x : Str} {D : Addr}
end
/-! ### what a raising def is to its callers; a class of errors with its own __init__ -/
structure CalX (P : Program) (w : World) (K : PySem.W.Frag) (mg : Str → Option Value) (base : Heap) (x : Str) (k : Nat) (f : Addr) (fd : FuncData) (ps : List Str) (sp : Sp) : Prop where
  g : FnG P w K mg base (L2.CX P w) k f fd ps sp
  b : Binds K fd ps []
  kp : PySem.W.keepIn K (.ref f) = true
  m : mg x = some (.ref f)
section
variable {X : Cx} {k : Nat} {f C fI : Addr} {fd : FuncData} {ps : List Str} {sp : Sp} {m x fl : Str} {o e : Expr} {es : List Expr} {ta : TE} {t : TA} {W : WX} {p apos pos pos2 : PySem.Pos} {pl : Sem Bool}
theorem pe_cx (tk : Takes X W) (C : CalX X.prog X.w X.K X.mg X.base x k f fd ps sp) (hg : X.A.guards = some []) (hr : Room k X.A) (gl : Gl X x)
    (ha : PA X (e :: es) t) (hdb : (x == ("__debug__" : Str)) = false := by decide) (he : starEach (e :: es) X.env = (false, eval e X.env) :: starEach es X.env := by rfl) (hpl : (backTo pos (starEach es X.env)).any (·.1) = false := by rfl) :
    PE X (.Call (.Name x p) (e :: es) [] pos) (tCallSD sp [] (WE W) t) := pe_gS C.g hg hr gl C.m C.kp C.b .nil (fun σ => passAt tk σ) ha hdb he hpl
end
section
variable {K : PySem.W.Frag} {σ : L2.St} {H : Hp} {f : Str}
end
/-- readings: the calls are these by definition -/
theorem rd_callX {sp : Sp} {W : WX} {t : TA} {σ : L2.St} {H : Hp} {Q : VK} (h : t σ H fun vs H1 => sp (vs ++ []) H1 Q fun cls d H' => W cls d σ H') : tCallSD sp [] (WE W) t σ H Q := h
/-! ### x not in a tuple of data -/
/-! ### the heap behind C(e) -/
/-! ### an own error in a suite: isinstance of it; len of an instance; a classmethod that raises; cls() -/
/-- what the written part says of an own class of errors -/
structure ExcI (K : PySem.W.Frag) (C : Addr) : Prop where
  k0 : (PySem.W.clsIn K C).isSome = true
  k4 : PySem.W.findIn K (.ref C) "__getattribute__" = some (some (.builtin "BaseException.__getattribute__"))
  k5 : PySem.W.findIn K (.ref C) "__getattr__" = some none
  k6 : PySem.W.subIn K (.ref C) (.type "BaseException") = some true
  k7 : PySem.W.findIn K (.ref C) "__class__" = some (some (.builtin "object.__class__"))
  k8 : PySem.W.specialIn K (.builtin "object.__class__") "__get__" = some (some (.builtin "getset_descriptor.__get__"))
  k9 : PySem.W.takesIn K (.builtin "object.__class__") = some true
  k10 : PySem.W.mroIn K C (.type "object") = some true
  hd : PySem.W.hasDictIn K C = true
def DictX (d : Option Addr) (H : Hp) : Prop := d = none ∨ ∃ dd fs, d = some dd ∧ H dd = some (.xd fs)
/-- isinstance(e, c) and isinstance(e, (c1, c2, ..)) of the caught error -/
def rIsX (K : PySem.W.Frag) (a : Addr) (cls : Value) (d : Option Addr) : List V → Hp → VK → Prop := fun xs H Q => ∃ (C : Addr) (b : Bool), cls = .ref C ∧ ExcI K C ∧ DictX d H ∧
  ((∃ c u, xs = [.ref a, c] ∧ ClsV c u ∧ PySem.W.kitOne K (.ref C) u = some b) ∨ (∃ (tp : Addr) (cs : List V) (us : List Value), xs = [.ref a, .ref tp] ∧ H tp = some (.tup cs) ∧ Paired ClsV cs us ∧ PySem.W.kitAny K (.ref C) us = some b)) ∧ Q (.bl b) H
theorem call_isX {X : Cx} {a : Addr} {oe : Obj} {cls : Value} {d : Option Addr} {pn : List (Addr × Obj)} (hz : Zc cls d oe) (hf : ∃ vs, oe.data = .fields vs) : CallR (X.suite a ((a, oe) :: pn)) (.builtin "isinstance") (rIsX X.K a cls d) := by
  intro pins s σ H xs us Q I r h
  obtain ⟨C, b, rfl, T, hd, hx, q⟩ := h
  obtain ⟨ha, _⟩ := I.pin (a, oe) (List.mem_append_left _ List.mem_cons_self)
  obtain ⟨fvs, hdt⟩ := hf
  have hn : PySem.W.notCls oe = true := by unfold PySem.W.notCls; rw [hdt]
  obtain ⟨od, J⟩ : ∃ od, PySem.W.InstAt s.heap a oe C od := by
    rcases hd with rfl | ⟨dd, fs, rfl, hdd⟩
    · exact ⟨none, ha, hz.1, hn, by rw [hz.2]; trivial⟩
    · have ho : ObjOk X.prog X.w H s.heap dd (.xd fs) := I.hok dd _ hdd
      obtain ⟨mA, hns, hr⟩ := ho
      obtain ⟨od, ho, hl⟩ := lookIn_ns hns
      exact ⟨some od, ha, hz.1, hn, by rw [hz.2]; exact ho⟩
  have Z : PySem.W.KitX X.K (.ref a) (.ref C) (fun h => PySem.W.InstAt h a oe C od) := PySem.W.kitx_exc T.k0 T.k4 T.k5 T.k6 T.k7 T.k8 T.k9 T.k10
  rcases hx with ⟨c, u, rfl, k, e⟩ | ⟨tp, cs, ws, rfl, hT, k, e⟩
  · obtain ⟨u1, u2, rfl, r1, r2⟩ := vals2 r
    cases (show u1 = Value.ref a from r1)
    have e2 := k.eq r2
    subst e2
    exact PySem.W.kia_one Z I.kIn J e (fun z => nomatch z) fun tk => ⟨.bl b, H, I.tok tk, rfl, q⟩
  · obtain ⟨u1, u2, rfl, r1, r2⟩ := vals2 r
    cases (show u1 = Value.ref a from r1)
    cases (show u2 = Value.ref tp from r2)
    obtain ⟨_, its, rv, o, h1, h2, n, h3⟩ := (show ObjOk X.prog X.w H s.heap tp (.tup cs) from I.hok tp _ hT)
    have e3 := ClsV.all k rv
    subst e3
    obtain ⟨oc, od', dt, sl⟩ := o
    simp only at h2 h3
    subst h2 h3
    exact PySem.W.kia_tup Z I.kIn J h1 e (fun z => nomatch z) fun tk => ⟨.bl b, H, I.tok tk, rfl, q⟩
section
variable {X : Cx} {k : Nat} {f C : Addr} {fd : FuncData} {ps : List Str} {sp : Sp} {m x : Str} {o e : Expr} {es : List Expr} {ta : TE} {t : TA} {W : WX} {p1 apos pos : PySem.Pos} {pl : Sem Bool}
end
end Ob
/-! The best cut: where the sets of cuts begin, and the weights of wishes. -/
namespace Ob
open PySem PySem.Spec PyProof.Rows L2
/-- nothing is let out -/
theorem takes_no {X : Cx} : Takes X (fun _ _ _ _ => False) := fun u s' ⟨a, B, sI, pins, σ, H, cls, d, e, I, nb, up, sky, na, os, ag, w⟩ => w.elim
theorem SnsOf.to {g : Nat} : ∀ {ps : List (Nat × Nat)} {ss : List Sn}, SnsOf g ps ss → ∀ r ∈ ps, ∃ s ∈ ss, IsLow (r.1 : Int) (g : Int) s.x s.y
  | _, _, .nil, r, h => by cases h
  | _, _, .cons a b t, r, h => by
    rcases List.mem_cons.mp h with rfl | h
    · exact ⟨_, List.mem_cons_self, a⟩
    · obtain ⟨s, hs, k⟩ := t.to r h
      exact ⟨s, List.mem_cons_of_mem _ hs, k⟩
theorem SnsOf.fro {g : Nat} : ∀ {ps : List (Nat × Nat)} {ss : List Sn}, SnsOf g ps ss → ∀ s ∈ ss, ∃ r ∈ ps, IsLow (r.1 : Int) (g : Int) s.x s.y
  | _, _, .nil, r, h => by cases h
  | _, _, .cons a b t, r, h => by
    rcases List.mem_cons.mp h with rfl | h
    · exact ⟨_, List.mem_cons_self, a⟩
    · obtain ⟨s, hs, k⟩ := t.fro r h
      exact ⟨s, List.mem_cons_of_mem _ hs, k⟩
theorem Asc.lt2 : ∀ {ps : List (Nat × Nat)} {i : Nat}, Asc i ps → ∀ r ∈ ps, r.1 < r.2
  | _, _, .nil, r, h => by cases h
  | _, _, .cons a b t, r, h => by
    rcases List.mem_cons.mp h with rfl | h
    · exact b
    · exact t.lt2 r h
theorem Frm.low {G : Nat} {f : Nat → Bool} {ss : List Sn} (h : Frm G f ss) {v : Nat} (hv : v < G) (fv : f v = true) : ∃ s ∈ ss, ∃ a : Nat, IsLow (a : Int) (G : Int) s.x s.y ∧ a ≤ v ∧ ∀ w, a ≤ w → w ≤ v → f w = true := by
  obtain ⟨r, hr, h1, h2⟩ := (in_rruns f G v).mpr ⟨hv, fv⟩
  obtain ⟨s, hs, lo⟩ := h.2.to r hr
  exact ⟨s, hs, r.1, lo, h1, fun w a b => ((in_rruns f G w).mp ⟨r, hr, a, by omega⟩).2⟩
theorem Frm.start {G : Nat} {f : Nat → Bool} {ss : List Sn} (h : Frm G f ss) {s : Sn} (hs : s ∈ ss) : ∃ a : Nat, a < G ∧ f a = true ∧ IsLow (a : Int) (G : Int) s.x s.y := by
  obtain ⟨r, hr, lo⟩ := h.2.fro s hs
  have lt := (asc_rev (rruns_ok f G)).lt2 r hr
  obtain ⟨a, b⟩ := (in_rruns f G r.1).mp ⟨r, hr, Nat.le_refl _, lt⟩
  exact ⟨r.1, a, b, lo⟩
/-! ### wishes -/
structure Wsh where
  d : Nat
  n : Nat
  num : Int
  wt : Nat
def wF (G : Nat) (es : List Ent) (w : Wsh) (u : Nat) : Bool := tellF G es w.d w.n w.num u
/-! ### in the heap -/
def UAt (K : PySem.W.Frag) (J : Hp) (G : Nat) (v : V) (u : Nat) : Prop := ∃ c x y, v = .ref c ∧ SqT K J c [.int x, .int y] ∧ IsLow (u : Int) (G : Int) x y ∧ u < G
inductive UsAt (K : PySem.W.Frag) (J : Hp) (G : Nat) : List V → List Nat → Prop
  | nil : UsAt K J G [] []
  | cons {r : V} {rs : List V} {u : Nat} {us : List Nat} (h : UAt K J G r u) (t : UsAt K J G rs us) : UsAt K J G (r :: rs) (u :: us)
def TgAt (K : PySem.W.Frag) (D : Addr) (J : Hp) (G : Nat) (es : List Ent) (r : V) (w : Wsh) : Prop := ∃ t L rs ss, r = .ref t ∧ J t = some (.tup [.ref L, .int (w.wt : Int)]) ∧ L ≠ D ∧ J L = some (.lst rs) ∧ SnsAt K J rs ss ∧ Frm G (wF G es w) ss ∧ rs.length ≤ 2
inductive TgsAt (K : PySem.W.Frag) (D : Addr) (J : Hp) (G : Nat) (es : List Ent) : List V → List Wsh → Prop
  | nil : TgsAt K D J G es [] []
  | cons {r : V} {rs : List V} {w : Wsh} {ws : List Wsh} (h : TgAt K D J G es r w) (t : TgsAt K D J G es rs ws) : TgsAt K D J G es (r :: rs) (w :: ws)
def WhAt (J : Hp) (r : V) (w : Wsh) : Prop := ∃ t p, r = .ref t ∧ J t = some (.tup [.ref p, .int w.num, .int (w.wt : Int)]) ∧ J p = some (.tup [.int (w.d : Int), .int (w.n : Int)])
inductive WhsAt (J : Hp) : List V → List Wsh → Prop
  | nil : WhsAt J [] []
  | cons {r : V} {rs : List V} {w : Wsh} {ws : List Wsh} (h : WhAt J r w) (t : WhsAt J rs ws) : WhsAt J (r :: rs) (w :: ws)
def NumAt (J : Hp) (r : V) (x : Nat × Itm) : Prop := ∃ t v, r = .ref t ∧ J t = some (.tup [.int (x.1 : Int), v]) ∧ ItmAt J v x.2
inductive NumsAt (J : Hp) : List V → List (Nat × Itm) → Prop
  | nil : NumsAt J [] []
  | cons {r : V} {rs : List V} {x : Nat × Itm} {xs : List (Nat × Itm)} (h : NumAt J r x) (t : NumsAt J rs xs) : NumsAt J (r :: rs) (x :: xs)
section
variable {K : PySem.W.Frag} {D S : Addr} {J M : Hp} {G : Nat} {es : List Ent}
theorem UsAt.len : ∀ {rs : List V} {us : List Nat}, UsAt K J G rs us → rs.length = us.length
  | _, _, .nil => rfl
  | _, _, .cons _ t => congrArg (· + 1) t.len
theorem UsAt.get : ∀ {rs : List V} {us : List Nat}, UsAt K J G rs us → ∀ {i : Nat} {r : V}, rs[i]? = some r → ∃ u, us[i]? = some u ∧ UAt K J G r u
  | _, _, .nil, _, _, e => by cases e
  | _, _, .cons h _, 0, _, e => by
    obtain rfl := Option.some.inj e
    exact ⟨_, rfl, h⟩
  | _, _, .cons _ t, _ + 1, _, e => t.get e
theorem UsAt.app : ∀ {rs : List V} {us : List Nat} {zs : List V} {vs : List Nat}, UsAt K J G rs us → UsAt K J G zs vs → UsAt K J G (rs ++ zs) (us ++ vs)
  | _, _, _, _, .nil, k => k
  | _, _, _, _, .cons h t, k => .cons h (t.app k)
theorem UAt.mono (m : ∀ p xs, SqT K J p xs → SqT K M p xs) {r : V} {u : Nat} (h : UAt K J G r u) : UAt K M G r u :=
  let ⟨c, x, y, e, a, b⟩ := h; ⟨c, x, y, e, m _ _ a, b⟩
theorem UsAt.mono (m : ∀ p xs, SqT K J p xs → SqT K M p xs) : ∀ {rs : List V} {us : List Nat}, UsAt K J G rs us → UsAt K M G rs us
  | _, _, .nil => .nil
  | _, _, .cons h t => .cons (h.mono m) (t.mono m)
theorem UAt.lt {r : V} {u : Nat} (h : UAt K J G r u) : u < G := by
  obtain ⟨_, _, _, _, _, _, l⟩ := h
  exact l
theorem TgsAt.len : ∀ {rs : List V} {us : List Wsh}, TgsAt K D J G es rs us → rs.length = us.length
  | _, _, .nil => rfl
  | _, _, .cons _ t => congrArg (· + 1) t.len
theorem TgsAt.get : ∀ {rs : List V} {us : List Wsh}, TgsAt K D J G es rs us → ∀ {i : Nat} {r : V}, rs[i]? = some r → ∃ u, us[i]? = some u ∧ TgAt K D J G es r u
  | _, _, .nil, _, _, e => by cases e
  | _, _, .cons h _, 0, _, e => by
    obtain rfl := Option.some.inj e
    exact ⟨_, rfl, h⟩
  | _, _, .cons _ t, _ + 1, _, e => t.get e
theorem TgsAt.app : ∀ {rs : List V} {us : List Wsh} {zs : List V} {vs : List Wsh}, TgsAt K D J G es rs us → TgsAt K D J G es zs vs → TgsAt K D J G es (rs ++ zs) (us ++ vs)
  | _, _, _, _, .nil, k => k
  | _, _, _, _, .cons h t, k => .cons h (t.app k)
theorem TgAt.same (s : Same J M) {r : V} {w : Wsh} (h : TgAt K D J G es r w) : TgAt K D M G es r w :=
  let ⟨t, L, rs, ss, e, a, n, b, c, d⟩ := h; ⟨t, L, rs, ss, e, s _ _ a, n, s _ _ b, c.mono fun p xs h => sqt_same s h, d⟩
theorem TgAt.pu (s : Pu D J M) {r : V} {w : Wsh} (h : TgAt K D J G es r w) : TgAt K D M G es r w :=
  let ⟨t, L, rs, ss, e, a, n, b, c, d⟩ := h; ⟨t, L, rs, ss, e, s.tup a, n, s.1 _ _ n b, c.mono fun p xs h => sqt_pu s h, d⟩
theorem TgsAt.imp {T : Addr} (m : ∀ r w, TgAt K D J G es r w → TgAt K T M G es r w) : ∀ {rs : List V} {us : List Wsh}, TgsAt K D J G es rs us → TgsAt K T M G es rs us
  | _, _, .nil => .nil
  | _, _, .cons h t => .cons (m _ _ h) (t.imp m)
theorem WhsAt.len : ∀ {rs : List V} {us : List Wsh}, WhsAt J rs us → rs.length = us.length
  | _, _, .nil => rfl
  | _, _, .cons _ t => congrArg (· + 1) t.len
theorem WhsAt.get : ∀ {rs : List V} {us : List Wsh}, WhsAt J rs us → ∀ {i : Nat} {r : V}, rs[i]? = some r → ∃ u, us[i]? = some u ∧ WhAt J r u
  | _, _, .nil, _, _, e => by cases e
  | _, _, .cons h _, 0, _, e => by
    obtain rfl := Option.some.inj e
    exact ⟨_, rfl, h⟩
  | _, _, .cons _ t, _ + 1, _, e => t.get e
theorem WhsAt.app : ∀ {rs : List V} {us : List Wsh} {zs : List V} {vs : List Wsh}, WhsAt J rs us → WhsAt J zs vs → WhsAt J (rs ++ zs) (us ++ vs)
  | _, _, _, _, .nil, k => k
  | _, _, _, _, .cons h t, k => .cons h (t.app k)
theorem WhAt.mono (m : ∀ p xs, J p = some (.tup xs) → M p = some (.tup xs)) {r : V} {w : Wsh} (h : WhAt J r w) : WhAt M r w :=
  let ⟨t, p, e, a, b⟩ := h; ⟨t, p, e, m _ _ a, m _ _ b⟩
theorem WhsAt.mono (m : ∀ p xs, J p = some (.tup xs) → M p = some (.tup xs)) : ∀ {rs : List V} {us : List Wsh}, WhsAt J rs us → WhsAt M rs us
  | _, _, .nil => .nil
  | _, _, .cons h t => .cons (h.mono m) (t.mono m)
theorem NumsAt.len : ∀ {rs : List V} {us : List (Nat × Itm)}, NumsAt J rs us → rs.length = us.length
  | _, _, .nil => rfl
  | _, _, .cons _ t => congrArg (· + 1) t.len
theorem NumsAt.get : ∀ {rs : List V} {us : List (Nat × Itm)}, NumsAt J rs us → ∀ {i : Nat} {r : V}, rs[i]? = some r → ∃ u, us[i]? = some u ∧ NumAt J r u
  | _, _, .nil, _, _, e => by cases e
  | _, _, .cons h _, 0, _, e => by
    obtain rfl := Option.some.inj e
    exact ⟨_, rfl, h⟩
  | _, _, .cons _ t, _ + 1, _, e => t.get e
theorem NumsAt.app : ∀ {rs : List V} {us : List (Nat × Itm)} {zs : List V} {vs : List (Nat × Itm)}, NumsAt J rs us → NumsAt J zs vs → NumsAt J (rs ++ zs) (us ++ vs)
  | _, _, _, _, .nil, k => k
  | _, _, _, _, .cons h t, k => .cons h (t.app k)
theorem NumAt.mono (m : ∀ p xs, J p = some (.tup xs) → M p = some (.tup xs)) {r : V} {w : Nat × Itm} (h : NumAt J r w) : NumAt M r w :=
  let ⟨t, p, e, a, b⟩ := h; ⟨t, p, e, m _ _ a, b.mono m⟩
theorem NumsAt.mono (m : ∀ p xs, J p = some (.tup xs) → M p = some (.tup xs)) : ∀ {rs : List V} {us : List (Nat × Itm)}, NumsAt J rs us → NumsAt M rs us
  | _, _, .nil => .nil
  | _, _, .cons h t => .cons (h.mono m) (t.mono m)
theorem KvsAt.nums : ∀ {kvs : List (Key × V)} {its : List (Nat × Itm)} {ts : List Addr}, KvsAt J kvs its → Paired (fun (t : Addr) (q : Key × V) => J t = some (.tup [kV q.1, q.2])) ts kvs → NumsAt J (ts.map V.ref) its
  | _, _, _, .nil, .nil => .nil
  | _, _, _, .cons h t, .cons e r => .cons ⟨_, _, rfl, e, h⟩ (t.nums r)
/-- list(d.items()), the rows -/
theorem rd_itemsN {H : Hp} {Q : VK} {σ : L2.St} {ta : TE} {d : Addr} {kvs : List (Key × V)} {its : List (Nat × Itm)} (hd : H d = some (.dK kvs)) (s : KvsAt H kvs its) (e : ∀ R : VK, R (.ref d) H → ta σ H R)
    (q : ∀ z J rs, H z = none → Same H J → J z = some (.lst rs) → NumsAt J rs its → Dp K J (.ref z) (.list (its.map numD)) → Q (.ref z) J) : LiI.tListItems ta σ H Q := by
  refine e _ ⟨d, kvs, rfl, hd, fun J z ts sm nz _ _ ez pr => ?_⟩
  have s2 := s.mono fun p xs h => sm _ _ h
  exact q z J _ nz sm ez (s2.nums pr) (Dp.lst (SqL.of ez) (s2.dpN pr))
/-! ### a comprehension over a list with a test that may call -/
end
end Ob
/-! lcm, enumerate, two fors in a comprehension. -/
namespace Ob
open PySem PySem.Spec PyProof.Rows L2
theorem args_lcm3 (a b c : Value) : argsOk "math.lcm" ⟨[a, b, c], []⟩ := by unfold argsOk; kernel_rfl
theorem run_lcm3 (a : Int) (t : Tok) (b : Int) (u : Tok) (c : Int) (v : Tok) (hc0 : ¬(max 1 a.natAbs).log2 / 30 + 1 > 450) (hc1 : ¬(max a.natAbs b.natAbs).log2 / 30 + 1 > 450) (hc2 : ¬(max (a.natAbs.lcm b.natAbs) c.natAbs).log2 / 30 + 1 > 450)
    (hsz : (((((Nat.lcm 1 a.natAbs).lcm b.natAbs).lcm c.natAbs : Nat) : Int)).natAbs.log2 < bitsLine) : PySem.Gives (Builtin.«math.lcm» ⟨[.int a t, .int b u, .int c v], []⟩) (.int ((((Nat.lcm 1 a.natAbs).lcm b.natAbs).lcm c.natAbs : Nat) : Int)) :=
  .of_wp fun M A E s Q h => by obtain ⟨hp, g, d, tk, os⟩ := s; wp_walk; (try (refine wpAny_ite_false (decide_eq_false (Nat.not_le.mpr hsz)) ?_; wp_walk)); exact ⟨_, rfl, h⟩
theorem one_lcm (n : Nat) : Nat.lcm 1 n = n := by simp [Nat.lcm]
def rLcm : List V → Hp → VK → Prop := fun vs H Q => (∃ a b : Int, vs = [.int a, .int b] ∧ a.natAbs < 2 ^ 4000 ∧ b.natAbs < 2 ^ 4000 ∧ Q (.int ((Nat.lcm a.natAbs b.natAbs : Nat) : Int)) H) ∨
  ∃ a b c : Int, vs = [.int a, .int b, .int c] ∧ a.natAbs < 2 ^ 4000 ∧ b.natAbs < 2 ^ 4000 ∧ c.natAbs < 2 ^ 4000 ∧ Q (.int (((Nat.lcm a.natAbs b.natAbs).lcm c.natAbs : Nat) : Int)) H
theorem lcm_lt {x y m n : Nat} (h : x < 2 ^ m) (k : y < 2 ^ n) : Nat.lcm x y < 2 ^ (m + n) := by
  have h1 : Nat.lcm x y ≤ x * y := by
    unfold Nat.lcm
    exact Nat.div_le_self _ _
  have h2 := Nat.mul_lt_mul'' h k
  rw [← Nat.pow_add] at h2
  omega
theorem log_le {x m : Nat} (h : x < 2 ^ m) (h0 : 0 < m) : x.log2 < m := by
  by_cases c : x = 0
  · subst c
    rw [Nat.log2_zero]
    exact h0
  · exact (Nat.log2_lt c).mpr h
theorem cr_lcm {X : Cx} : CallR X (.builtin "math.lcm") rLcm := by
  intro pins s σ H vs us Q I r h
  have one : ∀ x : Nat, x < 2 ^ 4000 → max 1 x < 2 ^ 4000 := fun x hx => by
    have : 1 < 2 ^ 4000 := Nat.one_lt_two_pow (by decide)
    omega
  rcases h with ⟨a, b, rfl, ha, hb, q⟩ | ⟨a, b, c, rfl, ha, hb, hc, q⟩
  · obtain ⟨t, u, rfl⟩ := Vals.int2 r
    have e1 : Nat.lcm 1 a.natAbs = a.natAbs := one_lcm _
    have l1 := log_le (one _ ha) (by decide)
    have l2 := log_le (show max a.natAbs b.natAbs < 2 ^ 4000 by omega) (by decide)
    have l3 := log_le (lcm_lt ha hb) (by decide)
    refine PySem.call_function_meets PySem.W.MGF.kind_lcm PySem.W.MGF.plain_lcm PySem.W.MGF.entry_lcm (PySem.W.MGF.args_lcm _ _) (PySem.W.mg_run_lcm a t b u (by omega) (by omega) (by rw [e1, bitsLine_eq, Int.natAbs_natCast]; omega)).meets ?_
    rw [e1]
    exact ⟨.int _, H, I.tok _, ⟨_, rfl⟩, q⟩
  · cases r with
    | cons ra rt =>
      obtain ⟨u, v, rfl⟩ := Vals.int2 rt
      obtain ⟨t, rfl⟩ := ra
      · skip
        have e1 : Nat.lcm 1 a.natAbs = a.natAbs := one_lcm _
        have l1 := log_le (one _ ha) (by decide)
        have l2 := log_le (show max a.natAbs b.natAbs < 2 ^ 4000 by omega) (by decide)
        have l3' := lcm_lt ha hb
        have l3 := log_le (show max (Nat.lcm a.natAbs b.natAbs) c.natAbs < 2 ^ 8000 by
          have : (2 : Nat) ^ 4000 ≤ 2 ^ 8000 := Nat.pow_le_pow_right (by decide) (by decide)
          have : Nat.lcm a.natAbs b.natAbs < 2 ^ 8000 := l3'
          omega) (by decide)
        have l4 := log_le (lcm_lt l3' hc) (by decide)
        refine PySem.call_function_meets PySem.W.MGF.kind_lcm PySem.W.MGF.plain_lcm PySem.W.MGF.entry_lcm (args_lcm3 _ _ _) (run_lcm3 a _ b u c v (by omega) (by omega) (by omega) (by rw [e1, bitsLine_eq, Int.natAbs_natCast]; omega)).meets ?_
        rw [e1]
        exact ⟨.int _, H, I.tok _, ⟨_, rfl⟩, q⟩
/-! ### enumerate -/
section
variable {K : PySem.W.Frag} {σ : L2.St} {H : Hp} {g : TG}
theorem piE {X : Cx} (h : X.K = K) {e : Expr} {ta : TA} {p pos tpos : PySem.Pos} {elts : List Expr} {kk : Nat} (hg : Gl X "enumerate") (hm : X.mg "enumerate" = none) (ha : PA X [e] ta) (hs : starEach [e] X.env = [(false, eval e X.env)] := by rfl) :
    PI X (.Tuple elts kk tpos) (.Call (.Name "enumerate" p) [e] [] pos) (iEnum K ta) := h ▸ pi_enum hg hm ha hs
theorem rd_iE {ta : TA} {R : It → Hp → Prop} (q : ta σ H fun vs H1 => ∃ a xs, vs = [.ref a] ∧ SqL K H1 a xs ∧ R (Ite K a) H1) : iEnum K ta σ H R := q
/-! ### two fors -/
end
end Ob
/-! Arcs of a ring of W steps, and the fewest of them that cover it. -/
namespace Ob
open PySem PySem.Spec PyProof.Rows L2
abbrev Row := Int × Int
def hol (W : Int) (r : Row) (q : Int) : Prop := (q - r.1) % W < r.2
/-! ### the furthest -/
/-! ### a cover, begun at a place -/
/-! ### none takes fewer -/
/-! ### the fewest -/
end Ob
/-! The arcs that a set of cuts is made of, in units. -/
namespace Ob
open PySem PySem.Spec PyProof.Rows L2
/-! ### no cover is long -/
/-! ### arcs -/
/-! ### the gaps of an arc -/
/-! ### the same in steps of the unders -/
end Ob
/-! set of a tuple of ints; index of a list of ints. -/
namespace Ob
open PySem PySem.Spec PyProof.Rows L2
section
variable {P : Program} {w : World} {A : Around} {E : Value → Shared → Prop} {s : Shared}
end
section
variable {X : Cx}
end
section
variable {w : World} {K : PySem.W.Frag} {H : Hp} {Q : VK}
end
end Ob
namespace Ob
open PySem PySem.Spec PyProof.Rows L2
/-! ## Days whole rounds apart: sums, remainders, first days and counts -/
/-- no entry begins or ends strictly between -/
def Calm (es : List Ent) (a b : Nat) : Prop := ∀ e ∈ es, ¬ (a < e.first ∧ e.first < b) ∧ ¬ (a < e.first + e.many ∧ e.first + e.many < b)
section
variable {G : Nat} {es : List Ent} {a b : Nat}
end
/-! ### the same fraction has the same part below one -/
/-! ### a stretch by its rows -/
/-! ### stretches without a begin or an end -/
inductive Segs (es : List Ent) : Nat → Nat → List (Nat × Nat) → Prop
  | nil {s : Nat} : Segs es s s []
  | cons {s n e : Nat} {L : List (Nat × Nat)} (n0 : 0 < n) (c : Calm es s (s + n)) (t : Segs es (s + n) e L) : Segs es s e ((s, n) :: L)
theorem Segs.le {es : List Ent} : ∀ {s e : Nat} {L : List (Nat × Nat)}, Segs es s e L → s ≤ e
  | _, _, _, .nil => Nat.le_refl _
  | _, _, _, .cons n0 _ t => by
    have := t.le
    omega
end Ob
namespace L2
open PySem PySem.Spec PyProof.Rows
/-! ## range of any two ints -/
section
variable {X : Cx} {tg : Expr}
end
end L2
namespace Ob
open PySem PySem.Spec PyProof.Rows L2
end Ob
namespace L2
open PySem PySem.Spec PyProof.Rows
/-! ## sorted(a set of ints), of any size -/
section
variable {P : Program} {w : World} {A : Around} {E : Value → Shared → Prop} {s : Shared} {a : Addr}
theorem set_sorted_any {S : Int → Bool} {n : Nat} {Q : Value → Shared → Prop} (R : SetR w s.heap a S n) (hh : A.handled = none) (hz : n ≤ sizeLine)
    (hQ : ∀ s' p (out : List Value) (c : Nat) (ns : List Int), (∀ b o, s.heap.get? b = some o → s'.heap.get? b = some o) → s'.gens = s.gens → s'.os = s.os → s.heap.objs.size ≤ p →
      s'.heap.get? p = some (seqObj "list" out.toArray c) → IntsAre out ns → ns.Pairwise (· < ·) → (∀ k, k ∈ ns ↔ S k = true) → ns.length = n → Q (.ref p) s') :
    wpAny (model P w) A (call (.builtin "sorted") [.ref a]) Q E s := by
  obtain ⟨ob, es, ep, t, at_, ex, hd, kv, nd, mem, hb, hf, hn, hr, hl⟩ := R
  refine Calls.call_function_entry kind_sorted plain_sorted entry_sorted (args_sorted1 _) ?_
  unfold Builtin.«sorted»
  refine wpAny_bind (m := checkCount "sorted" 1 1 _) (wpAny_pure ?_)
  refine wpAny_bind (collect_set (A := A.in1) hh ⟨ob, at_, ex.1, hd⟩ hf hb hr hl fun s1 vs old top g1 o1 pm => ?_)
  have lv : vs.length = n := by
    rw [pm.length_eq, List.length_map, Array.length_toList]
    exact hn
  have iA : IntsAre vs (vs.map Builtin.Re.reRawOf) := ints_of vs fun v hv => by
    obtain ⟨e, he, rfl⟩ := List.mem_map.mp (pm.mem_iff.mp hv)
    obtain ⟨k, tk, h1, _⟩ := kv e he
    exact ⟨k, tk, h1⟩
  have pk : (vs.map Builtin.Re.reRawOf).Perm (es.toList.map keyOf) := by
    have q := pm.map Builtin.Re.reRawOf
    rw [List.map_map] at q
    exact q
  refine wpAny_bind (wpAny_newList ?_ (by rw [lv]; exact hz))
  have atL : (s1.heap.push (seqObj "list" vs.toArray 0)).get? s1.heap.objs.size = some (seqObj "list" vs.toArray 0) := Heap.get?_push_size _ rfl
  refine wpAny_bind (wpAny_holding (wpAny_call_entry slot_list_sort ⟨_, atL, rfl⟩ entry_list_sort
    (SrtO.list_sort_ord SrtO.swo_int atL (by rw [lv]; exact hz) (fun h2 => SrtO.ints_sortable iA h2) fun out h1 h2 => ⟨_, rfl, ?_⟩) (args_list_sort _)))
  obtain ⟨c, hc⟩ := sortedHeap_at (vs := vs) (out := out.toArray) atL
  obtain ⟨k1, k2, k3⟩ := SrtO.ints_out iA h1 h2
  have pn := k2.trans pk
  refine wpAny_pure ⟨_, rfl, hQ _ s1.heap.objs.size out c _ (fun b u e => ?_) g1 o1 top hc k1 (lt_of_le_nodup _ k3 (pn.nodup_iff.mpr nd)) (fun k => by rw [pn.mem_iff, ← mem k]) ?_⟩
  · have q := old b u e
    have lt := Heap.lt_size q
    show (sortedHeap (s1.heap.push (seqObj "list" vs.toArray 0)) s1.heap.objs.size vs out.toArray).get? b = some u
    rw [sortedHeap_old (Nat.ne_of_lt lt) (by rw [size_push']; exact Nat.lt_succ_of_lt lt)]
    exact Heap.get?_push_of_some _ q
  · rw [pn.length_eq, List.length_map, Array.length_toList]
    exact hn
end
def rSortSet (w : World) : List V → Hp → VK → Prop := fun vs H Q => ∃ (a : Addr) (S : Int → Bool) (n : Nat), vs = [V.ref a] ∧ H a = some (SetO w a S n) ∧ n ≤ 1000 ∧
  ∀ (ns : List Int) (p : Addr), ns.Pairwise (· < ·) → (∀ k : Int, k ∈ ns ↔ S k = true) → ns.length = n → H p = none → Q (.ref p) (upd H p (.lst (ns.map V.int)))
section
variable {X : Cx}
theorem cr_sortSet (hc : X.calm = true) : CallR X (.builtin "sorted") (rSortSet X.w) := by
  intro pins s σ H vs us Q I r h
  obtain ⟨a, S, n, rfl, ha, ln, q⟩ := h
  have R := setO_get I ha
  have nz : n ≤ sizeLine := by rw [sizeLine_eq]; omega
  rw [Vals.ref1 r]
  refine set_sorted_any R (I.ok.hd hc) nz fun s' p out c ns k g o hp hg hi hs hm hl => ?_
  have hlen : (ns.map V.int).length ≤ sizeLine := by rw [List.length_map, hl]; exact nz
  have hn : H p = none := I.hok.fresh hp
  have J : Inv X pins σ (upd H p (.lst (ns.map V.int))) { s with heap := s'.heap, gens := s'.gens, drawn := s'.drawn, toks := s'.toks } :=
    I.call (ch := []) (Un.laid k hp hn) (I.hok.laid k hp ⟨hlen, out, c, vals_of_ints hi, hg⟩) (by rw [g]; exact I.bare) (fun _ z => nomatch z)
  have e : s' = { s with heap := s'.heap, gens := s'.gens, drawn := s'.drawn, toks := s'.toks } := by
    cases s'
    cases s
    cases o
    rfl
  rw [e]
  exact ⟨.ref p, _, J, rfl, q ns p hs hm hl hn⟩
end
end L2
namespace Ob
open PySem PySem.Spec PyProof.Rows L2
theorem sortAK {X : Cx} {w : World} (h : X.w = w) (hc : X.calm = true) : CallR X (.builtin "sorted") (rSortSet w) := h ▸ cr_sortSet hc
theorem rd_sortA {w : World} {H : Hp} {Q : VK} {a : Addr} {S : Int → Bool} {n : Nat} (h : H a = some (SetO w a S n)) (le : n ≤ 1000) (q : ∀ (ns : List Int) (p : Addr) (J : Hp), ns.Pairwise (· < ·) → (∀ k, k ∈ ns ↔ S k = true) → ns.length = n → H p = none → Same H J → J p = some (.lst (ns.map V.int)) → Q (.ref p) J) : rSortSet w [.ref a] H Q :=
  ⟨a, S, n, rfl, h, le, fun ns p h1 h2 h3 h4 => q ns p _ h1 h2 h3 h4 (same_new h4) upd_same⟩
theorem cutV_from (xs : List V) (k : Nat) (h : k ≤ xs.length) : cutV xs (some (k : Int)) none = xs.drop k := by
  unfold cutV
  rw [HT.sIx_nat, HT.sIx_none, Nat.min_eq_left h, List.take_of_length_le (by rw [List.length_drop]; exact Nat.le_refl _)]
theorem cutV_to (xs : List V) (k : Nat) (h : k ≤ xs.length) : cutV xs none (some (k : Int)) = xs.take k := by
  unfold cutV
  rw [HT.sIx_nat, HT.sIx_none, Nat.min_eq_left h, List.drop_zero, Nat.sub_zero]
/-! ## the first day on which two rounds are unlike lies near an end or a beginning -/
/-- near a beginning, at an end -/
def Nigh (es : List Ent) (x : Nat) : Prop := x < 40 ∨ ∃ e ∈ es, (e.first ≤ x ∧ x < e.first + 20) ∨ x = e.first + e.many
/-- where f and g are unlike: near, or unlike a little earlier too -/
def Soon (es : List Ent) (f g : Nat → Int) : Prop := ∀ x, f x ≠ g x → Nigh es x ∨ ∃ y, y < x ∧ x ≤ y + 4 ∧ f y ≠ g y
theorem Nigh.mono {es fs : List Ent} {x : Nat} (h : Nigh es x) (m : ∀ e ∈ es, e ∈ fs) : Nigh fs x := by
  rcases h with h | ⟨e, he, h⟩
  · exact Or.inl h
  · exact Or.inr ⟨e, m e he, h⟩
theorem Soon.least {es : List Ent} {f g : Nat → Int} (s : Soon es f g) {x : Nat} (h : f x ≠ g x) (l : ∀ y, y < x → f y = g y) : Nigh es x := by
  rcases s x h with h | ⟨y, hy, _, c⟩
  · exact h
  · exact absurd (l y hy) c
theorem uS_app (G : Nat) (a b : List Ent) (x : Nat) : uS G (a ++ b) x = uS G a x + uS G b x := by
  unfold uS
  rw [List.map_append, List.sum_append]
theorem uS_cons (G : Nat) (e : Ent) (b : List Ent) (x : Nat) : uS G (e :: b) x = uE G e x + uS G b x := by
  unfold uS
  rw [List.map_cons, List.sum_cons]
theorem Soon.rest {es : List Ent} {G : Nat} {a b : Ent} {t q : List Ent} (s : Soon es (uE G a) (uE G b)) : Soon es (uS G (t ++ (q ++ [a]))) (uS G (t ++ (q ++ [b]))) := fun x h => by
  have e : ∀ y, uS G (t ++ (q ++ [a])) y - uS G (t ++ (q ++ [b])) y = uE G a y - uE G b y := fun y => by
    rw [uS_app, uS_app, uS_app, uS_app, uS_cons, uS_cons]
    omega
  have ex := e x
  rcases s x (by omega) with n | ⟨y, y1, y2, c⟩
  · exact Or.inl n
  · refine Or.inr ⟨y, y1, y2, ?_⟩
    have ey := e y
    omega
/-! ### an entry parted, or written twice over -/
end Ob
namespace Ob
open PySem PySem.Spec PyProof.Rows L2
/-! ## the arcs of any set of units: where they begin and end -/
/-! ## what a unit tells changes at the points only -/
end Ob
namespace L2
open PySem PySem.Spec PyProof.Rows
/-! ## d[t], the keys tuples, t in the heap or a constant of the module -/
section
variable {X : Cx} {K : PySem.W.Frag} {o i : Expr} {pos : Pos} {td ty : TE}
theorem key_sq {pins : List (Addr × Obj)} {σ : St} {H : Hp} {s : Shared} {b : Addr} {ks : List Key} (I : Inv X pins σ H s) (h : SqT X.K H b (ks.map kV)) : (tupleKind (mixKind X.prog X.w)).is s.heap ks b := by
  obtain ⟨its, r, ⟨ob, h1, h2, n, h3⟩, _⟩ := I.tuple h
  exact ⟨ob, its.toArray, n, h1, h2, h3, by simpa using items_are r⟩
def tDGetA (K : PySem.W.Frag) (td ty : TE) : TE := fun σ H Q => td σ H fun x H1 => ty σ H1 fun y H2 => ∃ a b kvs k v, x = .ref a ∧ y = .ref b ∧ H2 a = some (.dT kvs) ∧ SqT K H2 b (k.map kV) ∧ valV kvs k = some v ∧ Q v H2
theorem pe_dgetA (hk : X.K = K) (hu : X.A.units + 1 < cLine) (ho : PE X o td) (hi : PE X i ty) (hs : NoSl i) : PE X (.Subscript o i pos) (tDGetA K td ty) := by
  subst hk
  refine ⟨fun pins s σ H Q I h => ?_⟩
  refine subD_of PySem.F.slot_dict_getitem.lookup hs (thn (ho.run pins s σ H _ I h) fun u s1 ⟨x, H1, I1, rx, q1⟩ => thn (hi.run pins s1 σ H1 _ I1 q1) fun iv s2 ⟨y, H2, I2, ry, a, b, kvs, k, v, ex, ey, e, eb, l, q2⟩ => ?_)
  subst ex ey
  obtain rfl : u = Value.ref a := rx
  obtain rfl : iv = Value.ref b := ry
  obtain ⟨z, hd, xs, rel, dd⟩ := dt_rd I2.hok (.inl e)
  obtain ⟨w', hw, rw'⟩ := RelO.some_of (v := v) (o := (atKey xs k).map (·.2)) (by rw [← l]; exact rel.val k)
  obtain ⟨p, hp, hp2⟩ := Option.map_eq_some_iff.mp hw
  refine ⟨dd.typeIs, wpAny_getItem_heap (tupleKind_room_in1 hu) (key_sq I2 eb) dd hp ?_⟩
  rw [hp2]
  exact ⟨v, H2, I2.tok _, rw', q2⟩
end
end L2
namespace Ob
open PySem PySem.Spec PyProof.Rows L2
theorem rd_dgetA {K : PySem.W.Frag} {td ty : TE} {σ : L2.St} {H : Hp} {Q : VK} (q : td σ H fun x H1 => ty σ H1 fun y H2 => ∃ a b kvs k v, x = .ref a ∧ y = .ref b ∧ H2 a = some (.dT kvs) ∧ SqT K H2 b (k.map kV) ∧ valV kvs k = some v ∧ Q v H2) : tDGetA K td ty σ H Q := q
end Ob
/-! Dict comprehensions whose keys are tuples. -/
namespace Ob
open PySem PySem.Spec PyProof.Rows L2
section
variable {X : Cx} {pins : List (Addr × Obj)} {σ : L2.St} {H : Hp} {s : Shared} {E : Value → Shared → Prop}
/-- one pair more, its key the tuple at c -/
theorem putP {Q : Unit → Shared → Prop} {D c : Addr} {kvs : List (List Key × V)} {k : List Key} {v : V} {u r : Value} (hu : X.A.units < cLine) (I : Inv X pins σ H s) (e : H D = some (.dT kvs)) (ec : H c = some (.tup (k.map kV))) (lt : kvs.length < sizeLine) (ru : RelV (V.ref c) u) (rv : RelV v r) (go : ∀ s', Inv X pins σ (upd H D (.dT (putK kvs k v))) s' → Q () s') : wpAny (model X.prog X.w) X.A (dictSet D u r) Q E s := by
  obtain ⟨bd, off, xs, rel, dd⟩ := dt_of I.hok e
  cases (show u = Value.ref c from ru)
  have b1 : xs.length ≤ sizeLine := Nat.le_trans (Nat.le_of_eq (Paired.length rel).symm) bd
  have b2 : (putK kvs k v).length ≤ sizeLine := Nat.le_trans (length_putK kvs k v) lt
  refine wpAny_dictSet_heap (hsz := b1) (show (tupleKind (mixKind X.prog X.w)).room X.A from hu) (key_of I.hok ec) dd fun hp2 ⟨q, es, ep, hq, d2, d3, d4, dl, d5⟩ sb => go _ ?_
  refine d_write I (by rw [e]; exact True.intro) sb ⟨q, hq⟩ ⟨b2, off, _, (rel.put k ec rv).keeps fun c2 ys e2 => ?_, q, es, ep, hq, d2, d3, d4, d5⟩
  rw [upd_ne (fun z => by rw [z, e] at e2; cases e2)]
  exact e2
end
/-- {k: v for target in iter if ..}, keys tuples of ints and texts: D the new dict -/
def tDcP (wi : TI) (g : TG) (tt : TT) (tk tv : TE) (vs : List Nat) : TE := fun σ H Q => wi σ H fun J H1 => ∀ D, H1 D = none → ∃ W : Nat → Nat → Hp → Prop, (∃ m, W 0 m (upd H1 D (.dT []))) ∧ ∀ i m H, W i m H → (J.stop i H ∧ Q (.ref D) H) ∨ (J.go i H ∧ ∃ Nx : Hp → Prop, (∀ H', Nx H' → ∃ m', m' < m ∧ W (i + 1) m' H') ∧ ∀ x H', J.yld i H x H' → g x (wipe σ vs) H' fun σ2 H2 => wipe σ2 vs = wipe σ vs ∧ tt σ2 H2 fun b H3 => if b = true then tk σ2 H3 fun y H4 => tv σ2 H4 fun z H5 => ∃ (kvs : List (List Key × V)) (k : List Key) (c : Addr), y = .ref c ∧ H5 c = some (.tup (k.map kV)) ∧ H5 D = some (.dT kvs) ∧ kvs.length < sizeLine ∧ Nx (upd H5 D (.dT (putK kvs k z))) else Nx H3)
section
variable {X : Cx} {kx vx tg iter : Expr} {ifs : List Expr} {scope : Scope} {own : List (Str × Nat)} {pos : PySem.Pos} {wi : TI} {g : TG} {tt : TT} {tk tv : TE}
theorem dcP_core {pins : List (Addr × Obj)} {s : Shared} {σ : L2.St} {H : Hp} {Q : VK} {pos' : PySem.Pos} {use : Option (Value → Sem Unit)} {Qf : Value → Shared → Prop} (calm : X.calm = true) (nd : X.N.Nodup) (hu : X.A.units < cLine) (pit : PI X tg iter wi) (bok : BlkOk X.N X.env.scope scope own)
    (pgs : ∀ (s : Shared) (H : Hp) (C : Addr) (cl : List (Str × Addr)) (fp : List Addr), PG (X.blk s H scope (compEnvC scope cl C X.env) fp) tg g) (pts : ∀ (s : Shared) (H : Hp) (C : Addr) (cl : List (Str × Addr)) (fp : List Addr), PTs (X.blk s H scope (compEnvC scope cl C X.env) fp) ifs tt)
    (pks : ∀ (s : Shared) (H : Hp) (C : Addr) (cl : List (Str × Addr)) (fp : List Addr), PE (X.blk s H scope (compEnvC scope cl C X.env) fp) kx tk) (pvs : ∀ (s : Shared) (H : Hp) (C : Addr) (cl : List (Str × Addr)) (fp : List Addr), PE (X.blk s H scope (compEnvC scope cl C X.env) fp) vx tv) (fold : ∀ x, foldedSetIterable iter X.env x = pure x)
    (I : Inv X pins σ H s) (hw : tDcP wi g tt tk tv (own.map (·.2)) σ H Q)
    (hRR : ∀ D C s' m H', Inv X pins σ H' s' → Q (.ref D) H' → s'.heap.Ns C m → FpOk X pins H' C → compPost (model X.prog X.w) X.A X.xe use Qf (.ref D) C (.ok .next) s') :
    wpAny (model X.prog X.w) X.A (comprehension (.DictComp kx vx [⟨tg, iter, ifs, 0⟩] scope pos) scope X.env pos' newDict false (eval iter X.env) use) Qf X.xe s := by
  have clo : ∀ y ∈ scope.names, y.2 = .free → ∃ c, X.env.cells.lookup y.1 = some c := fun y hy e => (bok.free y hy e).elim (fun k => I.ok.has _ (.inl k)) fun k => I.ok.has _ (.inr k)
  refine wpAny_comprehension_free (use := use) rfl fold (closure_ok clo) bok.kind (fun y hy e => by rw [bok.uniq y hy, e]) (thn (pit.run pins s σ H _ I hw) fun v0 sA hA => thn hA fun v1 sB ⟨it, fp, tn, J, HB, ev, IB, TB, stB, fB, qB⟩ => ?_)
  subst ev
  refine wpAny_newObj_type (newEnv_comp ?_)
  generalize hDd : sB.heap.objs.size = D
  obtain ⟨W, ⟨m0, w0⟩, turn⟩ := qB D (IB.hok.fresh (Nat.le_of_eq hDd))
  generalize hsC : ({ sB with heap := sB.heap.push { cls := .type "dict", data := .dict #[] } } : Shared) = sC
  have eqC : sC.heap = sB.heap.push { cls := .type "dict", data := .dict #[] } := by rw [← hsC]
  have IC : Inv X pins σ (upd HB D (.dT [])) sC := by
    rw [← hsC, ← hDd]
    exact IB.laid (t' := sB.toks) (fun b o e => Heap.get?_push_of_some _ e) (Nat.le_refl _) (dt_empty sB.heap IB.big)
  have old : ∀ b ∈ fp, b < sB.heap.objs.size := fun b hb => (TB.obj _ _ stB b hb).elim fun o e => Heap.lt_size e.1
  have fC : ∀ b ∈ fp, FpOk X pins (upd HB D (.dT [])) b ∧ b < sC.heap.objs.size := fun b hb => ⟨⟨by rw [upd_ne (by rw [← hDd]; exact Nat.ne_of_lt (old b hb))]; exact (fB b hb).1, (fB b hb).2⟩, by rw [eqC, Heap.size_push]; exact Nat.lt_succ_of_lt (old b hb)⟩
  have stC : tn 0 sC.heap := TB.keep _ _ _ stB fun b _ o e => by rw [eqC]; exact Heap.get?_push_of_some _ e
  have ID := block_start IC bok nd fC
  show codeAny _ _ (.compStart (.DictComp kx vx [⟨tg, iter, ifs, 0⟩] scope pos) 0 (.ref it) (.ref D) (compEnvC scope (cellsFrom (sC.heap.objs.size + 1) scope.names (cloFrom X.env.cells scope.names [])) sC.heap.objs.size X.env)) (compPost (model X.prog X.w) X.A X.xe use Qf (.ref D) sC.heap.objs.size) { sC with heap := pushCells (sC.heap.push { cls := .type "dict", data := .dict #[] }) scope.names }
  have none0 : ∀ b ∈ fp, (upd HB D (.dT [])) b = none := fun b hb => (fC b hb).1.1
  generalize hcl : cellsFrom (sC.heap.objs.size + 1) scope.names (cloFrom X.env.cells scope.names []) = cl at ID ⊢
  generalize hHC : upd HB D (.dT []) = HC at IC ID w0 none0 fC
  have pg := pgs sC HC sC.heap.objs.size cl fp
  have pt := pts sC HC sC.heap.objs.size cl fp
  have pk := pks sC HC sC.heap.objs.size cl fp
  have pv := pvs sC HC sC.heap.objs.size cl fp
  generalize hce : compEnvC scope cl sC.heap.objs.size X.env = ce at ID pg pt pk pv ⊢
  have loc : ce.locals = sC.heap.objs.size := by subst hce; rfl
  generalize hsD : ({ sC with heap := pushCells (sC.heap.push { cls := .type "dict", data := .dict #[] }) scope.names } : Shared) = sD at ID ⊢
  have stD : tn 0 sD.heap := TB.keep _ _ _ stC fun b _ o e => by rw [← hsD]; exact pushCells_keeps _ _ _ _ (Heap.get?_push_of_some _ e)
  have stay : ∀ {σ' : L2.St} {H' : Hp} {s' : Shared}, Inv (X.blk sC HC scope ce fp) [] σ' H' s' → (∀ b ∈ fp, H' b = none) → ∀ b ∈ fp, FpOk (X.blk sC HC scope ce fp) [] H' b := fun {σ' H' s'} I' hn b hb => ⟨hn b hb, (I'.ok.exf b hb).1, I'.ok.exfs b hb, .inl hb, fun x c e => (I'.ok.exf b hb).2 x c e, fun p hp => absurd (show p ∈ ([] : List (Addr × Obj)) ++ [] from hp) (by simp)⟩
  have loop : codeAny (model X.prog X.w) X.A (.compLoop (.DictComp kx vx [⟨tg, iter, ifs, 0⟩] scope pos) 0 (.ref it) (.ref D) ce) (compPost (model X.prog X.w) X.A X.xe use Qf (.ref D) sC.heap.objs.size) sD := by
    refine compLoop_anyD (fun n s' => ∃ i H', Inv (X.blk sC HC scope ce fp) [] (wipe σ (own.map (·.2))) H' s' ∧ tn i s'.heap ∧ (∀ b ∈ fp, H' b = none) ∧ W i n H') (fun n s5 ⟨i, H5, I5, st5, n5, w5⟩ => ?_) m0 ⟨0, HC, ID, stD, none0, w0⟩
    rcases turn i n H5 w5 with ⟨stop, fin⟩ | ⟨more, Nx, down, step⟩
    · refine thnF (TB.done (X.blk sC HC scope ce fp) rfl rfl rfl calm i [] s5 _ H5 (fun _ _ => False) I5 (stay I5 n5) st5 stop) fun r s6 ⟨hr, I6⟩ => ?_
      subst hr
      obtain ⟨mm, ns, _⟩ := I6.loc
      have ns : s6.heap.Ns ce.locals mm := ns
      have fr : H5 ce.locals = none := I6.free
      rw [loc] at ns fr
      have I7 : Inv X pins σ H5 s6 := IC.call' (ch := fp) I6.os I6.base I6.hok I6.bare fun b hb => ⟨(fC b hb).1.2.2.2.1, (fC b hb).1.2.1, (fC b hb).1.2.2.2.2.1, (fC b hb).1.2.2.2.2.2⟩
      exact hRR D sC.heap.objs.size s6 mm H5 I7 fin ns (IC.fpOk (Nat.le_refl _) fr)
    · refine thnF (TB.item (X.blk sC HC scope ce fp) rfl rfl rfl calm i [] s5 _ H5 (fun _ _ => False) I5 (stay I5 n5) st5 more) fun r s6 ⟨u, hr, h6⟩ => ?_
      subst hr
      refine thnF h6 fun _ s7 ⟨x, H7, I7, r7, y7, st7, n7⟩ => thnF (pg.run _ s7 _ H7 x u _ (I7.pinned (stay I7 n7) (TB.obj _ _ st7)) r7 (step x H7 y7)) fun _ s8 ⟨σ8, H8, I8, hw8, q8⟩ => thnF (pt.run _ s8 σ8 H8 _ I8 q8) fun b s9 ⟨H9, I9, q9⟩ => ?_
      have back : ∀ {s' : Shared} {H' : Hp}, Inv (X.blk sC HC scope ce fp) ([] ++ pinsAt fp s7.heap) σ8 H' s' → Nx H' → ∃ m, m < n ∧ ∃ i H', Inv (X.blk sC HC scope ce fp) [] (wipe σ (own.map (·.2))) H' s' ∧ tn i s'.heap ∧ (∀ b ∈ fp, H' b = none) ∧ W i m H' := fun {s' H'} I' nx => by
        obtain ⟨m', lt, w'⟩ := down H' nx
        have held : ∀ b ∈ fp, ∀ o, s7.heap.get? b = some o → s'.heap.get? b = some o ∧ H' b = none := fun b hb o e => ⟨(I'.pin (b, o) (List.mem_append_right _ (List.mem_append_right _ (mem_pinsAt hb e)))).1, (I'.pin (b, o) (List.mem_append_right _ (List.mem_append_right _ (mem_pinsAt hb e)))).2.1⟩
        exact ⟨m', lt, i + 1, H', (I'.unpinned (pins := [])).weak (by rw [← hw8, wipe_length]) (fun j v e => by rw [← hw8] at e; exact (wipe_some e).1), TB.keep _ _ _ st7 fun b hb o e => (held b hb o e).1, fun b hb => (TB.obj _ _ st7 b hb).elim fun o e => (held b hb o e.1).2, w'⟩
      cases b with
      | false => exact back I9 (by simpa using q9)
      | true =>
        rw [if_pos rfl] at q9 ⊢
        refine thnF (pk.run _ s9 σ8 H9 _ I9 q9) fun z sX ⟨yk, HX, IX, rX, qX⟩ => thnF (pv.run _ sX σ8 HX _ IX qX) fun z2 sY ⟨yv, HY, IY, rY, kvs, k, c, ek, ecc, eD, lt, nx⟩ => ?_
        subst ek
        exact putP (X := X.blk sC HC scope ce fp) hu IY eD ecc lt rX rY fun sZ IZ => back IZ nx
  exact codeAny_compStart_dict loop (TB.self X.A 0 _ _ _ stD loop)
/-- name = {..} on one line, the name a local -/
theorem ps_setDcP {i : Nat} {y : Str} {py spos : PySem.Pos} (hy : X.N[i]? = some y) (hyl : X.env.scope.names.lookup y = some .local)
    (hsw : swapsWith (.DictComp kx vx [⟨tg, iter, ifs, 0⟩] scope pos) (some (.Name y py)) spos.line X.env = pure true) (calm : X.calm = true) (nd : X.N.Nodup) (hu : X.A.units < cLine) (pit : PI X tg iter wi) (bok : BlkOk X.N X.env.scope scope own)
    (pgs : ∀ (s : Shared) (H : Hp) (C : Addr) (cl : List (Str × Addr)) (fp : List Addr), PG (X.blk s H scope (compEnvC scope cl C X.env) fp) tg g) (pts : ∀ (s : Shared) (H : Hp) (C : Addr) (cl : List (Str × Addr)) (fp : List Addr), PTs (X.blk s H scope (compEnvC scope cl C X.env) fp) ifs tt)
    (pks : ∀ (s : Shared) (H : Hp) (C : Addr) (cl : List (Str × Addr)) (fp : List Addr), PE (X.blk s H scope (compEnvC scope cl C X.env) fp) kx tk) (pvs : ∀ (s : Shared) (H : Hp) (C : Addr) (cl : List (Str × Addr)) (fp : List Addr), PE (X.blk s H scope (compEnvC scope cl C X.env) fp) vx tv) (fold : ∀ x, foldedSetIterable iter X.env x = pure x := by intro _; rfl) :
    PS X (.Assign [.Name y py] (.DictComp kx vx [⟨tg, iter, ifs, 0⟩] scope pos) spos) (tAsg (tDcP wi g tt tk tv (own.map (·.2))) (gName i)) := by
  refine ⟨fun pins s σ H D I h => ?_⟩
  rw [exec_Assign_Name_used _ _ _ _ hsw]
  refine wpAny_bind (wpAny_standAt (wpAny_bind ?_))
  show wpAny _ X.A (do let _ ← comprehension (.DictComp kx vx [⟨tg, iter, ifs, 0⟩] scope pos) scope X.env (firstIterPos [⟨tg, iter, ifs, 0⟩] pos) newDict false (eval iter X.env) (some (assign (.Name y py) X.env))) _ _ s
  have h : tDcP wi g tt tk tv (own.map (·.2)) σ H (fun x H1 => gName i x σ H1 D.nx) := h
  refine wpAny_bind (thn (dcP_core (Qf := fun _ s' => SP X pins D .next s') calm nd hu pit bok pgs pts pks pvs fold I h fun L C s' m H' I' q hn f => ?_) fun _ s' hq => wpAny_pure (wpAny_pure hq))
  show wpAny _ _ (assign (.Name y py) X.env (.ref L)) _ _ _
  refine wpAny_assign_Name (store_ok2 (v := V.ref L) I' nd hy (.inl hyl) rfl (fun s2 I2 ⟨a, sb, ha⟩ => ?_) (.inr hyl))
  obtain ⟨f0, f1, f2, f3, f4, f5⟩ := f
  have haC : C ≠ a := by
    rcases ha with z | z
    · rw [z]; exact f1
    · exact fun e => f4 y a z e.symm
  refine ⟨m, hn.sameBut sb haC, fun h3 sb3 => ?_⟩
  exact ⟨_, H', I2.turned (t' := s2.toks) (fun b o hb e => (sb3.2 b hb).trans e) f0 f1 f3 f4 f5, q⟩
theorem sw_trueD {gs : List Comprehension} {py : PySem.Pos} {y : Str} {l : Nat} {env : Env} (hk : env.scope.kind = .function) (hy : env.scope.names.lookup y = some .local) (hl : (py.line == pos.line) = true)
    (ha : (scope.names.any fun (n, k) => n == y && (k == .local || k == .cell)) = false) : swapsWith (.DictComp kx vx gs scope pos) (some (.Name y py)) l env = pure true := by
  have ky : env.kindOf y = some .local := hy
  have hb : env.blockKind = .function := by unfold Env.blockKind; rw [hk]; rfl
  unfold swapsWith
  simp only [hb, ky, ha, Expr.pos, hl]
  rfl
end
end Ob
/-! Dict comprehensions read: over a list (keys ints), over enumerate (keys tuples); sorted of a dict with ints as keys. -/
namespace Ob
open PySem PySem.Spec PyProof.Rows L2
def DcI (J : It) (g : TG) (tt : TT) (tk tv : TE) (vs : List Nat) (σ : L2.St) (Qd : Hp → Prop) (H1 : Hp) (D : Addr) : Prop := ∃ W : Nat → Nat → Hp → Prop, (∃ m, W 0 m (upd H1 D (.dK []))) ∧ ∀ i m H, W i m H → (J.stop i H ∧ Qd H) ∨ (J.go i H ∧ ∃ Nx : Hp → Prop, (∀ H', Nx H' → ∃ m', m' < m ∧ W (i + 1) m' H') ∧ ∀ x H', J.yld i H x H' → g x (wipe σ vs) H' fun σ2 H2 => wipe σ2 vs = wipe σ vs ∧ tt σ2 H2 fun b H3 => if b = true then tk σ2 H3 fun y H4 => tv σ2 H4 fun z H5 => ∃ kvs k, y = kV k ∧ H5 D = some (.dK kvs) ∧ kvs.length < sizeLine ∧ Nx (upd H5 D (.dK (putK kvs k z))) else Nx H3)
def DcP (J : It) (g : TG) (tt : TT) (tk tv : TE) (vs : List Nat) (σ : L2.St) (Qd : Hp → Prop) (H1 : Hp) (D : Addr) : Prop := ∃ W : Nat → Nat → Hp → Prop, (∃ m, W 0 m (upd H1 D (.dT []))) ∧ ∀ i m H, W i m H → (J.stop i H ∧ Qd H) ∨ (J.go i H ∧ ∃ Nx : Hp → Prop, (∀ H', Nx H' → ∃ m', m' < m ∧ W (i + 1) m' H') ∧ ∀ x H', J.yld i H x H' → g x (wipe σ vs) H' fun σ2 H2 => wipe σ2 vs = wipe σ vs ∧ tt σ2 H2 fun b H3 => if b = true then tk σ2 H3 fun y H4 => tv σ2 H4 fun z H5 => ∃ (kvs : List (List Key × V)) (k : List Key) (c : Addr), y = .ref c ∧ H5 c = some (.tup (k.map kV)) ∧ H5 D = some (.dT kvs) ∧ kvs.length < sizeLine ∧ Nx (upd H5 D (.dT (putK kvs k z))) else Nx H3)
section
variable {K : PySem.W.Frag} {σ : L2.St} {H : Hp} {g : TG} {tt : TT} {tk tv : TE} {vs : List Nat} {wi : TI} {Q : VK} {a D : Addr} {xs : List V}
theorem rd_dcI (q : wi σ H fun J H1 => ∀ D, H1 D = none → DcI J g tt tk tv vs σ (fun H' => Q (.ref D) H') H1 D) : tDc wi g tt tk tv vs σ H Q := q
theorem rd_dcP (q : wi σ H fun J H1 => ∀ D, H1 D = none → DcP J g tt tk tv vs σ (fun H' => Q (.ref D) H') H1 D) : tDcP wi g tt tk tv vs σ H Q := q
def DiEnd (D : Addr) (H : Hp) (P : Nat → List (Key × V) → Hp → Prop) (i : Nat) (y z : V) (J : Hp) : Prop := ∃ kvs k, y = kV k ∧ J D = some (.dK kvs) ∧ kvs.length < sizeLine ∧ ∃ kvs', kvs'.length ≤ i ∧ Kp D H (upd J D (.dK (putK kvs k z))) ∧ (upd J D (.dK (putK kvs k z))) D = some (.dK kvs') ∧ P i kvs' (upd J D (.dK (putK kvs k z)))
theorem diEnd_mk {P : Nat → List (Key × V) → Hp → Prop} {i : Nat} {kvs : List (Key × V)} {k : Key} {z : V} {J : Hp} (h : J D = some (.dK kvs)) (hl : kvs.length ≤ i) (hz : i ≤ 500) (kp : Kp D H J) (q : P (i + 1) (putK kvs k z) (upd J D (.dK (putK kvs k z)))) : DiEnd D H P (i + 1) (kV k) z J :=
  ⟨kvs, k, rfl, h, small1000 (by omega), _, by have := length_putK kvs k z; omega, kp.trans Kp.at, upd_same, q⟩
theorem dcI_lst (P : Nat → List (Key × V) → Hp → Prop) {Qd : Hp → Prop} (ha : H a = some (.lst xs)) (hl : xs.length ≤ 500) (hD : H D = none) (h0 : ∀ J, Kp D H J → P 0 [] J)
    (he : ∀ (i : Nat) x kvs J, xs[i]? = some x → i ≤ 500 → kvs.length ≤ i → Kp D H J → J D = some (.dK kvs) → P i kvs J → g x (wipe σ vs) J fun σ2 J2 => wipe σ2 vs = wipe σ vs ∧ tk σ2 J2 fun y J4 => tv σ2 J4 fun z J5 => DiEnd D H P (i + 1) y z J5)
    (hd : ∀ kvs J, kvs.length ≤ xs.length → Kp D H J → J D = some (.dK kvs) → P xs.length kvs J → Qd J) : DcI (Itl K a) g tYes tk tv vs σ Qd H D := by
  have na : a ≠ D := ne_of_none ha hD
  refine ⟨fun i m J => m = xs.length - i ∧ i ≤ xs.length ∧ ∃ kvs, kvs.length ≤ i ∧ Kp D H J ∧ J D = some (.dK kvs) ∧ P i kvs J, ⟨_, rfl, Nat.zero_le _, [], Nat.le_refl _, Kp.new hD, upd_same, h0 _ (Kp.new hD)⟩, ?_⟩
  rintro i m J ⟨rfl, le, kvs, lk, k, hJ, p⟩
  have qa : SqL K J a xs := SqL.of (k a _ na ha)
  by_cases lt : i < xs.length
  · refine .inr ⟨⟨xs, xs[i], qa, List.getElem?_eq_getElem lt⟩, fun J' => ∃ kvs', kvs'.length ≤ i + 1 ∧ Kp D H J' ∧ J' D = some (.dK kvs') ∧ P (i + 1) kvs' J', fun J' w => ⟨xs.length - (i + 1), by omega, rfl, by omega, w⟩, fun x J' y => ?_⟩
    obtain ⟨rfl, y⟩ := y
    exact he i x kvs J' (y xs qa) (by omega) lk k hJ p
  · have ei : i = xs.length := by omega
    subst ei
    exact .inl ⟨⟨xs, qa, Nat.le_refl _⟩, hd kvs J lk k hJ p⟩
def DpEnd (D : Addr) (H : Hp) (P : Nat → List (List Key × V) → Hp → Prop) (i : Nat) (y z : V) (J : Hp) : Prop := ∃ (kvs : List (List Key × V)) (k : List Key) (c : Addr), y = .ref c ∧ J c = some (.tup (k.map kV)) ∧ J D = some (.dT kvs) ∧ kvs.length < sizeLine ∧ ∃ kvs', kvs'.length ≤ i ∧ Kp D H (upd J D (.dT (putK kvs k z))) ∧ (upd J D (.dT (putK kvs k z))) D = some (.dT kvs') ∧ P i kvs' (upd J D (.dT (putK kvs k z)))
theorem dpEnd_mk {P : Nat → List (List Key × V) → Hp → Prop} {i : Nat} {kvs : List (List Key × V)} {k : List Key} {c : Addr} {z : V} {J : Hp} (h : J D = some (.dT kvs)) (hc : J c = some (.tup (k.map kV))) (hl : kvs.length ≤ i) (hz : i ≤ 500) (kp : Kp D H J) (q : P (i + 1) (putK kvs k z) (upd J D (.dT (putK kvs k z)))) : DpEnd D H P (i + 1) (.ref c) z J :=
  ⟨kvs, k, c, rfl, hc, h, small1000 (by omega), _, by have := length_putK kvs k z; omega, kp.trans Kp.at, upd_same, q⟩
theorem dcP_enum (P : Nat → List (List Key × V) → Hp → Prop) {Qd : Hp → Prop} (ha : H a = some (.lst xs)) (hl : xs.length ≤ 500) (hD : H D = none) (h0 : ∀ J, Kp D H J → P 0 [] J) (hP : ∀ i kvs J J', Same J J' → P i kvs J → P i kvs J')
    (he : ∀ (i : Nat) x kvs J T, xs[i]? = some x → i ≤ 500 → kvs.length ≤ i → Kp D H J → J D = some (.dT kvs) → P i kvs J → J T = some (.tup [.int (i : Nat), x]) → g (.ref T) (wipe σ vs) J fun σ2 J2 => wipe σ2 vs = wipe σ vs ∧ tk σ2 J2 fun y J4 => tv σ2 J4 fun z J5 => DpEnd D H P (i + 1) y z J5)
    (hd : ∀ kvs J, kvs.length ≤ xs.length → Kp D H J → J D = some (.dT kvs) → P xs.length kvs J → Qd J) : DcP (Ite K a) g tYes tk tv vs σ Qd H D := by
  have na : a ≠ D := ne_of_none ha hD
  refine ⟨fun i m J => m = xs.length - i ∧ i ≤ xs.length ∧ ∃ kvs, kvs.length ≤ i ∧ Kp D H J ∧ J D = some (.dT kvs) ∧ P i kvs J, ⟨_, rfl, Nat.zero_le _, [], Nat.le_refl _, Kp.new hD, upd_same, h0 _ (Kp.new hD)⟩, ?_⟩
  rintro i m J ⟨rfl, le, kvs, lk, k, hJ, p⟩
  have qa : SqL K J a xs := SqL.of (k a _ na ha)
  by_cases lt : i < xs.length
  · refine .inr ⟨⟨xs, xs[i], qa, List.getElem?_eq_getElem lt⟩, fun J' => ∃ kvs', kvs'.length ≤ i + 1 ∧ Kp D H J' ∧ J' D = some (.dT kvs') ∧ P (i + 1) kvs' J', fun J' w => ⟨xs.length - (i + 1), by omega, rfl, by omega, w⟩, fun x J' y => ?_⟩
    obtain ⟨T, w, rfl, nT, rfl, y⟩ := y
    exact he i w kvs _ T (y xs qa) (by omega) lk (k.trans (Kp.new nT)) (new_any nT hJ) (hP _ _ _ _ (same_new nT) p) upd_same
  · have ei : i = xs.length := by omega
    subst ei
    exact .inl ⟨⟨xs, qa, Nat.le_refl _⟩, hd kvs J lk k hJ p⟩
end
/-- sorted(d), the keys ints -/
def rSortDI : List V → Hp → VK → Prop := fun xs H Q => ∃ (a : Addr) (kvs : List (Key × V)) (ks : List Int), xs = [.ref a] ∧ Rd H a (.dK kvs) ∧ kvs.map (·.1) = ks.map Sum.inl ∧ ks.length < 64 ∧ ∀ (ys : List Int) (p : Addr), ys.Perm ks → ys.Pairwise (· ≤ ·) → H p = none → Q (.ref p) (upd H p (.lst (ys.map V.int)))
theorem sortDI {X : Cx} (h : X.calm = true) : CallR X (.builtin "sorted") rSortDI := call_sortedDI h
theorem rd_sortDI {H : Hp} {Q : VK} {a : Addr} {kvs : List (Key × V)} {ks : List Int} (e : H a = some (.dK kvs)) (ek : kvs.map (·.1) = ks.map Sum.inl) (l : ks.length < 64) (q : ∀ (ys : List Int) p J, ys.Perm ks → ys.Pairwise (· ≤ ·) → H p = none → Same H J → J p = some (.lst (ys.map V.int)) → Q (.ref p) J) : rSortDI [.ref a] H Q :=
  ⟨a, kvs, ks, rfl, .inl e, ek, l, fun ys p pm pw np => q ys p _ pm pw np (same_new np) upd_same⟩
end Ob
/-! try with several clauses, each with a name: except A as e: .. except B as e: .. -/
namespace Ob
open PySem PySem.Spec PyProof.Rows L2
abbrev Clause := Nat × Value × (Addr → Value → Option Addr → TS)
/-- what such clauses wish of an exception, one after the other; the name is gone behind the suite -/
def wAll (K : PySem.W.Frag) (Wout : WX) (D : Ends) : List Clause → WX
  | [] => Wout
  | (i, c, ts) :: r => fun cls d σ H => ∃ b, PySem.W.exmOne K cls c = some b ∧ (b = true → ∀ a, H a = none → ts a cls d { nx := fun τ M => D.nx (τ.set i none) M, rt := D.rt, bk := fun τ M => D.bk (τ.set i none) M, ct := fun τ M => D.ct (τ.set i none) M } (σ.set i (some (.ref a))) H) ∧ (b = false → wAll K Wout D r cls d σ H)
inductive HdsA (X : Cx) : List ExceptHandler → List Clause → Prop
  | nil : HdsA X [] []
  | cons {x n : Str} {i : Nat} {c : Value} {ts : Addr → Value → Option Addr → TS} {b₀ : Stmt} {suite : List Stmt} {np pos' : PySem.Pos} {hds : List ExceptHandler} {l : List Clause} (hi : X.N[i]? = some n) (hl : X.env.kindOf n = some .local) (hc : Names X x c)
      (su : ∀ (a : Addr) (oe : Obj) (cls : Value) (d : Option Addr) (pn : List (Addr × Obj)), Zc cls d oe → (∃ vs, oe.data = .fields vs) → PSs (X.suite a ((a, oe) :: pn)) (b₀ :: suite) (ts a cls d)) (r : HdsA X hds l) : HdsA X (.ExceptHandler (some (.Name x np)) (some n) (b₀ :: suite) pos' :: hds) ((i, c, ts) :: l)
section
variable {X : Cx} {body : List Stmt} {h₀ : ExceptHandler} {hds : List ExceptHandler} {l : List Clause} {pos : PySem.Pos} {tb : WX → TS} {Wout : WX}
theorem ps_try_all (stk : X.stack = X.env :: X.outer) (frm : X.env.frame = some X.env.locals) (nd : X.N.Nodup) (tk : Takes X Wout)
    (bod : ∀ (W : WX) (pn : List (Addr × Obj)) (xe : Value → Shared → Prop), Takes (X.tr pn xe) W → PassesOwn (model X.prog X.w) X.A X.env xe → PSs (X.tr pn xe) body (tb W)) (hh : HdsA X (h₀ :: hds) l) : PS X (.Try body (h₀ :: hds) [] [] pos) (fun D σ H => tb (wAll X.K Wout D l) D σ H) := by
  refine ⟨fun pins s σ H D I pre => wpAny_Try_except ?_⟩
  have ok := I.ok
  have frs' : X.A.frames = some (X.env :: X.outer) := by rw [ok.frames, stk]
  refine wpAny_mono ((bod (wAll X.K Wout D l) (X.pn ++ pins) (fun e sA => wpAny (model X.prog X.w) X.A (noteFrame e X.env) (fun _ sB => wpAny (model X.prog X.w) X.A (setFlight e none) (fun _ sC => wpAny (model X.prog X.w) X.A (handleBy e X.env (h₀ :: hds)) (SP X pins D) X.xe sC) X.xe sB) X.xe sA) (fun u sX caught => ?_) PassesOwn.looking).run [] s σ H D (I.toTry _) pre) (fun fl sX q => ?_) (fun e sX z => z)
  · obtain ⟨a, B, sI, pinsX, τ, M, cls, d, rfl, JX, nb, up, sky, na, os, ag, w⟩ := caught
    have J : Inv X pins τ M sI := JX.ofTry ok
    have sky2 : Sky B (X.env :: X.outer) a (Zc cls d) X.env.locals sX.heap := by rw [← stk]; exact sky
    show wpAny (model X.prog X.w) X.A (noteFrame (.ref a) X.env) _ _ _
    refine Sky.land Zc.steady frs' frm sky2 fun hC flC upC => ?_
    have JC : Inv X pins τ M { sX with heap := hC } := J.landed nb flC.1 (up.trans upC) os ag
    obtain ⟨oC, vC, eC, zC, dC⟩ := flC.there
    have off : ∀ {h : Heap} {o : Obj} {vs : Array Value}, h.FunFrames B (X.env :: X.outer) → h.get? a = some o → o.data = .fields vs → a ∉ frs (X.env :: X.outer) := fun {h o vs} ff e1 e2 hm => by
      obtain ⟨_, o2, e3, no⟩ := ff.mem hm
      cases e1.symm.trans e3
      exact no _ e2
    have nfr := off flC.2.2.1 eC dC
    have nL : a ≠ X.env.locals := fun z => nfr (List.mem_filterMap.mpr ⟨X.env, List.mem_cons_self, by rw [frm, z]⟩)
    have nF : a ∉ X.fs := fun hm => (List.mem_filterMap.mp hm).elim fun e1 e2 => nfr (List.mem_filterMap.mpr ⟨e1, List.mem_cons_of_mem _ e2.1, e2.2⟩)
    have SC := JC.suite eC dC na nL nF
    have walk : ∀ {hd : List ExceptHandler} {ll : List Clause}, HdsA X hd ll → wAll X.K Wout D ll cls d τ M → wpAny (model X.prog X.w) X.A (handleBy (.ref a) X.env hd) (SP X pins D) X.xe { sX with heap := hC } := by
      intro hd ll ok2
      induction ok2 with
      | nil =>
        refine fun w => wpAny_handleBy_nil ?_
        obtain ⟨_, _, _, oe, vs, T, oT, tsT, he, _, hd2, hT, _⟩ := id flC
        unfold PySem.passOn
        refine wpAny_bind (wpAny_field he hd2 hT ?_)
        rw [if_neg (show ¬ ((Value.ref T == Value.none) = true) by simp)]
        have out : wpAny (model X.prog X.w) X.A (setFlight (.ref a) X.env.frame) (fun _ sD => wpAny (model X.prog X.w) X.A (throw (.ref a) : Sem Flow) (SP X pins D) X.xe sD) X.xe { sX with heap := hC } := by
          rw [frm]
          exact HandSPX.setFlight_upZ flC fun hD fD upD => wpAny_throw (tk _ _ ⟨a, B, sI, pins, τ, M, cls, d, rfl, J, nb, (up.trans upC).trans upD, .inr (.inr (by rw [stk]; exact fD)), na, os, ag, w⟩)
        first | exact wpAny_bind out | exact wpAny_bind (wpAny_pure (wpAny_bind out))
      | @cons x n i c ts b₀ suite np pos2 hd2 l2 hi hl hc su r ih =>
        rintro ⟨b, hb, yes, no⟩
        refine wpAny_handleBy_cons (codeAny_handlers_test ?_) (by intro q; cases q)
        have lk : PySem.W.Looks (model X.prog X.w) hC (typeOf (.ref a)) cls := fun A Q E s k q => wpAny_typeOf_ref (k _ _ eC) (by rw [zC.1]; exact q)
        have ask : ∀ {Q : Value → Shared → Prop} {E : Value → Shared → Prop}, Q c { sX with heap := hC } → wpAny (model X.prog X.w) (X.A.mark (some (.ref a))) (eval (.Name x np) X.env) Q E { sX with heap := hC } := fun {Q E} q => by
          rcases hc with ⟨gl, db, m | ⟨m, bt, nn⟩⟩
          · exact ld_glob (X := X.suite a ((a, oC) :: (X.pn ++ pins))) SC gl m q db
          · exact ld_blt (X := X.suite a ((a, oC) :: (X.pn ++ pins))) SC gl m bt q nn db
        refine ask ((PySem.W.exm_one (M := model X.prog X.w) JC.kIn lk hb).here ?_)
        cases b with
        | false => exact (show wpAny _ X.A (handleBy (.ref a) X.env hd2) _ _ _ from ih (no rfl))
        | true =>
          refine codeAny_handlers_suite_as (HandSPX.lands_againZ flC fun hD fD upD => ?_)
          have JD : Inv X pins τ M { sX with heap := hD } := J.landed nb fD.1 ((up.trans upC).trans upD) os ag
          obtain ⟨oD, vD, eD, zD, dD⟩ := fD.there
          refine store_ok (X := X.suite a ((a, oD) :: (X.pn ++ pins))) (v := .ref a) (JD.suite eD dD na nL nF) nd hi (.inl hl) rfl (fun sE SE => wpAny_mono ((su a oD cls d (X.pn ++ pins) zD ⟨_, dD⟩).run [] sE _ M _ SE (yes rfl a na)) (fun fl sF q => ?_) fun _ _ z => z.elim) (.inr hl)
          have gone : ∀ {τ2 : L2.St} {M2 : Hp} {Q : Shared → Prop}, Inv (X.suite a ((a, oD) :: (X.pn ++ pins))) [] τ2 M2 sF → (∀ sG, Inv X pins (τ2.set i none) M2 sG → Q sG) → wpAny (model X.prog X.w) X.A (do bindName X.env n .none; unbindBehindTheSuite X.env n pos2) (fun _ sG => Q sG) X.xe sF := fun S2 q2 => gone_ok (S2.unsuite ok) nd hi hl q2
          cases fl with
          | next => exact q.elim fun τ2 q => q.elim fun M2 q => gone q.1 fun sG JG => ⟨_, _, JG, q.2⟩
          | brk => exact q.elim fun τ2 q => q.elim fun M2 q => gone q.1 fun sG JG => ⟨_, _, JG, q.2⟩
          | cont => exact q.elim fun τ2 q => q.elim fun M2 q => gone q.1 fun sG JG => ⟨_, _, JG, q.2⟩
          | ret u =>
            obtain ⟨v2, τ2, M2, S2, rv, q⟩ := q
            exact gone S2 fun sG JG => ⟨_, _, _, JG, rv, q⟩
    exact walk hh w
  · cases fl with
    | next => exact q.elim fun τ2 q => q.elim fun M2 q => wpAny_execs_nil ⟨τ2, M2, q.1.ofTry ok, q.2⟩
    | brk => exact q.elim fun τ2 q => q.elim fun M2 q => ⟨τ2, M2, q.1.ofTry ok, q.2⟩
    | cont => exact q.elim fun τ2 q => q.elim fun M2 q => ⟨τ2, M2, q.1.ofTry ok, q.2⟩
    | ret u =>
      obtain ⟨v2, τ2, M2, S2, rv, q⟩ := q
      exact ⟨v2, τ2, M2, S2.ofTry ok, rv, q⟩
end
end Ob
/-! How many members a set of ints has; in a list of lists; None in a list. -/
namespace Ob
open PySem PySem.Spec PyProof.Rows L2
def rLenSO (w : World) : List V → Hp → VK → Prop := fun xs H Q => ∃ (a : Addr) (S : Int → Bool) (n : Nat), xs = [V.ref a] ∧ H a = some (SetO w a S n) ∧ ∀ ks : List Int, ks.Nodup → (∀ k, S k = true ↔ k ∈ ks) → ks.length = n → Q (.int (n : Int)) H
theorem cr_lenSO {X : Cx} : CallR X (.builtin "len") (rLenSO X.w) := by
  intro pins s σ H xs us Q I r h
  obtain ⟨a, S, n, rfl, ha, q⟩ := h
  obtain ⟨o, es, ep, t, ho, hex, hd, _, nd, mem, few, fits, hn, _⟩ := setO_get I ha
  rw [Vals.ref1 r]
  exact call_len_set ho hex hd fits (by unfold scanBound at few; omega) ⟨.int (n : Int), H, I.tok _, ⟨_, by rw [hn]⟩, q _ nd mem (by rw [List.length_map, Array.length_toList]; exact hn)⟩
theorem lenSOK {X : Cx} {w : World} (h : X.w = w) : CallR X (.builtin "len") (rLenSO w) := h ▸ cr_lenSO
theorem nodup_len {α : Type} [DecidableEq α] {a b : List α} (na : a.Nodup) (nb : b.Nodup) (h : ∀ x, x ∈ a ↔ x ∈ b) : a.length = b.length := ((List.perm_ext_iff_of_nodup na nb).mpr h).length_eq
theorem rd_lenSO {w : World} {H : Hp} {Q : VK} {a : Addr} {S : Int → Bool} {n : Nat} {ks : List Int} (h : H a = some (SetO w a S n)) (nd : ks.Nodup) (e : ∀ k, S k = true ↔ k ∈ ks) (q : Q (.int (ks.length : Int)) H) : rLenSO w [.ref a] H Q :=
  ⟨a, S, n, rfl, h, fun ls ndl el hl => by rw [← hl, nodup_len ndl nd fun x => (el x).symm.trans (e x)]; exact q⟩
theorem inLK {X : Cx} {K : PySem.W.Frag} (h : X.K = K) (hu : X.A.units + 65 < cLine) : OpR X (compareOp .In) (rInD K) := h ▸ op_inD hu
theorem maxIK {X : Cx} {K : PySem.W.Frag} (h : X.K = K) (hc : X.calm = true) : CallR X (.builtin "max") (rMax K) := h ▸ cr_max hc
theorem rd_maxI {K : PySem.W.Frag} {H : Hp} {Q : VK} {a : Addr} {ns : List Int} {m : Int} (h : SqL K H a (ns.map V.int)) (hm : m ∈ ns) (le : ∀ y ∈ ns, y ≤ m) (q : Q (.int m) H) : rMax K [.ref a] H Q :=
  ⟨a, ns, rfl, h, List.length_pos_iff.mpr (List.ne_nil_of_mem hm), fun k hk lk => by rw [Int.le_antisymm (le k hk) (lk m hm)]; exact q⟩
theorem room65 {k : Nat} {A : Around} (h : Room k A) : A.units + 65 < cLine := by
  have := h.un
  omega
theorem rd_bits {to : TE} {σ : L2.St} {H : Hp} {Q : VK} (q : to σ H fun x H1 => ∃ i, x = .int i ∧ Q (.int (Builtin.Int.intBits i : Nat)) H1) : tBits to σ H Q := q
end Ob
namespace Ob
open PySem PySem.Spec PyProof.Rows L2
local macro_rules | `(tactic| walk_at "hp") => `(tactic| (first
  | assumption
  | exact L2.upd_same
  | ((with_reducible refine SqT.of ?h); (case h => walk_at "hp"))
  | ((with_reducible refine SqL.of ?h); (case h => walk_at "hp"))
  | ((with_reducible refine Scr.sq ?h); (case h => walk_at "hp"))
  | ((with_reducible refine Bag.new ?h ?k); (case h => walk_at "hp"); (case k => assumption))
  | ((with_reducible refine Scr.new ?k ?h); (case k => assumption); (case h => walk_at "hp"))
  | ((with_reducible refine Scr.kp (b := ?bb) (H := ?hh) ?k ?g ?h); (case k => assumption); (case g => walk_at "hp"); (case h => walk_at "hp"))
  | ((with_reducible refine Bag.same (H := ?hh) ?k ?h); (case k => assumption); (case h => walk_at "hp"))
  | ((with_reducible refine Scr.same (H := ?hh) ?k ?h); (case k => assumption); (case h => walk_at "hp"))
  | ((with_reducible refine same_any (H := ?hh) ?k ?h); (case k => assumption); (case h => walk_at "hp"))
  | ((with_reducible refine new_any ?k ?h); (case k => assumption); (case h => walk_at "hp"))
  | ((with_reducible refine set_tup (ys := ?ys) ?k ?h); (case k => assumption); (case h => walk_at "hp"))
  | ((with_reducible refine Bag.put ?k ?h); (case k => assumption); (case h => walk_at "hp"))
  | ((with_reducible refine Kp.tup (b := ?bb) (H := ?hh) ?k ?g ?h); (case k => assumption); (case g => walk_at "hp"); (case h => walk_at "hp"))
  | ((with_reducible refine Kp.lst (b := ?bb) (H := ?hh) ?k ?g ?h); (case k => assumption); (case g => walk_at "hp"); (case h => walk_at "hp"))
  | ((with_reducible refine Bag.off (H := ?hh) ?h ?g); (case h => assumption); (case g => walk_at "hp"))
  | (with_reducible exact Kp.refl)
  | (with_reducible exact Kp.new (by assumption))))
local macro_rules | `(tactic| walk_at "dp") => `(tactic| (first
  | exact Dp.int _
  | exact Dp.bl _
  | exact Dp.non
  | exact Dp.str _
  | exact DpAll.nil
  | ((refine DpAll.cons (d := ?d) (ds := ?ds) ?h ?k); (case h => walk_at "dp"); (case k => walk_at "dp"))
  | ((refine Dp.lst (xs := ?xs) (ds := ?ds) ?h ?k); (case h => walk_at "hp"); (case k => walk_at "dp"))
  | ((refine Dp.tup (xs := ?xs) (ds := ?ds) ?h ?k); (case h => walk_at "hp"); (case k => walk_at "dp"))))
local macro_rules | `(tactic| walk_at "small") => `(tactic| first | decide +kernel | (simp only [sm, sms, sz, szs, Bool.and_true, Bool.and_eq_true, decide_eq_true_eq, and_true, true_and]; (first | done | omega | (repeat' constructor) <;> first | omega | decide +kernel)))
local macro_rules | `(tactic| walk_at "side") => `(tactic| (first
  | ((with_reducible show IntMulOk _ _); first | exact rd_mulB (by assumption) (by assumption) | (refine rd_mulok ?_; omega))
  | ((with_reducible show CDv _ _); exact rd_dvB _ (Int.ne_of_gt (by assumption)) (by assumption))
  | ((with_reducible show CDv _ _); refine rd_dvI _ ?_ ?_ <;> first | assumption | omega | decide)
  | ((with_reducible show CPow _ _); exact ⟨by decide, by decide, by first | decide | omega⟩)
  | omega
  | assumption
  | decide
  | (refine rd_mulB (m := 400) (n := 400) (Bd.lit ?_) (Bd.lit ?_) <;> decide +kernel)))
local macro_rules | `(tactic| walk_at "rd1") => `(tactic| (first
  | ((with_reducible refine rd_var (v := ?v) ?h ?_); (case h => exact rfl))
  | (with_reducible refine rd_c ?_)
  | (with_reducible refine rd_op ?_)
  | (with_reducible refine rd_cons ?_)
  | (with_reducible refine rd_nil ?_)
  | ((with_reducible refine rd_sxT (xs := ?xs) (v := ?v) ?h ?a ?_); (case h => walk_at "hp"); (case a => exact rfl))
  | ((with_reducible refine rd_sxL (xs := ?xs) (v := ?v) ?h ?a ?_); (case h => walk_at "hp"); (case a => exact rfl))
  | (with_reducible refine rd_I0 ?_)
  | ((with_reducible refine rd_I ?c ?_); (case c => walk_at "side"))
  | ((with_reducible refine rd_name (τ := ?t) ?e ?_); (case e => exact rfl))
  | (with_reducible refine rd_seq ?_)
  | (with_reducible refine rd_asg ?_)
  | (with_reducible refine rd_call ?_)
  | (with_reducible refine rd_CB ?_)
  | (with_reducible refine rd_tup ?_)
  | ((with_reducible refine rd_new ?h ?_); (case h => exact rfl))
  | (with_reducible refine rd_test ?_)
  | (with_reducible refine rd_bl ?_)
  | (with_reducible refine rd_U ?_)
  | (with_reducible refine rd_un ?_)
  | (with_reducible refine rd_neI ?_)
  | (with_reducible refine rd_eqI ?_)
  | (with_reducible refine rd_tpar ?_)
  | (with_reducible refine rd_lc ?_)
  | (with_reducible refine rd_iTup ?_)
  | (with_reducible refine rd_iLst ?_)
  | (with_reducible refine rd_iR1 ?_)
  | (with_reducible refine rd_BM ?_)
  | ((with_reducible refine rd_iTupA (xs := ?xs) ?h ?_); (case h => walk_at "hp"))
  | ((with_reducible refine rd_iLstA (xs := ?xs) ?h ?_); (case h => walk_at "hp"))
  | ((with_reducible refine rd_tyl (xs := ?xs) ?h ?_); (case h => walk_at "hp"))
  | ((with_reducible refine rd_app (xs := ?xs) ?h ?a ?_); (case h => walk_at "hp"); (case a => exact Nat.le_of_ble_eq_true rfl))
  | ((with_reducible refine rd_cat (xs := ?xs) (zs := ?zs) ?h ?k ?a ?_); (case h => walk_at "hp"); (case k => walk_at "hp"); (case a => exact Nat.le_of_ble_eq_true rfl))
  | ((with_reducible refine rd_rep (xs := ?xs) (ys := ?ys) ?h ?a ?b ?c ?_); (case h => walk_at "hp"); (case a => decide); (case b => exact Nat.le_of_ble_eq_true rfl); (case c => exact rfl))
  | (with_reducible refine rd_ret ?_)
  | (with_reducible refine rd_next ?_)
  | (with_reducible refine rd_drop ?_)
  | (with_reducible refine rd_ifS ?_)
  | (with_reducible refine rd_B ?_)
  | (with_reducible refine rd_not ?_)
  | (with_reducible refine rd_and ?_)
  | (with_reducible refine rd_or ?_)
  | (with_reducible refine rd_andV ?_)
  | (with_reducible refine rd_orV ?_)
  | (with_reducible refine rd_notV ?_)
  | (with_reducible refine rd_ifE ?_)
  | (with_reducible refine rd_lst ?_)
  | ((with_reducible refine rd_for1b ?h ?_); (case h => constructor <;> (repeat' split) <;> omega))
  | (with_reducible refine rd_one ?_)
  | (with_reducible refine rd_two ?_)
  | (with_reducible refine rd_int ?_)
  | (with_reducible refine rd_intB ?_)
  | (with_reducible refine rd_gcd ?_)
  | ((with_reducible refine rd_par (τ := ?t) ?e ?_); (case e => exact rfl))
  | (with_reducible refine rd_sub ?_)
  | (with_reducible refine rd_for1 ?_)
  | ((with_reducible refine rd_len (ys := ?ys) ?h ?_); (case h => walk_at "hp"))
  | ((with_reducible refine rd_lenTu (ys := ?ys) ?h ?_); (case h => walk_at "hp"))
  | ((with_reducible refine rd_repr (d := ?d) ?h ?a ?b ?c ?_); (case h => walk_at "dp"); (case a => walk_at "small"); (case b => walk_at "small"); (case c => simp only [PyData.depth, PyData.depthAll]; omega))
  | ((with_reducible refine rd_nsame ?h ?_); (case h => exact rfl))
  | ((with_reducible refine rd_same ?h ?_); (case h => exact rfl))
  | ((with_reducible refine rd_gtup (xs := ?xs) ?h ?a ?_); (case h => walk_at "hp"); (case a => exact rfl))
  | (with_reducible refine rd_gcons ?_)
  | (with_reducible refine rd_gnil ?_)
  | ((with_reducible refine rd_isiI (b := true) ?a ?_); (case a => decide +kernel))
  | ((with_reducible refine rd_isiI (b := false) ?a ?_); (case a => decide +kernel))
  | ((with_reducible refine rd_isiB (b := true) ?a ?_); (case a => decide +kernel))
  | ((with_reducible refine rd_isiB (b := false) ?a ?_); (case a => decide +kernel))
  | ((with_reducible refine rd_isiN (b := true) ?a ?_); (case a => decide +kernel))
  | ((with_reducible refine rd_isiN (b := false) ?a ?_); (case a => decide +kernel))
  | ((with_reducible refine rd_isiS (b := true) ?a ?_); (case a => decide +kernel))
  | ((with_reducible refine rd_isiS (b := false) ?a ?_); (case a => decide +kernel))
  | ((with_reducible refine rd_isiT (b := true) (xs := ?xs) ?h ?a ?_); (case a => decide +kernel); (case h => walk_at "hp"))
  | ((with_reducible refine rd_isiT (b := false) (xs := ?xs) ?h ?a ?_); (case a => decide +kernel); (case h => walk_at "hp"))
  | ((with_reducible refine rd_isiL (b := true) (xs := ?xs) ?h ?a ?_); (case a => decide +kernel); (case h => walk_at "hp"))
  | ((with_reducible refine rd_isiL (b := false) (xs := ?xs) ?h ?a ?_); (case a => decide +kernel); (case h => walk_at "hp"))
  | ((with_reducible refine rd_isi (t := ?t) (b := true) ?h ?a ?_); (case h => assumption); (case a => decide +kernel))
  | ((with_reducible refine rd_isi (t := ?t) (b := false) ?h ?a ?_); (case h => assumption); (case a => decide +kernel))
  | (with_reducible refine rd_chain ?_)
  | ((with_reducible refine rd_eqDs (d := ?d) ?h ?k ?s ?_); (case h => walk_at "dp"); (case k => walk_at "dp"); (case s => first | rfl | decide | simp [SeqAt.shaped]))
  | ((with_reducible refine rd_neDs (d := ?d) ?h ?k ?s ?_); (case h => walk_at "dp"); (case k => walk_at "dp"); (case s => first | rfl | decide | simp [SeqAt.shaped]))
  | ((with_reducible refine rd_setL (xs := ?xs) (ys := ?ys) (j := ?j) ?h ?a ?e ?_); (case h => walk_at "hp"); (case a => exact rfl); (case e => exact rfl))))
local macro_rules | `(tactic| walk_at "rdm1") => `(tactic| (first
  | ((with_reducible refine rd_md ?c ?_); (case c => first | omega | decide); intro r r0 r1)
  | walk_at "rd1"))
local macro_rules | `(tactic| walk_at "rdm") => `(tactic| (repeat walk_at "rdm1"))
local macro_rules | `(tactic| walk_at "rd") => `(tactic| (repeat walk_at "rd1"))

--@DCP plan

local macro_rules | `(tactic| walk_at "hp") => `(tactic| (first
  | assumption
  | exact L2.upd_same
  | ((with_reducible refine SqT.of ?h); (case h => walk_at "hp"))
  | ((with_reducible refine SqL.of ?h); (case h => walk_at "hp"))
  | ((with_reducible refine Scr.sq ?h); (case h => walk_at "hp"))
  | ((with_reducible refine Bag.new ?h ?k); (case h => walk_at "hp"); (case k => assumption))
  | ((with_reducible refine Scr.new ?k ?h); (case k => assumption); (case h => walk_at "hp"))
  | ((with_reducible refine Scr.kp (b := ?bb) (H := ?hh) ?k ?g ?h); (case k => assumption); (case g => walk_at "hp"); (case h => walk_at "hp"))
  | ((with_reducible refine Bag.same (H := ?hh) ?k ?h); (case k => assumption); (case h => walk_at "hp"))
  | ((with_reducible refine Scr.same (H := ?hh) ?k ?h); (case k => assumption); (case h => walk_at "hp"))
  | ((with_reducible refine same_any (H := ?hh) ?k ?h); (case k => assumption); (case h => walk_at "hp"))
  | ((with_reducible refine new_any ?k ?h); (case k => assumption); (case h => walk_at "hp"))
  | ((with_reducible refine set_tup (ys := ?ys) ?k ?h); (case k => assumption); (case h => walk_at "hp"))
  | ((with_reducible refine Bag.put ?k ?h); (case k => assumption); (case h => walk_at "hp"))
  | ((with_reducible refine Kp.tup (b := ?bb) (H := ?hh) ?k ?g ?h); (case k => assumption); (case g => walk_at "hp"); (case h => walk_at "hp"))
  | ((with_reducible refine Kp.lst (b := ?bb) (H := ?hh) ?k ?g ?h); (case k => assumption); (case g => walk_at "hp"); (case h => walk_at "hp"))
  | ((with_reducible refine Bag.off (H := ?hh) ?h ?g); (case h => assumption); (case g => walk_at "hp"))
  | (with_reducible exact Kp.refl)
  | (with_reducible exact Kp.new (by assumption))))
local macro_rules | `(tactic| walk_at "dp") => `(tactic| (first
  | exact Dp.int _
  | exact Dp.bl _
  | exact Dp.non
  | exact Dp.str _
  | exact DpAll.nil
  | ((refine DpAll.cons (d := ?d) (ds := ?ds) ?h ?k); (case h => walk_at "dp"); (case k => walk_at "dp"))
  | ((refine Dp.lst (xs := ?xs) (ds := ?ds) ?h ?k); (case h => walk_at "hp"); (case k => walk_at "dp"))
  | ((refine Dp.tup (xs := ?xs) (ds := ?ds) ?h ?k); (case h => walk_at "hp"); (case k => walk_at "dp"))))
local macro_rules | `(tactic| walk_at "small") => `(tactic| first | decide +kernel | (simp only [sm, sms, sz, szs, Bool.and_true, Bool.and_eq_true, decide_eq_true_eq, and_true, true_and]; (first | done | omega | (repeat' constructor) <;> first | omega | decide +kernel)))
local macro_rules | `(tactic| walk_at "side") => `(tactic| (first
  | ((with_reducible show IntMulOk _ _); first | exact rd_mulB (by assumption) (by assumption) | (refine rd_mulok ?_; omega))
  | ((with_reducible show CDv _ _); exact rd_dvB _ (Int.ne_of_gt (by assumption)) (by assumption))
  | ((with_reducible show CDv _ _); refine rd_dvI _ ?_ ?_ <;> first | assumption | omega | decide)
  | ((with_reducible show CPow _ _); exact ⟨by decide, by decide, by first | decide | omega⟩)
  | omega
  | assumption
  | decide
  | (refine rd_mulB (m := 400) (n := 400) (Bd.lit ?_) (Bd.lit ?_) <;> decide +kernel)))
local macro_rules | `(tactic| walk_at "rd1") => `(tactic| (first
  | ((with_reducible refine rd_var (v := ?v) ?h ?_); (case h => exact rfl))
  | (with_reducible refine rd_c ?_)
  | (with_reducible refine rd_op ?_)
  | (with_reducible refine rd_cons ?_)
  | (with_reducible refine rd_nil ?_)
  | ((with_reducible refine rd_sxT (xs := ?xs) (v := ?v) ?h ?a ?_); (case h => walk_at "hp"); (case a => exact rfl))
  | ((with_reducible refine rd_sxL (xs := ?xs) (v := ?v) ?h ?a ?_); (case h => walk_at "hp"); (case a => exact rfl))
  | (with_reducible refine rd_I0 ?_)
  | ((with_reducible refine rd_I ?c ?_); (case c => walk_at "side"))
  | ((with_reducible refine rd_name (τ := ?t) ?e ?_); (case e => exact rfl))
  | (with_reducible refine rd_seq ?_)
  | (with_reducible refine rd_asg ?_)
  | (with_reducible refine rd_call ?_)
  | (with_reducible refine rd_CB ?_)
  | (with_reducible refine rd_tup ?_)
  | ((with_reducible refine rd_new ?h ?_); (case h => exact rfl))
  | (with_reducible refine rd_test ?_)
  | (with_reducible refine rd_bl ?_)
  | (with_reducible refine rd_U ?_)
  | (with_reducible refine rd_un ?_)
  | (with_reducible refine rd_neI ?_)
  | (with_reducible refine rd_eqI ?_)
  | (with_reducible refine rd_tpar ?_)
  | (with_reducible refine rd_lc ?_)
  | (with_reducible refine rd_iTup ?_)
  | (with_reducible refine rd_iLst ?_)
  | (with_reducible refine rd_iR1 ?_)
  | (with_reducible refine rd_BM ?_)
  | ((with_reducible refine rd_iTupA (xs := ?xs) ?h ?_); (case h => walk_at "hp"))
  | ((with_reducible refine rd_iLstA (xs := ?xs) ?h ?_); (case h => walk_at "hp"))
  | ((with_reducible refine rd_tyl (xs := ?xs) ?h ?_); (case h => walk_at "hp"))
  | ((with_reducible refine rd_app (xs := ?xs) ?h ?a ?_); (case h => walk_at "hp"); (case a => exact Nat.le_of_ble_eq_true rfl))
  | ((with_reducible refine rd_cat (xs := ?xs) (zs := ?zs) ?h ?k ?a ?_); (case h => walk_at "hp"); (case k => walk_at "hp"); (case a => exact Nat.le_of_ble_eq_true rfl))
  | ((with_reducible refine rd_rep (xs := ?xs) (ys := ?ys) ?h ?a ?b ?c ?_); (case h => walk_at "hp"); (case a => decide); (case b => exact Nat.le_of_ble_eq_true rfl); (case c => exact rfl))
  | (with_reducible refine rd_ret ?_)
  | (with_reducible refine rd_next ?_)
  | (with_reducible refine rd_drop ?_)
  | (with_reducible refine rd_ifS ?_)
  | (with_reducible refine rd_B ?_)
  | (with_reducible refine rd_not ?_)
  | (with_reducible refine rd_and ?_)
  | (with_reducible refine rd_or ?_)
  | (with_reducible refine rd_andV ?_)
  | (with_reducible refine rd_orV ?_)
  | (with_reducible refine rd_notV ?_)
  | (with_reducible refine rd_ifE ?_)
  | (with_reducible refine rd_lst ?_)
  | ((with_reducible refine rd_for1b ?h ?_); (case h => constructor <;> (repeat' split) <;> omega))
  | (with_reducible refine rd_one ?_)
  | (with_reducible refine rd_two ?_)
  | (with_reducible refine rd_int ?_)
  | (with_reducible refine rd_intB ?_)
  | (with_reducible refine rd_gcd ?_)
  | ((with_reducible refine rd_par (τ := ?t) ?e ?_); (case e => exact rfl))
  | (with_reducible refine rd_sub ?_)
  | (with_reducible refine rd_for1 ?_)
  | ((with_reducible refine rd_len (ys := ?ys) ?h ?_); (case h => walk_at "hp"))
  | ((with_reducible refine rd_lenTu (ys := ?ys) ?h ?_); (case h => walk_at "hp"))
  | ((with_reducible refine rd_repr (d := ?d) ?h ?a ?b ?c ?_); (case h => walk_at "dp"); (case a => walk_at "small"); (case b => walk_at "small"); (case c => simp only [PyData.depth, PyData.depthAll]; omega))
  | ((with_reducible refine rd_nsame ?h ?_); (case h => exact rfl))
  | ((with_reducible refine rd_same ?h ?_); (case h => exact rfl))
  | ((with_reducible refine rd_gtup (xs := ?xs) ?h ?a ?_); (case h => walk_at "hp"); (case a => exact rfl))
  | (with_reducible refine rd_gcons ?_)
  | (with_reducible refine rd_gnil ?_)
  | ((with_reducible refine rd_isiI (b := true) ?a ?_); (case a => decide +kernel))
  | ((with_reducible refine rd_isiI (b := false) ?a ?_); (case a => decide +kernel))
  | ((with_reducible refine rd_isiB (b := true) ?a ?_); (case a => decide +kernel))
  | ((with_reducible refine rd_isiB (b := false) ?a ?_); (case a => decide +kernel))
  | ((with_reducible refine rd_isiN (b := true) ?a ?_); (case a => decide +kernel))
  | ((with_reducible refine rd_isiN (b := false) ?a ?_); (case a => decide +kernel))
  | ((with_reducible refine rd_isiS (b := true) ?a ?_); (case a => decide +kernel))
  | ((with_reducible refine rd_isiS (b := false) ?a ?_); (case a => decide +kernel))
  | ((with_reducible refine rd_isiT (b := true) (xs := ?xs) ?h ?a ?_); (case a => decide +kernel); (case h => walk_at "hp"))
  | ((with_reducible refine rd_isiT (b := false) (xs := ?xs) ?h ?a ?_); (case a => decide +kernel); (case h => walk_at "hp"))
  | ((with_reducible refine rd_isiL (b := true) (xs := ?xs) ?h ?a ?_); (case a => decide +kernel); (case h => walk_at "hp"))
  | ((with_reducible refine rd_isiL (b := false) (xs := ?xs) ?h ?a ?_); (case a => decide +kernel); (case h => walk_at "hp"))
  | ((with_reducible refine rd_isi (t := ?t) (b := true) ?h ?a ?_); (case h => assumption); (case a => decide +kernel))
  | ((with_reducible refine rd_isi (t := ?t) (b := false) ?h ?a ?_); (case h => assumption); (case a => decide +kernel))
  | (with_reducible refine rd_chain ?_)
  | ((with_reducible refine rd_eqDs (d := ?d) ?h ?k ?s ?_); (case h => walk_at "dp"); (case k => walk_at "dp"); (case s => first | rfl | decide | simp [SeqAt.shaped]))
  | ((with_reducible refine rd_neDs (d := ?d) ?h ?k ?s ?_); (case h => walk_at "dp"); (case k => walk_at "dp"); (case s => first | rfl | decide | simp [SeqAt.shaped]))
  | ((with_reducible refine rd_setL (xs := ?xs) (ys := ?ys) (j := ?j) ?h ?a ?e ?_); (case h => walk_at "hp"); (case a => exact rfl); (case e => exact rfl))))
local macro_rules | `(tactic| walk_at "rdm1") => `(tactic| (first
  | ((with_reducible refine rd_md ?c ?_); (case c => first | omega | decide); intro r r0 r1)
  | walk_at "rd1"))
local macro_rules | `(tactic| walk_at "rdm") => `(tactic| (repeat walk_at "rdm1"))
local macro_rules | `(tactic| walk_at "rd") => `(tactic| (repeat walk_at "rd1"))

/-! ### the drawing -/
theorem prime_at {n : Int} (h0 : 0 ≤ n) (h : n < 7) : ∃ p, atI [V.int 2147483647, V.int 2147483629, V.int 2147483587, V.int 2147483579, V.int 2147483563, V.int 2147483549, V.int 2147483543] n = some (.int p) ∧ 0 < p ∧ p ≤ 2147483647 := by
  obtain ⟨p, e, m⟩ := pick_int (ns := [2147483647, 2147483629, 2147483587, 2147483579, 2147483563, 2147483549, 2147483543]) h0 h
  refine ⟨p, e, ?_⟩
  simp only [List.mem_cons, List.not_mem_nil, or_false] at m
  omega
theorem rd_prime {K : PySem.W.Frag} {H : Hp} {t : Addr} {i : Int} {Q : VK} (h : H t = some (.tup [V.int 2147483647, V.int 2147483629, V.int 2147483587, V.int 2147483579, V.int 2147483563, V.int 2147483549, V.int 2147483543]))
    (h0 : 0 ≤ i) (h1 : i < 7) (q : ∀ p : Int, 0 < p → p ≤ 2147483647 → Q (.int p) H) : rIx K (.ref t) (.int i) H Q := by
  obtain ⟨p, e, p0, p1⟩ := prime_at h0 h1
  exact rd_sxT (SqT.of h) e (q p p0 p1)
def sp__law_bag (K : PySem.W.Frag) : Sp := fun vs H Q _ => ∃ (a : Addr) (ns : List Int) (n : Int), vs = [.ref a, .int n] ∧ Scr K H a (ns.map V.int) ∧ ns.length ≤ 63 ∧ 0 ≤ n ∧ n ≤ 62 ∧
  ∀ b J, H b = none → Same H J → Bag b J → Q (.ref b) J
theorem ar__law_bag (K : PySem.W.Frag) : ∀ vs H Q E, sp__law_bag K vs H Q E → vs.length = 2 := by
  intro vs H Q E h
  obtain ⟨a, ns, n, rfl, _⟩ := h
  rfl
abbrev N__law_bag : List Str := ["_law_script", "_law_at", "_law_primes", "_law_cell", "_law_large", "_law_mixed"]
theorem sc__law_bag : FnScope N__law_bag ["_law_script", "_law_at"] (defScope S__law_bag) := ⟨rfl, rfl, rfl, by decide +kernel, rfl, by decide +kernel, by decide +kernel⟩
theorem ok__law_bag {P : Program} {w : World} {K : PySem.W.Frag} {mg : Str → Option Value} {base : Heap} {f : Addr} {fd : FuncData} (F : Fun K "_law_bag" "_law_bag" S__law_bag f fd) (m_abs : mg "abs" = none) (m_len : mg "len" = none) :
    FnG P w K mg base CX0 1 f fd ["_law_script", "_law_at"] (sp__law_bag K) := by
  refine Fun_okG F sc__law_bag (ar__law_bag K) (fun cdv A outer s H vs Q E hg hr h => ?_)
  obtain ⟨a, ns, n, rfl, hS, hl, n0, n1, q⟩ := h
  refine ⟨_, (pss_cons (ps_set (i := 2) sc__law_bag.nd rfl (Or.inl rfl) (pe_tup (pa_cons pe_int (pa_cons pe_int (pa_cons pe_int (pa_cons pe_int (pa_cons pe_int (pa_cons pe_int (pa_cons pe_int pa_nil)))))))))
    (pss_cons (ps_set (i := 3) sc__law_bag.nd rfl (Or.inl rfl) (pe_ifExp (pt_cmpR op_lt (pv 1) (pe_callB (id := "len") (lenK (K := K) rfl) (by rfl) m_len (by decide +kernel) (pa_cons (pv 0) pa_nil)) (nomark _)) (pe_ix (ixK (K := K) rfl) (pv 0) (pv 1) (fun _ _ => rfl)) pe_int))
    (pss_cons (ps_set (i := 4) sc__law_bag.nd rfl (Or.inl rfl) (pe_ifExp (pt_cmpR op_ge (pe_callB (id := "abs") call_abs (by rfl) m_abs (by decide +kernel) (pa_cons (pv 3) pa_nil)) (pe_op op_pow pe_int pe_int) (nomark _)) (pe_callB (id := "abs") call_abs (by rfl) m_abs (by decide +kernel) (pa_cons (pv 3) pa_nil)) pe_int))
    (pss_cons (ps_set (i := 5) sc__law_bag.nd rfl (Or.inl rfl) (pe_op op_modN (pe_op op_pow (pe_op op_add (pe_op op_add (pe_op op_modN (pv 3) pe_int) (pe_op op_ml pe_int (pv 1))) pe_int) pe_int) (pe_ix (ixK (K := K) rfl) (pv 2) (pe_op op_modN (pv 1) pe_int) (fun _ _ => rfl))))
    (pss_one (ps_ret (pe_lst (pa_cons (pv 4) (pa_cons (pe_op op_add (pe_op op_modN (pe_op op_ml (pv 5) (pe_op op_add (pe_op op_add (pe_op op_dv (pv 5) pe_int) (pe_op op_ml pe_int (pv 1))) pe_int)) (pe_ix (ixK (K := K) rfl) (pv 2) (pe_op op_modN (pe_op op_add (pv 1) pe_int) pe_int) (fun _ _ => rfl))) pe_int) pa_nil))))))))), ?_⟩
  walk_at "rd"
  intro t nt
  have hS2 : Scr K (upd H t (.tup [V.int 2147483647, V.int 2147483629, V.int 2147483587, V.int 2147483579, V.int 2147483563, V.int 2147483549, V.int 2147483543])) a (ns.map V.int) := by walk_at "hp"
  walk_at "rd"
  refine rd_if (fun c => ?_) (fun c => ?_)
  · rw [List.length_map] at c
    obtain ⟨v, hv, _⟩ := pick_int (ns := ns) n0 c
    walk_at "rd"
    refine rd_sxL hS2.sq hv ?_
    walk_at "rd"
    refine rd_if (fun c2 => ?_) (fun c2 => ?_)
    all_goals walk_at "rdm"
    all_goals refine rd_prime (by walk_at "hp") (by omega) (by omega) (fun p1 p1a p1b => ?_)
    all_goals walk_at "rdm"
    all_goals refine rd_prime (by walk_at "hp") (by omega) (by omega) (fun p2 p2a p2b => ?_)
    all_goals walk_at "rdm"
    all_goals intro p np
    all_goals exact q _ _ ((same_new nt).free np) ((same_new nt).trans (same_new np)) ⟨_, _, upd_same⟩
  · walk_at "rd"
    refine rd_if (fun c2 => ?_) (fun c2 => ?_)
    all_goals walk_at "rdm"
    all_goals refine rd_prime (by walk_at "hp") (by omega) (by omega) (fun p1 p1a p1b => ?_)
    all_goals walk_at "rdm"
    all_goals refine rd_prime (by walk_at "hp") (by omega) (by omega) (fun p2 p2a p2b => ?_)
    all_goals walk_at "rdm"
    all_goals intro p np
    all_goals exact q _ _ ((same_new nt).free np) ((same_new nt).trans (same_new np)) ⟨_, _, upd_same⟩
def sp__law_take (K : PySem.W.Frag) : Sp := fun vs H Q _ => ∃ (b : Addr) (n : Int), vs = [.ref b, .int n] ∧ Bag b H ∧ 0 < n ∧ n.natAbs < 2 ^ 400 ∧ ∀ (r : Int) J, 0 ≤ r → r < n → Kp b H J → Bag b J → Q (.int r) J
theorem ar__law_take (K : PySem.W.Frag) : ∀ vs H Q E, sp__law_take K vs H Q E → vs.length = 2 := by
  intro vs H Q E h
  obtain ⟨b, n, rfl, _⟩ := h
  rfl
abbrev N__law_take : List Str := ["_law_bag_here", "_law_size", "_law_digit"]
theorem sc__law_take : FnScope N__law_take ["_law_bag_here", "_law_size"] (defScope S__law_take) := ⟨rfl, rfl, rfl, by decide +kernel, rfl, by decide +kernel, by decide +kernel⟩
theorem ok__law_take {P : Program} {w : World} {K : PySem.W.Frag} {mg : Str → Option Value} {base : Heap} {f : Addr} {fd : FuncData} (F : Fun K "_law_take" "_law_take" S__law_take f fd) :
    FnG P w K mg base CX0 1 f fd ["_law_bag_here", "_law_size"] (sp__law_take K) := by
  refine Fun_okG F sc__law_take (ar__law_take K) (fun cdv A outer s H vs Q E hg hr h => ?_)
  obtain ⟨b, n, rfl, ⟨x, y, hb⟩, n0, n1, q⟩ := h
  refine ⟨_, (pss_cons (ps_if (pt_cmpR op_gt (pe_ix (ixK (K := K) rfl) (pv 0) pe_int (fun _ _ => rfl)) pe_int (nomark _)) (pss_cons (ps_set (i := 2) sc__law_take.nd rfl (Or.inl rfl) (pe_op op_modN (pe_ix (ixK (K := K) rfl) (pv 0) pe_int (fun _ _ => rfl)) (pv 1)))
    (pss_cons (ps_asg (pe_op op_dv (pe_ix (ixK (K := K) rfl) (pv 0) pe_int (fun _ _ => rfl)) (pv 1)) (pg_sub (pv 0) pe_int set_list))
    (pss_one (ps_ret (pv 2))))) pss_nil)
    (pss_cons (ps_asg (pe_op op_modN (pe_op op_ml (pe_ix (ixK (K := K) rfl) (pv 0) pe_int (fun _ _ => rfl)) pe_int) pe_int) (pg_sub (pv 0) pe_int set_list))
    (pss_one (ps_ret (pe_op op_modN (pe_op op_dv (pe_op op_modN (pe_op op_ml (pe_ix (ixK (K := K) rfl) (pv 0) pe_int (fun _ _ => rfl)) pe_int) pe_int) (pe_op op_pow pe_int pe_int)) (pv 1)))))), ?_⟩
  walk_at "rd"
  refine rd_if (fun c => ?_) (fun c => ?_)
  · walk_at "rd"
    exact q _ _ (fmod_rng n0).1 (fmod_rng n0).2 Kp.at ⟨_, _, upd_same⟩
  · walk_at "rd"
    exact q _ _ (fmod_rng n0).1 (fmod_rng n0).2 Kp.at ⟨_, _, upd_same⟩
def sp__law_part (K : PySem.W.Frag) : Sp := fun vs H Q _ => ∃ m n : Int, vs = [.int m, .int n] ∧ Q (.int (Int.gcd m n)) H
theorem ar__law_part (K : PySem.W.Frag) : ∀ vs H Q E, sp__law_part K vs H Q E → vs.length = 2 := by
  intro vs H Q E h
  obtain ⟨b, n, rfl, _⟩ := h
  rfl
abbrev N__law_part : List Str := ["_law_one", "_law_other"]
theorem sc__law_part : FnScope N__law_part ["_law_one", "_law_other"] (defScope S__law_part) := ⟨rfl, rfl, rfl, by decide +kernel, rfl, by decide +kernel, by decide +kernel⟩
theorem ok__law_part {P : Program} {w : World} {K : PySem.W.Frag} {mg : Str → Option Value} {base : Heap} {f : Addr} {fd : FuncData} (F : Fun K "_law_part" "_law_part" S__law_part f fd) (m_abs : mg "abs" = none) :
    FnG P w K mg base CX0 1 f fd ["_law_one", "_law_other"] (sp__law_part K) := by
  refine Fun_okG F sc__law_part (ar__law_part K) (fun cdv A outer s H vs Q E hg hr h => ?_)
  obtain ⟨m, n, rfl, q⟩ := h
  refine ⟨_, (pss_cons (ps_while PassesOwn.never (pt_cmpR op_ne (pv 1) pe_int (nomark _)) (pss_one (ps_par (i := 0) (j := 1) rfl sc__law_part.nd rfl rfl (by decide) rfl rfl (pa_cons (pv 1) (pa_cons (pe_op op_modN (pv 0) (pv 1)) pa_nil)) (by rfl))))
    (pss_one (ps_ret (pe_callB (id := "abs") call_abs (by rfl) m_abs (by decide +kernel) (pa_cons (pv 0) pa_nil))))), ?_⟩
  walk_at "rd"
  refine while_by (fun σ' H' => ∃ x y : Int, σ' = [some (.int x), some (.int y)] ∧ H' = H ∧ Int.gcd x y = Int.gcd m n) (fun σ' _ => msr σ') ⟨m, n, rfl, rfl, rfl⟩ (fun σ' H' w => ?_) fun σ' H' R R' f h => ?_
  · obtain ⟨x, y, rfl, rfl, e⟩ := w
    walk_at "rd"
    refine rd_ifn (fun c => ?_) (fun c => ?_)
    · walk_at "rd"
      exact ⟨⟨_, _, rfl, rfl, by rw [gcd_turn]; exact e⟩, fmod_abs c⟩
    · subst c
      walk_at "rd"
      have e2 : (if x < 0 then -x else x) = ((Int.gcd m n : Nat) : Int) := by
        rw [← e, Int.gcd_zero_right]
        split <;> omega
      rw [e2]
      exact q
  · obtain ⟨v, h1, h2, k, h3, h4⟩ := h
    exact ⟨v, h1, h2, k, h3, f _ _ h4⟩

def sp__law_lowest (K : PySem.W.Frag) : Sp := fun vs H Q _ => ∃ t u : Int, vs = [.int t, .int u] ∧ u ≠ 0 ∧ Bd 8000 u ∧ ∀ x y p J, IsLow t u x y → H p = none → Same H J → J p = some (.tup [.int x, .int y]) → Q (.ref p) J
theorem ar__law_lowest (K : PySem.W.Frag) : ∀ vs H Q E, sp__law_lowest K vs H Q E → vs.length = 2 := by
  intro vs H Q E h
  obtain ⟨b, n, rfl, _⟩ := h
  rfl
abbrev N__law_lowest : List Str := ["_law_top", "_law_under", "_law_part_here"]
theorem sc__law_lowest : FnScope N__law_lowest ["_law_top", "_law_under"] (defScope S__law_lowest) := ⟨rfl, rfl, rfl, by decide +kernel, rfl, by decide +kernel, by decide +kernel⟩
theorem ok__law_lowest {P : Program} {w : World} {K : PySem.W.Frag} {mg : Str → Option Value} {base : Heap} {f : Addr} {fd : FuncData} (F : Fun K "_law_lowest" "_law_lowest" S__law_lowest f fd) {f__law_part : Addr} {fd__law_part : FuncData} (C__law_part : Cal P w K mg base "_law_part" 1 f__law_part fd__law_part ["_law_one", "_law_other"] (sp__law_part K)) :
    FnG P w K mg base CX0 2 f fd ["_law_top", "_law_under"] (sp__law_lowest K) := by
  refine Fun_okG F sc__law_lowest (ar__law_lowest K) (fun cdv A outer s H vs Q E hg hr h => ?_)
  obtain ⟨t, u, rfl, u0, hu, q⟩ := h
  refine ⟨_, (pss_cons (ps_set (i := 2) sc__law_lowest.nd rfl (Or.inl rfl) (pe_c C__law_part hg (hr.mono (by decide)) rfl (pa_cons (pv 0) (pa_cons (pv 1) pa_nil))))
    (pss_cons (ps_if (pt_cmpR op_lt (pv 1) pe_int (nomark _)) (pss_one (ps_set (i := 2) sc__law_lowest.nd rfl (Or.inl rfl) (pe_un un_neg (pv 2)))) pss_nil)
    (pss_one (ps_ret (pe_tup (pa_cons (pe_op op_dv (pv 0) (pv 2)) (pa_cons (pe_op op_dv (pv 1) (pv 2)) pa_nil))))))), ?_⟩
  walk_at "rd"
  refine ⟨t, u, rfl, ?_⟩
  walk_at "rd"
  refine rd_if (fun c => ?_) (fun c => ?_)
  · walk_at "rd"
    obtain ⟨h1, h2, h3⟩ := low_at (t := t) u0 (s := -((Int.gcd t u : Nat) : Int)) (by rw [if_pos c])
    refine rd_I (rd_dvB _ h2 (hu.le h3)) ?_
    walk_at "rd"
    refine rd_I (rd_dvB _ h2 (hu.le h3)) ?_
    walk_at "rd"
    intro p np
    exact q _ _ _ _ h1 np (same_new np) upd_same
  · walk_at "rd"
    obtain ⟨h1, h2, h3⟩ := low_at (t := t) u0 (s := ((Int.gcd t u : Nat) : Int)) (by rw [if_neg c])
    refine rd_I (rd_dvB _ h2 (hu.le h3)) ?_
    walk_at "rd"
    refine rd_I (rd_dvB _ h2 (hu.le h3)) ?_
    walk_at "rd"
    intro p np
    exact q _ _ _ _ h1 np (same_new np) upd_same

local macro_rules | `(tactic| walk_at "hp_6") => `(tactic| (first
  | assumption
  | exact L2.upd_same
  | (with_reducible exact TupC.sq (by assumption) _)
  | ((with_reducible refine SqT.of ?h); (case h => walk_at "hp_6"))
  | ((with_reducible refine sqt_same (H := ?hh) ?k ?h); (case k => assumption); (case h => walk_at "hp_6"))
  | ((with_reducible refine sqt_bag (b := ?bb) (H := ?hh) ?k ?g ?h); (case k => assumption); (case g => walk_at "hp_6"); (case h => walk_at "hp_6"))
  | ((with_reducible refine sqt_pu (l := ?ll) (H := ?hh) ?k ?h); (case k => assumption); (case h => walk_at "hp_6"))
  | ((with_reducible refine sqt_new ?k ?h); (case k => assumption); (case h => walk_at "hp_6"))
  | ((with_reducible refine SqL.of ?h); (case h => walk_at "hp_6"))
  | ((with_reducible refine Scr.sq ?h); (case h => walk_at "hp_6"))
  | ((with_reducible refine Bag.new ?h ?k); (case h => walk_at "hp_6"); (case k => assumption))
  | ((with_reducible refine Scr.new ?k ?h); (case k => assumption); (case h => walk_at "hp_6"))
  | ((with_reducible refine Scr.kp (b := ?bb) (H := ?hh) ?k ?g ?h); (case k => assumption); (case g => walk_at "hp_6"); (case h => walk_at "hp_6"))
  | ((with_reducible refine Bag.same (H := ?hh) ?k ?h); (case k => assumption); (case h => walk_at "hp_6"))
  | ((with_reducible refine Scr.same (H := ?hh) ?k ?h); (case k => assumption); (case h => walk_at "hp_6"))
  | ((with_reducible refine same_any (H := ?hh) ?k ?h); (case k => assumption); (case h => walk_at "hp_6"))
  | ((with_reducible refine new_any ?k ?h); (case k => assumption); (case h => walk_at "hp_6"))
  | ((with_reducible refine set_tup (ys := ?ys) ?k ?h); (case k => assumption); (case h => walk_at "hp_6"))
  | ((with_reducible refine Bag.put ?k ?h); (case k => assumption); (case h => walk_at "hp_6"))
  | ((with_reducible refine Kp.tup (b := ?bb) (H := ?hh) ?k ?g ?h); (case k => assumption); (case g => walk_at "hp_6"); (case h => walk_at "hp_6"))
  | ((with_reducible refine Pu.bag (l := ?ll) (H := ?hh) ?k ?n ?h); (case k => assumption); (case n => walk_at "hp_6"); (case h => walk_at "hp_6"))
  | ((with_reducible refine Pu.scr (l := ?ll) (H := ?hh) ?k ?h); (case k => assumption); (case h => walk_at "hp_6"))
  | ((with_reducible refine Pu.tup (l := ?ll) (H := ?hh) ?k ?h); (case k => assumption); (case h => walk_at "hp_6"))
  | ((with_reducible refine Pu.lst (l := ?ll) (H := ?hh) ?k ?n ?h); (case k => assumption); (case n => walk_at "hp_6"); (case h => walk_at "hp_6"))
  | ((with_reducible refine Kp.lst (b := ?bb) (H := ?hh) ?k ?g ?h); (case k => assumption); (case g => walk_at "hp_6"); (case h => walk_at "hp_6"))
  | ((with_reducible refine Bag.off (H := ?hh) ?h ?g); (case h => assumption); (case g => walk_at "hp_6"))
  | (with_reducible exact Kp.refl)
  | (with_reducible exact Kp.new (by assumption))))
local macro_rules | `(tactic| walk_at "dp_6") => `(tactic| (first
  | exact Dp.int _
  | exact Dp.bl _
  | exact Dp.non
  | exact Dp.str _
  | exact DpAll.nil
  | ((refine DpAll.cons (d := ?d) (ds := ?ds) ?h ?k); (case h => walk_at "dp_6"); (case k => walk_at "dp_6"))
  | ((refine Dp.lst (xs := ?xs) (ds := ?ds) ?h ?k); (case h => walk_at "hp_6"); (case k => walk_at "dp_6"))
  | ((refine Dp.tup (xs := ?xs) (ds := ?ds) ?h ?k); (case h => walk_at "hp_6"); (case k => walk_at "dp_6"))))
local macro_rules | `(tactic| walk_at "small_6") => `(tactic| first | decide +kernel | (simp only [sm, sms, sz, szs, Bool.and_true, Bool.and_eq_true, decide_eq_true_eq, and_true, true_and]; (first | done | omega | (repeat' constructor) <;> first | omega | decide +kernel)))
local macro_rules | `(tactic| walk_at "side_6") => `(tactic| (first
  | ((with_reducible show IntMulOk _ _); first | exact rd_mulB (by assumption) (by assumption) | (refine rd_mulok ?_; omega))
  | ((with_reducible show CDv _ _); exact rd_dvB _ (Int.ne_of_gt (by assumption)) (by assumption))
  | ((with_reducible show CDv _ _); refine rd_dvI _ ?_ ?_ <;> first | assumption | omega | decide)
  | ((with_reducible show CPow _ _); exact ⟨by decide, by decide, by first | decide | omega⟩)
  | omega
  | assumption
  | decide
  | (refine rd_mulB (m := 400) (n := 400) (Bd.lit ?_) (Bd.lit ?_) <;> decide +kernel)))
local macro_rules | `(tactic| walk_at "rd1_6") => `(tactic| (first
  | ((with_reducible refine rd_var (v := ?v) ?h ?_); (case h => exact rfl))
  | (with_reducible refine rd_c ?_)
  | (with_reducible refine rd_op ?_)
  | (with_reducible refine rd_cons ?_)
  | (with_reducible refine rd_nil ?_)
  | ((with_reducible refine rd_sxT (xs := ?xs) (v := ?v) ?h ?a ?_); (case h => walk_at "hp_6"); (case a => exact rfl))
  | ((with_reducible refine rd_sxL (xs := ?xs) (v := ?v) ?h ?a ?_); (case h => walk_at "hp_6"); (case a => exact rfl))
  | (with_reducible refine rd_I0 ?_)
  | ((with_reducible refine rd_I ?c ?_); (case c => walk_at "side_6"))
  | ((with_reducible refine rd_name (τ := ?t) ?e ?_); (case e => exact rfl))
  | (with_reducible refine rd_seq ?_)
  | (with_reducible refine rd_asg ?_)
  | (with_reducible refine rd_asg2 ?_)
  | ((with_reducible refine rd_aug (a := ?a) ?h ?_); (case h => exact rfl))
  | ((with_reducible refine rd_ipI (a := ?a) (b := ?b) ?_))
  | (with_reducible refine rd_call ?_)
  | (with_reducible refine rd_callK ?_)
  | ((with_reducible refine rd_kwl ?h ?_); (case h => exact rfl))
  | (with_reducible refine rd_CB ?_)
  | (with_reducible refine rd_tupK ?_)
  | ((with_reducible refine rd_kT ?h ?_); (case h => exact rfl); intro p J np sJ eJ)
  | ((with_reducible refine rd_new ?h ?_); (case h => exact rfl))
  | (with_reducible refine rd_test ?_)
  | (with_reducible refine rd_bl ?_)
  | (with_reducible refine rd_U ?_)
  | (with_reducible refine rd_un ?_)
  | (with_reducible refine rd_neI ?_)
  | (with_reducible refine rd_eqI ?_)
  | (with_reducible refine rd_tpar ?_)
  | (with_reducible refine rd_tpar3 ?_)
  | (with_reducible refine rd_forL ?_)
  | ((with_reducible refine rd_par3 (τ := ?t) ?e ?_); (case e => exact rfl))
  | (with_reducible refine rd_sl ?_)
  | (with_reducible refine rd_part ?_)
  | (with_reducible refine rd_partI ?_)
  | (with_reducible refine rd_nopart ?_)
  | ((with_reducible refine rd_slL (xs := ?xs) (ys := ?ys) ?h ?e ?_); (case h => walk_at "hp_6"); (case e => exact rfl); intro p J np sJ eJ)
  | (with_reducible refine rd_zip ?_)
  | ((with_reducible refine rd_zipA (xs := ?xs) (ys := ?ys) ?h ?k ?_); (case h => walk_at "hp_6"); (case k => walk_at "hp_6"))
  | ((with_reducible refine rd_isiQ (b := true) (xs := ?xs) ?h ?a ?_); (case a => decide +kernel); (case h => walk_at "hp_6"))
  | ((with_reducible refine rd_isiQ (b := false) (xs := ?xs) ?h ?a ?_); (case a => decide +kernel); (case h => walk_at "hp_6"))
  | (with_reducible refine rd_lc ?_)
  | (with_reducible refine rd_iTup ?_)
  | (with_reducible refine rd_iLst ?_)
  | (with_reducible refine rd_iR1 ?_)
  | (with_reducible refine rd_BM ?_)
  | ((with_reducible refine rd_iTupA (xs := ?xs) ?h ?_); (case h => walk_at "hp_6"))
  | ((with_reducible refine rd_iLstA (xs := ?xs) ?h ?_); (case h => walk_at "hp_6"))
  | ((with_reducible refine rd_tyl (xs := ?xs) ?h ?_); (case h => walk_at "hp_6"))
  | ((with_reducible refine rd_appK (xs := ?xs) ?h ?a ?_); (case h => walk_at "hp_6"); (case a => exact Nat.le_of_ble_eq_true rfl); intro J pJ eJ)
  | ((with_reducible refine rd_catK (xs := ?xs) (zs := ?zs) ?h ?k ?a ?_); (case h => walk_at "hp_6"); (case k => walk_at "hp_6"); (case a => exact Nat.le_of_ble_eq_true rfl); intro p J np sJ eJ)
  | ((with_reducible refine rd_repK (xs := ?xs) (ys := ?ys) ?h ?a ?b ?c ?_); (case h => walk_at "hp_6"); (case a => decide); (case b => exact Nat.le_of_ble_eq_true rfl); (case c => exact rfl); intro p J np sJ eJ)
  | (with_reducible refine rd_ret ?_)
  | (with_reducible refine rd_next ?_)
  | (with_reducible refine rd_drop ?_)
  | (with_reducible refine rd_ifS ?_)
  | (with_reducible refine rd_B ?_)
  | (with_reducible refine rd_not ?_)
  | (with_reducible refine rd_and ?_)
  | (with_reducible refine rd_or ?_)
  | (with_reducible refine rd_andV ?_)
  | (with_reducible refine rd_orV ?_)
  | (with_reducible refine rd_notV ?_)
  | (with_reducible refine rd_ifE ?_)
  | (with_reducible refine rd_lstK ?_)
  | ((with_reducible refine rd_kL ?h ?_); (case h => exact rfl); intro p J np sJ eJ)
  | ((with_reducible refine rd_for1b ?h ?_); (case h => constructor <;> (repeat' split) <;> omega))
  | (with_reducible refine rd_one ?_)
  | (with_reducible refine rd_two ?_)
  | (with_reducible refine rd_int ?_)
  | (with_reducible refine rd_intB ?_)
  | (with_reducible refine rd_gcd ?_)
  | ((with_reducible refine rd_par (τ := ?t) ?e ?_); (case e => exact rfl))
  | (with_reducible refine rd_sub ?_)
  | (with_reducible refine rd_for1 ?_)
  | ((with_reducible refine rd_len (ys := ?ys) ?h ?_); (case h => walk_at "hp_6"))
  | ((with_reducible refine rd_lenTu (ys := ?ys) ?h ?_); (case h => walk_at "hp_6"))
  | ((with_reducible refine rd_repr (d := ?d) ?h ?a ?b ?c ?_); (case h => walk_at "dp_6"); (case a => walk_at "small_6"); (case b => walk_at "small_6"); (case c => simp only [PyData.depth, PyData.depthAll]; omega))
  | ((with_reducible refine rd_nsame ?h ?_); (case h => exact rfl))
  | ((with_reducible refine rd_same ?h ?_); (case h => exact rfl))
  | ((with_reducible refine rd_gtup (xs := ?xs) ?h ?a ?_); (case h => walk_at "hp_6"); (case a => exact rfl))
  | (with_reducible refine rd_gcons ?_)
  | (with_reducible refine rd_gnil ?_)
  | ((with_reducible refine rd_isiI (b := true) ?a ?_); (case a => decide +kernel))
  | ((with_reducible refine rd_isiI (b := false) ?a ?_); (case a => decide +kernel))
  | ((with_reducible refine rd_isiB (b := true) ?a ?_); (case a => decide +kernel))
  | ((with_reducible refine rd_isiB (b := false) ?a ?_); (case a => decide +kernel))
  | ((with_reducible refine rd_isiN (b := true) ?a ?_); (case a => decide +kernel))
  | ((with_reducible refine rd_isiN (b := false) ?a ?_); (case a => decide +kernel))
  | ((with_reducible refine rd_isiS (b := true) ?a ?_); (case a => decide +kernel))
  | ((with_reducible refine rd_isiS (b := false) ?a ?_); (case a => decide +kernel))
  | ((with_reducible refine rd_isiT (b := true) (xs := ?xs) ?h ?a ?_); (case a => decide +kernel); (case h => walk_at "hp_6"))
  | ((with_reducible refine rd_isiT (b := false) (xs := ?xs) ?h ?a ?_); (case a => decide +kernel); (case h => walk_at "hp_6"))
  | ((with_reducible refine rd_isiL (b := true) (xs := ?xs) ?h ?a ?_); (case a => decide +kernel); (case h => walk_at "hp_6"))
  | ((with_reducible refine rd_isiL (b := false) (xs := ?xs) ?h ?a ?_); (case a => decide +kernel); (case h => walk_at "hp_6"))
  | ((with_reducible refine rd_isi (t := ?t) (b := true) ?h ?a ?_); (case h => assumption); (case a => decide +kernel))
  | ((with_reducible refine rd_isi (t := ?t) (b := false) ?h ?a ?_); (case h => assumption); (case a => decide +kernel))
  | (with_reducible refine rd_chain ?_)
  | ((with_reducible refine rd_eqR (x := ?x) (y := ?y) (u := ?u) (v := ?v) ?h ?k ?_); (case h => walk_at "hp_6"); (case k => walk_at "hp_6"))
  | ((with_reducible refine rd_eqDs (d := ?d) ?h ?k ?s ?_); (case h => walk_at "dp_6"); (case k => walk_at "dp_6"); (case s => first | rfl | decide | simp [SeqAt.shaped]))
  | ((with_reducible refine rd_neDs (d := ?d) ?h ?k ?s ?_); (case h => walk_at "dp_6"); (case k => walk_at "dp_6"); (case s => first | rfl | decide | simp [SeqAt.shaped]))
  | ((with_reducible refine rd_setL (xs := ?xs) (ys := ?ys) (j := ?j) ?h ?a ?e ?_); (case h => walk_at "hp_6"); (case a => exact rfl); (case e => exact rfl))))
local macro_rules | `(tactic| walk_at "rdm1_6") => `(tactic| (first
  | ((with_reducible refine rd_md ?c ?_); (case c => first | omega | decide); intro r r0 r1)
  | walk_at "rd1_6"))
local macro_rules | `(tactic| walk_at "rdm_6") => `(tactic| (repeat walk_at "rdm1_6"))
local macro_rules | `(tactic| walk_at "rd_6") => `(tactic| (repeat walk_at "rd1_6"))
local macro_rules | `(tactic| walk_at "kp_6") => `(tactic| (first
  | exact Kp.refl
  | assumption
  | ((refine Kp.trans (J := ?m) ?a ?b); (case b => first | assumption | exact Kp.of (by assumption)); (case a => walk_at "kp_6"))))

theorem zero_lit : Bd 1000 0 := Bd.lit (by decide +kernel)
theorem one_lit : Bd 1000 1 := Bd.lit (by decide +kernel)

/-! ### is_int, is_ratio -/
def IsTy (K : PySem.W.Frag) (H : Hp) (v : V) (t : String) : Prop := TyX K H v (.type t) ∧ (t = "NoneType" ∨ t = "bool" ∨ t = "int" ∨ t = "str" ∨ t = "list" ∨ t = "tuple")
def sp_is_int (K : PySem.W.Frag) : Sp := fun vs H Q _ => ∃ v t, vs = [v] ∧ IsTy K H v t ∧ Q (.bl (decide (t = "int"))) H
theorem ar_is_int (K : PySem.W.Frag) : ∀ vs H Q E, sp_is_int K vs H Q E → vs.length = 1 := by
  intro vs H Q E h
  obtain ⟨v, t, rfl, _⟩ := h
  rfl
abbrev N_is_int : List Str := ["thing"]
theorem sc_is_int : FnScope N_is_int ["thing"] (defScope S_is_int) := ⟨rfl, rfl, rfl, by decide +kernel, rfl, by decide +kernel, by decide +kernel⟩
theorem ok_is_int {P : Program} {w : World} {K : PySem.W.Frag} {mg : Str → Option Value} {base : Heap} {f : Addr} {fd : FuncData} (F : Fun K "is_int" "is_int" S_is_int f fd) (m_isinstance : mg "isinstance" = none) (m_bool : mg "bool" = none) (m_int : mg "int" = none) :
    FnG P w K mg base CX0 1 f fd ["thing"] (sp_is_int K) := by
  refine Fun_okG F sc_is_int (ar_is_int K) (fun cdv A outer s H vs Q E hg hr h => ?_)
  obtain ⟨v, t, rfl, ⟨ty, ht⟩, q⟩ := h
  refine ⟨_, (pss_one (ps_ret (pe_and (pe_callB (id := "isinstance") (isiK (K := K) rfl) (by rfl) m_isinstance (by decide +kernel) (pa_cons (pv 0) (pa_cons (pe_bltn (v := V.ty "int") (u := Value.type "int") (by rfl) m_int (by decide +kernel) rfl) pa_nil))) (pe_one (pe_not (pe_callB (id := "isinstance") (isiK (K := K) rfl) (by rfl) m_isinstance (by decide +kernel) (pa_cons (pv 0) (pa_cons (pe_bltn (v := V.ty "bool") (u := Value.type "bool") (by rfl) m_bool (by decide +kernel) rfl) pa_nil)))))))), ?_⟩
  rcases ht with rfl | rfl | rfl | rfl | rfl | rfl
  · walk_at "rd_6"
    refine iteF ?_
    exact q
  · walk_at "rd_6"
    refine iteT ?_
    walk_at "rd_6"
    exact q
  · walk_at "rd_6"
    refine iteT ?_
    walk_at "rd_6"
    exact q
  · walk_at "rd_6"
    refine iteF ?_
    exact q
  · walk_at "rd_6"
    refine iteF ?_
    exact q
  · walk_at "rd_6"
    refine iteF ?_
    exact q

def sp_lowest (K : PySem.W.Frag) : Sp := fun vs H Q _ => ∃ t u : Int, vs = [.int t, .int u] ∧ u ≠ 0 ∧ Bd 8000 u ∧ ∀ x y p J, IsLow t u x y → H p = none → Same H J → J p = some (.tup [.int x, .int y]) → Q (.ref p) J
theorem ar_lowest (K : PySem.W.Frag) : ∀ vs H Q E, sp_lowest K vs H Q E → vs.length = 2 := by
  intro vs H Q E h
  obtain ⟨b, n, rfl, _⟩ := h
  rfl
abbrev N_lowest : List Str := ["top", "under", "divisor"]
theorem sc_lowest : FnScope N_lowest ["top", "under"] (defScope S_lowest) := ⟨rfl, rfl, rfl, by decide +kernel, rfl, by decide +kernel, by decide +kernel⟩
theorem ok_lowest {P : Program} {w : World} {K : PySem.W.Frag} {mg : Str → Option Value} {base : Heap} {f : Addr} {fd : FuncData} (F : Fun K "lowest" "lowest" S_lowest f fd) (c_gcd : mg "gcd" = some (.builtin "math.gcd")) :
    FnG P w K mg base CX0 1 f fd ["top", "under"] (sp_lowest K) := by
  refine Fun_okG F sc_lowest (ar_lowest K) (fun cdv A outer s H vs Q E hg hr h => ?_)
  obtain ⟨t, u, rfl, u0, hu, q⟩ := h
  refine ⟨_, (pss_cons (ps_set (i := 2) sc_lowest.nd rfl (Or.inl rfl) (pe_ifExp (pt_cmpR op_gt (pv 1) pe_int (nomark _)) (pe_callBfun cr_gcd rfl c_gcd (pa_cons (pv 0) (pa_cons (pv 1) pa_nil))) (pe_un un_neg (pe_callBfun cr_gcd rfl c_gcd (pa_cons (pv 0) (pa_cons (pv 1) pa_nil))))))
    (pss_one (ps_ret (pe_tup (pa_cons (pe_op op_dv (pv 0) (pv 2)) (pa_cons (pe_op op_dv (pv 1) (pv 2)) pa_nil)))))), ?_⟩
  have eg : ((Nat.gcd t.natAbs u.natAbs : Nat) : Int) = ((Int.gcd t u : Nat) : Int) := rfl
  walk_at "rd_6"
  refine rd_if (fun c => ?_) (fun c => ?_)
  · walk_at "rd_6"
    rw [eg]
    obtain ⟨h1, h2, h3⟩ := low_at (t := t) u0 (s := ((Int.gcd t u : Nat) : Int)) (by rw [if_neg (by omega)])
    have hb := hu.le h3
    refine rd_I (rd_dvB _ h2 hb) ?_
    walk_at "rd_6"
    refine rd_I (rd_dvB _ h2 hb) ?_
    walk_at "rd_6"
    rename_i p J np sJ eJ
    exact q _ _ _ _ h1 np sJ eJ
  · walk_at "rd_6"
    rw [eg]
    obtain ⟨h1, h2, h3⟩ := low_at (t := t) u0 (s := -((Int.gcd t u : Nat) : Int)) (by rw [if_pos (by omega)])
    have hb := hu.le h3
    refine rd_I (rd_dvB _ h2 hb) ?_
    walk_at "rd_6"
    refine rd_I (rd_dvB _ h2 hb) ?_
    walk_at "rd_6"
    rename_i p J np sJ eJ
    exact q _ _ _ _ h1 np sJ eJ
def sp_plus (K : PySem.W.Frag) : Sp := fun vs H Q _ => ∃ (p q : Addr) (x y u v : Int), vs = [.ref p, .ref q] ∧ SqT K H p [.int x, .int y] ∧ SqT K H q [.int u, .int v] ∧ 0 < y ∧ 0 < v ∧ Bd 3000 x ∧ Bd 3000 y ∧ Bd 3000 u ∧ Bd 3000 v ∧
  ∀ m n z J, IsLow (x * v + u * y) (y * v) m n → H z = none → Same H J → J z = some (.tup [.int m, .int n]) → Q (.ref z) J
theorem ar_plus (K : PySem.W.Frag) : ∀ vs H Q E, sp_plus K vs H Q E → vs.length = 2 := by
  intro vs H Q E h
  obtain ⟨p, q, x, y, u, v, rfl, _⟩ := h
  rfl
abbrev N_plus : List Str := ["one", "other"]
theorem sc_plus : FnScope N_plus ["one", "other"] (defScope S_plus) := ⟨rfl, rfl, rfl, by decide +kernel, rfl, by decide +kernel, by decide +kernel⟩
theorem ok_plus {P : Program} {w : World} {K : PySem.W.Frag} {mg : Str → Option Value} {base : Heap} {f : Addr} {fd : FuncData} (F : Fun K "plus" "plus" S_plus f fd) {f_lowest : Addr} {fd_lowest : FuncData} (C_lowest : Cal P w K mg base "lowest" 1 f_lowest fd_lowest ["top", "under"] (sp_lowest K)) :
    FnG P w K mg base CX0 2 f fd ["one", "other"] (sp_plus K) := by
  refine Fun_okG F sc_plus (ar_plus K) (fun cdv A outer s H vs Q E hg hr h => ?_)
  obtain ⟨p, q, x, y, u, v, rfl, hp, hq, y0, v0, bx, by', bu, bv, k⟩ := h
  refine ⟨_, (pss_one (ps_ret (pe_c C_lowest hg (hr.mono (by decide)) rfl (pa_cons (pe_op op_add (pe_op op_ml (pe_ix (ixK (K := K) rfl) (pv 0) pe_int (fun _ _ => rfl)) (pe_ix (ixK (K := K) rfl) (pv 1) pe_int (fun _ _ => rfl))) (pe_op op_ml (pe_ix (ixK (K := K) rfl) (pv 1) pe_int (fun _ _ => rfl)) (pe_ix (ixK (K := K) rfl) (pv 0) pe_int (fun _ _ => rfl)))) (pa_cons (pe_op op_ml (pe_ix (ixK (K := K) rfl) (pv 0) pe_int (fun _ _ => rfl)) (pe_ix (ixK (K := K) rfl) (pv 1) pe_int (fun _ _ => rfl))) pa_nil))))), ?_⟩
  walk_at "rd_6"
  have h0 := Int.mul_pos y0 v0
  exact ⟨_, _, rfl, by omega, (by'.mul bv).mono (by decide), k⟩
def sp_minus (K : PySem.W.Frag) : Sp := fun vs H Q _ => ∃ (p q : Addr) (x y u v : Int), vs = [.ref p, .ref q] ∧ SqT K H p [.int x, .int y] ∧ SqT K H q [.int u, .int v] ∧ 0 < y ∧ 0 < v ∧ Bd 3000 x ∧ Bd 3000 y ∧ Bd 3000 u ∧ Bd 3000 v ∧
  ∀ m n z J, IsLow (x * v - u * y) (y * v) m n → H z = none → Same H J → J z = some (.tup [.int m, .int n]) → Q (.ref z) J
theorem ar_minus (K : PySem.W.Frag) : ∀ vs H Q E, sp_minus K vs H Q E → vs.length = 2 := by
  intro vs H Q E h
  obtain ⟨p, q, x, y, u, v, rfl, _⟩ := h
  rfl
abbrev N_minus : List Str := ["one", "other"]
theorem sc_minus : FnScope N_minus ["one", "other"] (defScope S_minus) := ⟨rfl, rfl, rfl, by decide +kernel, rfl, by decide +kernel, by decide +kernel⟩
theorem ok_minus {P : Program} {w : World} {K : PySem.W.Frag} {mg : Str → Option Value} {base : Heap} {f : Addr} {fd : FuncData} (F : Fun K "minus" "minus" S_minus f fd) {f_lowest : Addr} {fd_lowest : FuncData} (C_lowest : Cal P w K mg base "lowest" 1 f_lowest fd_lowest ["top", "under"] (sp_lowest K)) :
    FnG P w K mg base CX0 2 f fd ["one", "other"] (sp_minus K) := by
  refine Fun_okG F sc_minus (ar_minus K) (fun cdv A outer s H vs Q E hg hr h => ?_)
  obtain ⟨p, q, x, y, u, v, rfl, hp, hq, y0, v0, bx, by', bu, bv, k⟩ := h
  refine ⟨_, (pss_one (ps_ret (pe_c C_lowest hg (hr.mono (by decide)) rfl (pa_cons (pe_op op_sub (pe_op op_ml (pe_ix (ixK (K := K) rfl) (pv 0) pe_int (fun _ _ => rfl)) (pe_ix (ixK (K := K) rfl) (pv 1) pe_int (fun _ _ => rfl))) (pe_op op_ml (pe_ix (ixK (K := K) rfl) (pv 1) pe_int (fun _ _ => rfl)) (pe_ix (ixK (K := K) rfl) (pv 0) pe_int (fun _ _ => rfl)))) (pa_cons (pe_op op_ml (pe_ix (ixK (K := K) rfl) (pv 0) pe_int (fun _ _ => rfl)) (pe_ix (ixK (K := K) rfl) (pv 1) pe_int (fun _ _ => rfl))) pa_nil))))), ?_⟩
  walk_at "rd_6"
  have h0 := Int.mul_pos y0 v0
  exact ⟨_, _, rfl, by omega, (by'.mul bv).mono (by decide), k⟩

def sp_floor_of (K : PySem.W.Frag) : Sp := fun vs H Q _ => ∃ (p : Addr) (x y : Int), vs = [.ref p] ∧ H p = some (.tup [.int x, .int y]) ∧ 0 < y ∧ Bd 2000 y ∧ Q (.int (x.fdiv y)) H
theorem ar_floor_of (K : PySem.W.Frag) : ∀ vs H Q E, sp_floor_of K vs H Q E → vs.length = 1 := by
  intro vs H Q E h
  obtain ⟨p, x, y, rfl, _⟩ := h
  rfl
abbrev N_floor_of : List Str := ["ratio"]
theorem sc_floor_of : FnScope N_floor_of ["ratio"] (defScope S_floor_of) := ⟨rfl, rfl, rfl, by decide +kernel, rfl, by decide +kernel, by decide +kernel⟩
theorem ok_floor_of {P : Program} {w : World} {K : PySem.W.Frag} {mg : Str → Option Value} {base : Heap} {f : Addr} {fd : FuncData} (F : Fun K "floor_of" "floor_of" S_floor_of f fd) :
    FnG P w K mg base CX0 1 f fd ["ratio"] (sp_floor_of K) := by
  refine Fun_okG F sc_floor_of (ar_floor_of K) (fun cdv A outer s H vs Q E hg hr h => ?_)
  obtain ⟨p, x, y, rfl, hp, y0, by', q⟩ := h
  refine ⟨_, (pss_one (ps_ret (pe_op op_dv (pe_ix (ixK (K := K) rfl) (pv 0) pe_int (fun _ _ => rfl)) (pe_ix (ixK (K := K) rfl) (pv 0) pe_int (fun _ _ => rfl))))), ?_⟩
  walk_at "rd_6"
  exact q

def sp_is_less (K : PySem.W.Frag) : Sp := fun vs H Q _ => ∃ (p q : Addr) (x y u v : Int), vs = [.ref p, .ref q] ∧ SqT K H p [.int x, .int y] ∧ SqT K H q [.int u, .int v] ∧ Bd 1000 x ∧ Bd 1000 y ∧ Bd 1000 u ∧ Bd 1000 v ∧ Q (.bl (decide (x * v < u * y))) H
theorem ar_is_less (K : PySem.W.Frag) : ∀ vs H Q E, sp_is_less K vs H Q E → vs.length = 2 := by
  intro vs H Q E h
  obtain ⟨p, q, x, y, u, v, rfl, _⟩ := h
  rfl
abbrev N_is_less : List Str := ["one", "other"]
theorem sc_is_less : FnScope N_is_less ["one", "other"] (defScope S_is_less) := ⟨rfl, rfl, rfl, by decide +kernel, rfl, by decide +kernel, by decide +kernel⟩
theorem ok_is_less {P : Program} {w : World} {K : PySem.W.Frag} {mg : Str → Option Value} {base : Heap} {f : Addr} {fd : FuncData} (F : Fun K "is_less" "is_less" S_is_less f fd) :
    FnG P w K mg base CX0 1 f fd ["one", "other"] (sp_is_less K) := by
  refine Fun_okG F sc_is_less (ar_is_less K) (fun cdv A outer s H vs Q E hg hr h => ?_)
  obtain ⟨p, q, x, y, u, v, rfl, hp, hq, bx, by_, bu, bv, k⟩ := h
  refine ⟨_, (pss_one (ps_ret (pe_cmpR op_lt (pe_op op_ml (pe_ix (ixK (K := K) rfl) (pv 0) pe_int (fun _ _ => rfl)) (pe_ix (ixK (K := K) rfl) (pv 1) pe_int (fun _ _ => rfl))) (pe_op op_ml (pe_ix (ixK (K := K) rfl) (pv 1) pe_int (fun _ _ => rfl)) (pe_ix (ixK (K := K) rfl) (pv 0) pe_int (fun _ _ => rfl))) (nomark _)))), ?_⟩
  walk_at "rd_6"
  exact k

def sp_arc (K : PySem.W.Frag) : Sp := fun vs H Q _ => ∃ (p q : Addr) (x y u v : Int), vs = [.ref p, .ref q] ∧ Ra K H p x y ∧ Ra K H q u v ∧
  ∀ l J rs, H l = none → Same H J → J l = some (.lst rs) → SnsAt K J rs (arcD x y u v) → rs.length ≤ 2 → Q (.ref l) J
theorem ar_arc (K : PySem.W.Frag) : ∀ vs H Q E, sp_arc K vs H Q E → vs.length = 2 := by
  intro vs H Q E h
  obtain ⟨p, q, x, y, u, v, rfl, _⟩ := h
  rfl
abbrev N_arc : List Str := ["low", "high", "before"]
theorem sc_arc : FnScope N_arc ["low", "high"] (defScope S_arc) := ⟨rfl, rfl, rfl, by decide +kernel, rfl, by decide +kernel, by decide +kernel⟩
theorem ok_arc {P : Program} {w : World} {K : PySem.W.Frag} {mg : Str → Option Value} {base : Heap} {f : Addr} {fd : FuncData} (F : Fun K "arc" "arc" S_arc f fd) {f_is_less : Addr} {fd_is_less : FuncData} (C_is_less : Cal P w K mg base "is_less" 1 f_is_less fd_is_less ["one", "other"] (sp_is_less K)) {z_ONE : Addr} (c_ONE : TupC K mg "ONE" z_ONE [V.int 1, V.int 1]) {z_ZERO : Addr} (c_ZERO : TupC K mg "ZERO" z_ZERO [V.int 0, V.int 1]) :
    FnG P w K mg base CX0 2 f fd ["low", "high"] (sp_arc K) := by
  refine Fun_okG F sc_arc (ar_arc K) (fun cdv A outer s H vs Q E hg hr h => ?_)
  obtain ⟨p, q, x, y, u, v, rfl, hp, hq, k⟩ := h
  refine ⟨_, (pss_cons (ps_if (pt_cmpR (eqK (K := K) rfl (room_u hr)) (pv 0) (pv 1) (nomark _)) (pss_one (ps_ret (pe_lst pa_nil))) pss_nil)
    (pss_cons (ps_if (pt_val (pe_c C_is_less hg (hr.mono (by decide)) rfl (pa_cons (pv 0) (pa_cons (pv 1) pa_nil)))) (pss_one (ps_ret (pe_lst (pa_cons (pe_tup (pa_cons (pv 0) (pa_cons (pv 1) pa_nil))) pa_nil)))) pss_nil)
    (pss_cons (ps_set (i := 2) sc_arc.nd rfl (Or.inl rfl) (pe_ifExp (pt_cmpR (eqK (K := K) rfl (room_u hr)) (pv 1) (pe_glob (v := V.ref z_ZERO) (u := Value.ref z_ZERO) rfl c_ZERO.m rfl) (nomark _)) (pe_lst pa_nil) (pe_lst (pa_cons (pe_tup (pa_cons (pe_glob (v := V.ref z_ZERO) (u := Value.ref z_ZERO) rfl c_ZERO.m rfl) (pa_cons (pv 1) pa_nil))) pa_nil))))
    (pss_one (ps_ret (pe_op op_cat (pv 2) (pe_lst (pa_cons (pe_tup (pa_cons (pv 0) (pa_cons (pe_glob (v := V.ref z_ONE) (u := Value.ref z_ONE) rfl c_ONE.m rfl) pa_nil))) pa_nil)))))))), ?_⟩
  have sp := hp.sq
  have sq := hq.sq
  have r0 : ∀ M : Hp, Ra K M z_ZERO 0 1 := fun M => ⟨c_ZERO.sq M, by decide, by decide, zero_lit, one_lit⟩
  have r1 : ∀ M : Hp, Ra K M z_ONE 1 1 := fun M => ⟨c_ONE.sq M, by decide, by decide, one_lit, one_lit⟩
  walk_at "rd_6"
  refine rd_if (fun c => ?_) (fun c => ?_)
  · walk_at "rd_6"
    refine k _ _ _ (by assumption) (by assumption) (by assumption) ?_ (by decide)
    rw [show arcD x y u v = [] from if_pos c]
    exact .nil
  · walk_at "rd_6"
    refine ⟨p, q, x, y, u, v, rfl, sp, sq, hp.bx, hp.bu, hq.bx, hq.bu, ?_⟩
    walk_at "rd_6"
    refine rd_if (fun c2 => ?_) (fun c2 => ?_)
    · walk_at "rd_6"
      rename_i c1 J1 n1 s1 e1 l J n s' e
      have hs : Same H J := Same.trans s1 s'
      refine k l J _ (Same.free s1 n) hs e ?_ (Nat.le_of_ble_eq_true rfl)
      rw [show arcD x y u v = [⟨x, y, u, v⟩] from (if_neg c).trans (if_pos c2)]
      exact .cons ⟨c1, p, q, rfl, SqT.of (s' _ _ e1), hp.mono fun xs h => sqt_same hs h, hq.mono fun xs h => sqt_same hs h⟩ .nil
    · walk_at "rd_6"
      refine rd_if (fun c3 => ?_) (fun c3 => ?_)
      · walk_at "rd_6"
        rename_i p3 J3 n3 s3 e3 p2 J2 n2 s2 e2 p1 J1 n1 s1 e1 l J n s' e
        have h3 : Same H J1 := Same.trans s3 (Same.trans s2 s1)
        have hs : Same H J := Same.trans h3 s'
        refine k l J _ (Same.free h3 n) hs e ?_ (Nat.le_of_ble_eq_true rfl)
        rw [show arcD x y u v = [⟨x, y, 1, 1⟩] from (if_neg c).trans ((if_neg c2).trans (by rw [if_pos c3]; rfl))]
        exact .cons ⟨p2, p, z_ONE, rfl, SqT.of (s' _ _ (s1 _ _ e2)), hp.mono fun xs h => sqt_same hs h, r1 J⟩ .nil
      · walk_at "rd_6"
        rename_i p4 J4 n4 s4 e4 p3 J3 n3 s3 e3 p2 J2 n2 s2 e2 p1 J1 n1 s1 e1 l J n s' e
        have h3 : Same H J1 := Same.trans s4 (Same.trans s3 (Same.trans s2 s1))
        have hs : Same H J := Same.trans h3 s'
        refine k l J _ (Same.free h3 n) hs e ?_ (Nat.le_of_ble_eq_true rfl)
        rw [show arcD x y u v = [⟨0, 1, u, v⟩, ⟨x, y, 1, 1⟩] from (if_neg c).trans ((if_neg c2).trans (by rw [if_neg c3]; rfl))]
        exact .cons ⟨p4, z_ZERO, q, rfl, SqT.of (s' _ _ (s1 _ _ (s2 _ _ (s3 _ _ e4)))), r0 J, hq.mono fun xs h => sqt_same hs h⟩ (.cons ⟨p2, p, z_ONE, rfl, SqT.of (s' _ _ (s1 _ _ e2)), hp.mono fun xs h => sqt_same hs h, r1 J⟩ .nil)

def sp_both (K : PySem.W.Frag) : Sp := fun vs H Q _ => ∃ (a b : Addr) (rs zs : List V) (ss ts : List Sn), vs = [.ref a, .ref b] ∧ H a = some (.lst rs) ∧ H b = some (.lst zs) ∧ SnsAt K H rs ss ∧ SnsAt K H zs ts ∧ rs.length ≤ 300 ∧ zs.length ≤ 300 ∧
  ∀ l J ws, H l = none → Same H J → J l = some (.lst ws) → SnsAt K J ws (bothS ss ts) → ws.length ≤ rs.length + zs.length → Q (.ref l) J
theorem ar_both (K : PySem.W.Frag) : ∀ vs H Q E, sp_both K vs H Q E → vs.length = 2 := by
  intro vs H Q E h
  obtain ⟨a, b, rs, zs, ss, ts, rfl, _⟩ := h
  rfl
abbrev N_both : List Str := ["one", "other", "found", "at", "by", "low", "high", "other_low", "other_high", "start", "end"]
theorem sc_both : FnScope N_both ["one", "other"] (defScope S_both) := ⟨rfl, rfl, rfl, by decide +kernel, rfl, by decide +kernel, by decide +kernel⟩
theorem ok_both {P : Program} {w : World} {K : PySem.W.Frag} {mg : Str → Option Value} {base : Heap} {f : Addr} {fd : FuncData} (F : Fun K "both" "both" S_both f fd) {f_is_less : Addr} {fd_is_less : FuncData} (C_is_less : Cal P w K mg base "is_less" 1 f_is_less fd_is_less ["one", "other"] (sp_is_less K)) (m_len : mg "len" = none) :
    FnG P w K mg base CX0 2 f fd ["one", "other"] (sp_both K) := by
  refine Fun_okG F sc_both (ar_both K) (fun cdv A outer s H vs Q E hg hr h => ?_)
  obtain ⟨a, b, rs, zs, ss, ts, rfl, ha, hb, hs, ht, la, lb, q⟩ := h
  refine ⟨_, (pss_cons (ps_set (i := 2) sc_both.nd rfl (Or.inl rfl) (pe_lst pa_nil))
    (pss_cons (ps_asg2 pe_int (pg_name (i := 3) sc_both.nd rfl (Or.inl rfl)) (pg_name (i := 4) sc_both.nd rfl (Or.inl rfl)))
    (pss_cons (ps_while PassesOwn.never (PW.pt (pw_and (pt_cmpR op_lt (pv 3) (pe_callB (id := "len") (lenK (K := K) rfl) (by rfl) m_len (by decide +kernel) (pa_cons (pv 0) pa_nil)) (nomark _)) (pw_and1 (pt_cmpR op_lt (pv 4) (pe_callB (id := "len") (lenK (K := K) rfl) (by rfl) m_len (by decide +kernel) (pa_cons (pv 1) pa_nil)) (nomark _))))) (pss_cons (ps_asg (pe_ix (ixK (K := K) rfl) (pv 0) (pv 3) (fun _ _ => rfl)) (pg_tup rfl (pgs_cons (pg_name (i := 5) sc_both.nd rfl (Or.inl rfl)) (pgs_cons (pg_name (i := 6) sc_both.nd rfl (Or.inl rfl)) pgs_nil))))
    (pss_cons (ps_asg (pe_ix (ixK (K := K) rfl) (pv 1) (pv 4) (fun _ _ => rfl)) (pg_tup rfl (pgs_cons (pg_name (i := 7) sc_both.nd rfl (Or.inl rfl)) (pgs_cons (pg_name (i := 8) sc_both.nd rfl (Or.inl rfl)) pgs_nil))))
    (pss_cons (ps_set (i := 9) sc_both.nd rfl (Or.inl rfl) (pe_ifExp (pt_val (pe_c C_is_less hg (hr.mono (by decide)) rfl (pa_cons (pv 5) (pa_cons (pv 7) pa_nil)))) (pv 7) (pv 5)))
    (pss_cons (ps_if (pt_val (pe_c C_is_less hg (hr.mono (by decide)) rfl (pa_cons (pv 6) (pa_cons (pv 8) pa_nil)))) (pss_cons (ps_set (i := 10) sc_both.nd rfl (Or.inl rfl) (pv 6))
    (pss_one (ps_aug (i := 3) sc_both.nd rfl (.inl rfl) pe_int ip_add))) (pss_cons (ps_set (i := 10) sc_both.nd rfl (Or.inl rfl) (pv 8))
    (pss_one (ps_aug (i := 4) sc_both.nd rfl (.inl rfl) pe_int ip_add))))
    (pss_one (ps_if (pt_val (pe_c C_is_less hg (hr.mono (by decide)) rfl (pa_cons (pv 9) (pa_cons (pv 10) pa_nil)))) (pss_one (ps_expr (pe_bm PySem.F.plainAttrs_list PySem.F.slot_list_append PySem.F.type_list_append mt_append (pv 2) (pa_cons (pe_tup (pa_cons (pv 9) (pa_cons (pv 10) pa_nil))) pa_nil)))) pss_nil)))))))
    (pss_one (ps_ret (pv 2)))))), ?_⟩
  have ln := hs.len
  have lm := ht.len
  walk_at "rd_6"
  rename_i l J0 n0 s0 e0
  refine ⟨fun m σ' M => ∃ (i j : Nat) (acc : List V) (sa : List Sn) (o5 o6 o7 o8 o9 o10 : Option V), σ' = [some (.ref a), some (.ref b), some (.ref l), some (.int (i : Int)), some (.int (j : Int)), o5, o6, o7, o8, o9, o10] ∧ M l = some (.lst acc) ∧ Same H M ∧ SnsAt K M acc sa ∧ sa ++ bothS (ss.drop i) (ts.drop j) = bothS ss ts ∧ i ≤ rs.length ∧ j ≤ zs.length ∧ acc.length ≤ i + j ∧ m + i + j = rs.length + zs.length,
    ⟨rs.length + zs.length, 0, 0, [], [], none, none, none, none, none, none, rfl, e0, s0, .nil, rfl, Nat.zero_le _, Nat.zero_le _, Nat.le_refl _, rfl⟩, ?_⟩
  rintro m σ M ⟨i, j, acc, sa, o5, o6, o7, o8, o9, o10, rfl, hl, sM, hacc, inv, li, lj, lacc, em⟩
  have haM := sM _ _ ha
  have hbM := sM _ _ hb
  walk_at "rd_6"
  refine rd_if (fun ci => ?_) (fun ci => ?_)
  · walk_at "rd_6"
    refine rd_if (fun cj => ?_) (fun cj => ?_)
    · refine ⟨_, fun _ _ h => h, ?_⟩
      obtain ⟨r, hr⟩ : ∃ r, rs[i]? = some r := ⟨_, List.getElem?_eq_getElem (by omega)⟩
      obtain ⟨z, hz⟩ : ∃ z, zs[j]? = some z := ⟨_, List.getElem?_eq_getElem (by omega)⟩
      obtain ⟨s, es, sa1⟩ := hs.get hr
      obtain ⟨c, p1, p2, rfl, hc, h1, h2⟩ := sa1.mono (J := M) fun p xs h => sqt_same sM h
      obtain ⟨t, et, ta1⟩ := ht.get hz
      obtain ⟨d, p3, p4, rfl, hd, h3, h4⟩ := ta1.mono (J := M) fun p xs h => sqt_same sM h
      have s1 := h1.sq
      have s2 := h2.sq
      have s3 := h3.sq
      have s4 := h4.sq
      walk_at "rd_6"
      refine rd_sxL (SqL.of haM) (atI_nat hr) ?_
      walk_at "rd_6"
      refine rd_sxL (SqL.of hbM) (atI_nat hz) ?_
      walk_at "rd_6"
      refine ⟨p1, p3, s.x, s.y, t.x, t.y, rfl, s1, s3, h1.bx, h1.bu, h3.bx, h3.bu, ?_⟩
      walk_at "rd_6"
      refine rd_ifv (x := .ref p3) (y := .ref p1) rfl rfl fun ps e1 e2 => ?_
      obtain ⟨pt, rfl⟩ : ∃ pt, ps = .ref pt := by
        by_cases c : s.x * t.y < t.x * s.y
        · exact ⟨_, e1 c⟩
        · exact ⟨_, e2 c⟩
      have hpt : Ra K M pt (stS s t).1 (stS s t).2 := by
        by_cases c : s.x * t.y < t.x * s.y
        · have := e1 c
          cases this
          unfold stS
          rw [if_pos c]
          exact h3
        · have := e2 c
          cases this
          unfold stS
          rw [if_neg c]
          exact h1
      clear e1 e2
      generalize hst : stS s t = st at hpt
      have s5 := hpt.sq
      have di : ss.drop i = s :: ss.drop (i + 1) := by
        obtain ⟨w, rfl⟩ := List.getElem?_eq_some_iff.mp es
        exact List.drop_eq_getElem_cons w
      have dj : ts.drop j = t :: ts.drop (j + 1) := by
        obtain ⟨w, rfl⟩ := List.getElem?_eq_some_iff.mp et
        exact List.drop_eq_getElem_cons w
      rw [di, dj, bothS, hst] at inv
      walk_at "rd_6"
      refine ⟨p2, p4, s.u, s.v, t.u, t.v, rfl, s2, s4, h2.bx, h2.bu, h4.bx, h4.bu, ?_⟩
      walk_at "rd_6"
      refine rd_if (fun c3 => ?_) (fun c3 => ?_)
      · rw [if_pos c3, ← dj] at inv
        walk_at "rd_6"
        refine ⟨pt, p2, st.1, st.2, s.u, s.v, rfl, s5, s2, hpt.bx, hpt.bu, h2.bx, h2.bu, ?_⟩
        walk_at "rd_6"
        refine rd_if (fun c4 => ?_) (fun c4 => ?_)
        · unfold segS at inv
          rw [if_pos c4, ← List.append_assoc] at inv
          walk_at "rd_6"
          rename_i q0 J1 n1 s1' e1'
          refine rd_appK (s1' _ _ hl) (by omega) fun J4 p4' e4' => ?_
          walk_at "rd_6"
          have up : ∀ p xs, SqT K M p xs → SqT K J4 p xs := fun p xs h => sqt_pu p4' (sqt_same s1' h)
          exact ⟨m - 1, by omega, i + 1, j, _, _, _, _, _, _, _, _, rfl, e4', Same.pu (Same.trans sM s1') p4' n0, (hacc.mono up).snoc (s := ⟨st.1, st.2, s.u, s.v⟩) ⟨q0, pt, p2, rfl, sqt_pu p4' (SqT.of e1'), hpt.mono fun xs h => up _ xs h, h2.mono fun xs h => up _ xs h⟩, inv, by omega, lj, by rw [List.length_append, List.length_singleton]; omega, by omega⟩
        · unfold segS at inv
          rw [if_neg c4, List.nil_append] at inv
          walk_at "rd_6"
          exact ⟨m - 1, by omega, i + 1, j, _, _, _, _, _, _, _, _, rfl, hl, sM, hacc, inv, by omega, lj, by omega, by omega⟩
      · rw [if_neg c3, ← di] at inv
        walk_at "rd_6"
        refine ⟨pt, p4, st.1, st.2, t.u, t.v, rfl, s5, s4, hpt.bx, hpt.bu, h4.bx, h4.bu, ?_⟩
        walk_at "rd_6"
        refine rd_if (fun c4 => ?_) (fun c4 => ?_)
        · unfold segS at inv
          rw [if_pos c4, ← List.append_assoc] at inv
          walk_at "rd_6"
          rename_i q0 J1 n1 s1' e1'
          refine rd_appK (s1' _ _ hl) (by omega) fun J4 p4' e4' => ?_
          walk_at "rd_6"
          have up : ∀ p xs, SqT K M p xs → SqT K J4 p xs := fun p xs h => sqt_pu p4' (sqt_same s1' h)
          exact ⟨m - 1, by omega, i, j + 1, _, _, _, _, _, _, _, _, rfl, e4', Same.pu (Same.trans sM s1') p4' n0, (hacc.mono up).snoc (s := ⟨st.1, st.2, t.u, t.v⟩) ⟨q0, pt, p4, rfl, sqt_pu p4' (SqT.of e1'), hpt.mono fun xs h => up _ xs h, h4.mono fun xs h => up _ xs h⟩, inv, li, by omega, by rw [List.length_append, List.length_singleton]; omega, by omega⟩
        · unfold segS at inv
          rw [if_neg c4, List.nil_append] at inv
          walk_at "rd_6"
          exact ⟨m - 1, by omega, i, j + 1, _, _, _, _, _, _, _, _, rfl, hl, sM, hacc, inv, li, by omega, by omega, by omega⟩
    · have ej : j = zs.length := by omega
      rw [ej, lm, List.drop_length, bothS_nil', List.append_nil] at inv
      subst inv
      walk_at "rd_6"
      exact q l M _ n0 sM hl hacc (by omega)
  · have ei : i = rs.length := by omega
    rw [ei, ln, List.drop_length, bothS_nil, List.append_nil] at inv
    subst inv
    walk_at "rd_6"
    rw [if_neg Bool.false_ne_true]
    walk_at "rd_6"
    exact q l M _ n0 sM hl hacc (by omega)

def sp_is_day (K : PySem.W.Frag) : Sp := fun vs H Q _ => ∃ d : Int, vs = [.int d] ∧ 0 ≤ d ∧ d ≤ 10 ^ 30 ∧ Q (.bl true) H
theorem ar_is_day (K : PySem.W.Frag) : ∀ vs H Q E, sp_is_day K vs H Q E → vs.length = 1 := by
  intro vs H Q E h
  obtain ⟨d, rfl, _⟩ := h
  rfl
abbrev N_is_day : List Str := ["thing"]
theorem sc_is_day : FnScope N_is_day ["thing"] (defScope S_is_day) := ⟨rfl, rfl, rfl, by decide +kernel, rfl, by decide +kernel, by decide +kernel⟩
theorem ok_is_day {P : Program} {w : World} {K : PySem.W.Frag} {mg : Str → Option Value} {base : Heap} {f : Addr} {fd : FuncData} (F : Fun K "is_day" "is_day" S_is_day f fd) {f_is_int : Addr} {fd_is_int : FuncData} (C_is_int : Cal P w K mg base "is_int" 1 f_is_int fd_is_int ["thing"] (sp_is_int K)) {t_LAST_DAY : Nat} (c_LAST_DAY : mg "LAST_DAY" = some (.int 1000000000000000000000000000000 t_LAST_DAY)) :
    FnG P w K mg base CX0 2 f fd ["thing"] (sp_is_day K) := by
  refine Fun_okG F sc_is_day (ar_is_day K) (fun cdv A outer s H vs Q E hg hr h => ?_)
  obtain ⟨d, rfl, d0, d1, q⟩ := h
  refine ⟨_, (pss_one (ps_ret (pe_and (pe_c C_is_int hg (hr.mono (by decide)) rfl (pa_cons (pv 0) pa_nil)) (pe_one (pe_chain op_le op_le pe_int (pv 0) (pe_glob (v := V.int 1000000000000000000000000000000) rfl c_LAST_DAY ⟨_, rfl⟩)))))), ?_⟩
  walk_at "rd_6"
  refine ⟨.int d, "int", rfl, ⟨.base (.int d), by simp⟩, ?_⟩
  walk_at "rd_6"
  refine iteT ?_
  walk_at "rd_6"
  refine rd_if (fun c => ?_) (fun c => absurd d0 c)
  walk_at "rd_6"
  rw [decide_eq_true (by omega)]
  exact q
def sp__is_many (K : PySem.W.Frag) : Sp := fun vs H Q _ => ∃ n d : Int, vs = [.int n, .int d] ∧ 1 ≤ n ∧ n ≤ 10 ^ 30 - d ∧ Q (.bl true) H
theorem ar__is_many (K : PySem.W.Frag) : ∀ vs H Q E, sp__is_many K vs H Q E → vs.length = 2 := by
  intro vs H Q E h
  obtain ⟨n, d, rfl, _⟩ := h
  rfl
abbrev N__is_many : List Str := ["thing", "first"]
theorem sc__is_many : FnScope N__is_many ["thing", "first"] (defScope S__is_many) := ⟨rfl, rfl, rfl, by decide +kernel, rfl, by decide +kernel, by decide +kernel⟩
theorem ok__is_many {P : Program} {w : World} {K : PySem.W.Frag} {mg : Str → Option Value} {base : Heap} {f : Addr} {fd : FuncData} (F : Fun K "_is_many" "_is_many" S__is_many f fd) {f_is_int : Addr} {fd_is_int : FuncData} (C_is_int : Cal P w K mg base "is_int" 1 f_is_int fd_is_int ["thing"] (sp_is_int K)) {t_LAST_DAY : Nat} (c_LAST_DAY : mg "LAST_DAY" = some (.int 1000000000000000000000000000000 t_LAST_DAY)) :
    FnG P w K mg base CX0 2 f fd ["thing", "first"] (sp__is_many K) := by
  refine Fun_okG F sc__is_many (ar__is_many K) (fun cdv A outer s H vs Q E hg hr h => ?_)
  obtain ⟨n, d, rfl, d0, d1, q⟩ := h
  refine ⟨_, (pss_one (ps_ret (pe_and (pe_c C_is_int hg (hr.mono (by decide)) rfl (pa_cons (pv 0) pa_nil)) (pe_one (pe_chain op_le op_le pe_int (pv 0) (pe_op op_sub (pe_glob (v := V.int 1000000000000000000000000000000) rfl c_LAST_DAY ⟨_, rfl⟩) (pv 1))))))), ?_⟩
  walk_at "rd_6"
  refine ⟨.int n, "int", rfl, ⟨.base (.int n), by simp⟩, ?_⟩
  walk_at "rd_6"
  refine iteT ?_
  walk_at "rd_6"
  refine rd_if (fun c => ?_) (fun c => absurd d0 c)
  walk_at "rd_6"
  rw [decide_eq_true (by omega)]
  exact q
def sp_check_day (K : PySem.W.Frag) : Sp := fun vs H Q _ => ∃ d : Int, vs = [.int d] ∧ 0 ≤ d ∧ d ≤ 10 ^ 30 ∧ Q .non H
theorem ar_check_day (K : PySem.W.Frag) : ∀ vs H Q E, sp_check_day K vs H Q E → vs.length = 1 := by
  intro vs H Q E h
  obtain ⟨d, rfl, _⟩ := h
  rfl
abbrev N_check_day : List Str := ["thing"]
theorem sc_check_day : FnScope N_check_day ["thing"] (defScope S_check_day) := ⟨rfl, rfl, rfl, by decide +kernel, rfl, by decide +kernel, by decide +kernel⟩
theorem ok_check_day {P : Program} {w : World} {K : PySem.W.Frag} {mg : Str → Option Value} {base : Heap} {f : Addr} {fd : FuncData} (F : Fun K "check_day" "check_day" S_check_day f fd) {f_is_day : Addr} {fd_is_day : FuncData} (C_is_day : Cal P w K mg base "is_day" 2 f_is_day fd_is_day ["thing"] (sp_is_day K)) :
    FnG P w K mg base CX0 3 f fd ["thing"] (sp_check_day K) := by
  refine Fun_okG F sc_check_day (ar_check_day K) (fun cdv A outer s H vs Q E hg hr h => ?_)
  obtain ⟨d, rfl, d0, d1, q⟩ := h
  refine ⟨_, (pss_one (ps_if (pt_not (pt_val (pe_c C_is_day hg (hr.mono (by decide)) rfl (pa_cons (pv 0) pa_nil)))) (pss_one ps_dead) pss_nil)), ?_⟩
  walk_at "rd_6"
  refine ⟨d, rfl, d0, d1, ?_⟩
  walk_at "rd_6"
  refine iteF ?_
  walk_at "rd_6"
  exact q
def sp_is_stretch (K : PySem.W.Frag) : Sp := fun vs H Q _ => ∃ (p : Addr) (d n : Int), vs = [.ref p] ∧ SqT K H p [.int d, .int n] ∧ 0 ≤ d ∧ 1 ≤ n ∧ d + n ≤ 10 ^ 30 ∧ Q (.bl true) H
theorem ar_is_stretch (K : PySem.W.Frag) : ∀ vs H Q E, sp_is_stretch K vs H Q E → vs.length = 1 := by
  intro vs H Q E h
  obtain ⟨p, d, n, rfl, _⟩ := h
  rfl
abbrev N_is_stretch : List Str := ["thing", "first", "many"]
theorem sc_is_stretch : FnScope N_is_stretch ["thing"] (defScope S_is_stretch) := ⟨rfl, rfl, rfl, by decide +kernel, rfl, by decide +kernel, by decide +kernel⟩
theorem ok_is_stretch {P : Program} {w : World} {K : PySem.W.Frag} {mg : Str → Option Value} {base : Heap} {f : Addr} {fd : FuncData} (F : Fun K "is_stretch" "is_stretch" S_is_stretch f fd) {f__is_many : Addr} {fd__is_many : FuncData} (C__is_many : Cal P w K mg base "_is_many" 2 f__is_many fd__is_many ["thing", "first"] (sp__is_many K)) {f_is_day : Addr} {fd_is_day : FuncData} (C_is_day : Cal P w K mg base "is_day" 2 f_is_day fd_is_day ["thing"] (sp_is_day K)) (m_len : mg "len" = none) (m_isinstance : mg "isinstance" = none) (m_tuple : mg "tuple" = none) :
    FnG P w K mg base CX0 3 f fd ["thing"] (sp_is_stretch K) := by
  refine Fun_okG F sc_is_stretch (ar_is_stretch K) (fun cdv A outer s H vs Q E hg hr h => ?_)
  obtain ⟨p, d, n, rfl, hp, d0, n1, dn, q⟩ := h
  refine ⟨_, (pss_cons (ps_if (pt_not (PW.pt (pw_and (pt_val (pe_callB (id := "isinstance") (isiK (K := K) rfl) (by rfl) m_isinstance (by decide +kernel) (pa_cons (pv 0) (pa_cons (pe_bltn (v := V.ty "tuple") (u := Value.type "tuple") (by rfl) m_tuple (by decide +kernel) rfl) pa_nil)))) (pw_and1 (pt_cmpR op_eq (pe_callB (id := "len") (lenK (K := K) rfl) (by rfl) m_len (by decide +kernel) (pa_cons (pv 0) pa_nil)) pe_int (nomark _)))))) (pss_one (ps_ret pe_bl)) pss_nil)
    (pss_cons (ps_asg (pv 0) (pg_tup rfl (pgs_cons (pg_name (i := 1) sc_is_stretch.nd rfl (Or.inl rfl)) (pgs_cons (pg_name (i := 2) sc_is_stretch.nd rfl (Or.inl rfl)) pgs_nil))))
    (pss_one (ps_ret (pe_and (pe_c C_is_day hg (hr.mono (by decide)) rfl (pa_cons (pv 1) pa_nil)) (pe_one (pe_c C__is_many hg (hr.mono (by decide)) rfl (pa_cons (pv 2) (pa_cons (pv 1) pa_nil))))))))), ?_⟩
  walk_at "rd_6"
  refine iteT ?_
  walk_at "rd_6"
  refine iteF ?_
  walk_at "rd_6"
  refine ⟨d, rfl, d0, by omega, ?_⟩
  walk_at "rd_6"
  refine iteT ?_
  walk_at "rd_6"
  exact ⟨n, d, rfl, n1, by omega, q⟩
def sp_check_stretch (K : PySem.W.Frag) : Sp := fun vs H Q _ => ∃ (p : Addr) (d n : Int), vs = [.ref p] ∧ SqT K H p [.int d, .int n] ∧ 0 ≤ d ∧ 1 ≤ n ∧ d + n ≤ 10 ^ 30 ∧ Q .non H
theorem ar_check_stretch (K : PySem.W.Frag) : ∀ vs H Q E, sp_check_stretch K vs H Q E → vs.length = 1 := by
  intro vs H Q E h
  obtain ⟨p, d, n, rfl, _⟩ := h
  rfl
abbrev N_check_stretch : List Str := ["thing"]
theorem sc_check_stretch : FnScope N_check_stretch ["thing"] (defScope S_check_stretch) := ⟨rfl, rfl, rfl, by decide +kernel, rfl, by decide +kernel, by decide +kernel⟩
theorem ok_check_stretch {P : Program} {w : World} {K : PySem.W.Frag} {mg : Str → Option Value} {base : Heap} {f : Addr} {fd : FuncData} (F : Fun K "check_stretch" "check_stretch" S_check_stretch f fd) {f_is_stretch : Addr} {fd_is_stretch : FuncData} (C_is_stretch : Cal P w K mg base "is_stretch" 3 f_is_stretch fd_is_stretch ["thing"] (sp_is_stretch K)) :
    FnG P w K mg base CX0 4 f fd ["thing"] (sp_check_stretch K) := by
  refine Fun_okG F sc_check_stretch (ar_check_stretch K) (fun cdv A outer s H vs Q E hg hr h => ?_)
  obtain ⟨p, d, n, rfl, hp, d0, n1, dn, q⟩ := h
  refine ⟨_, (pss_one (ps_if (pt_not (pt_val (pe_c C_is_stretch hg (hr.mono (by decide)) rfl (pa_cons (pv 0) pa_nil)))) (pss_one ps_dead) pss_nil)), ?_⟩
  walk_at "rd_6"
  refine ⟨p, d, n, rfl, hp, d0, n1, dn, ?_⟩
  walk_at "rd_6"
  refine iteF ?_
  walk_at "rd_6"
  exact q

def sp_rest_of (K : PySem.W.Frag) : Sp := fun vs H Q _ => ∃ (p : Addr) (x y : Int), vs = [.ref p] ∧ SqT K H p [.int x, .int y] ∧ 0 < y ∧ ∀ z J, H z = none → Same H J → J z = some (.tup [.int (x.fmod y), .int y]) → Q (.ref z) J
theorem ar_rest_of (K : PySem.W.Frag) : ∀ vs H Q E, sp_rest_of K vs H Q E → vs.length = 1 := by
  intro vs H Q E h
  obtain ⟨p, x, y, rfl, _⟩ := h
  rfl
abbrev N_rest_of : List Str := ["ratio"]
theorem sc_rest_of : FnScope N_rest_of ["ratio"] (defScope S_rest_of) := ⟨rfl, rfl, rfl, by decide +kernel, rfl, by decide +kernel, by decide +kernel⟩
theorem ok_rest_of {P : Program} {w : World} {K : PySem.W.Frag} {mg : Str → Option Value} {base : Heap} {f : Addr} {fd : FuncData} (F : Fun K "rest_of" "rest_of" S_rest_of f fd) :
    FnG P w K mg base CX0 1 f fd ["ratio"] (sp_rest_of K) := by
  refine Fun_okG F sc_rest_of (ar_rest_of K) (fun cdv A outer s H vs Q E hg hr h => ?_)
  obtain ⟨p, x, y, rfl, hp, y0, q⟩ := h
  refine ⟨_, (pss_one (ps_ret (pe_tup (pa_cons (pe_op op_modN (pe_ix (ixK (K := K) rfl) (pv 0) pe_int (fun _ _ => rfl)) (pe_ix (ixK (K := K) rfl) (pv 0) pe_int (fun _ _ => rfl))) (pa_cons (pe_ix (ixK (K := K) rfl) (pv 0) pe_int (fun _ _ => rfl)) pa_nil))))), ?_⟩
  walk_at "rd_6"
  rename_i z J nz s e
  exact q z J nz s e
def sp__total (K : PySem.W.Frag) : Sp := fun vs H Q _ => ∃ (l : Addr) (rs : List V) (us : List Int) (G : Nat), vs = [.ref l] ∧ H l = some (.lst rs) ∧ FrsAt K H G rs us ∧ 0 < G ∧ G < 2 ^ 500 ∧ rs.length ≤ 100 ∧ (∀ u ∈ us, Bd 1500 u) ∧
  ∀ z m n J, IsLow us.sum (G : Int) m n → Same H J → SqT K J z [.int m, .int n] → Q (.ref z) J
theorem ar__total (K : PySem.W.Frag) : ∀ vs H Q E, sp__total K vs H Q E → vs.length = 1 := by
  intro vs H Q E h
  obtain ⟨l, rs, us, G, rfl, _⟩ := h
  rfl
abbrev N__total : List Str := ["ratios", "total", "ratio"]
theorem sc__total : FnScope N__total ["ratios"] (defScope S__total) := ⟨rfl, rfl, rfl, by decide +kernel, rfl, by decide +kernel, by decide +kernel⟩
theorem ok__total {P : Program} {w : World} {K : PySem.W.Frag} {mg : Str → Option Value} {base : Heap} {f : Addr} {fd : FuncData} (F : Fun K "_total" "_total" S__total f fd) {f_plus : Addr} {fd_plus : FuncData} (C_plus : Cal P w K mg base "plus" 2 f_plus fd_plus ["one", "other"] (sp_plus K)) {z_ZERO : Addr} (c_ZERO : TupC K mg "ZERO" z_ZERO [V.int 0, V.int 1]) :
    FnG P w K mg base CX0 3 f fd ["ratios"] (sp__total K) := by
  refine Fun_okG F sc__total (ar__total K) (fun cdv A outer s H vs Q E hg hr h => ?_)
  obtain ⟨l, rs, us, G, rfl, hl, hf, g0, g1, lr, hu, q⟩ := h
  refine ⟨_, (pss_cons (ps_set (i := 1) sc__total.nd rfl (Or.inl rfl) (pe_glob (v := V.ref z_ZERO) (u := Value.ref z_ZERO) rfl c_ZERO.m rfl))
    (pss_cons (ps_for PassesOwn.never rfl (piL (K := K) rfl (pv 0)) (pg_name (i := 2) sc__total.nd rfl (Or.inl rfl)) (pss_one (ps_set (i := 1) sc__total.nd rfl (Or.inl rfl) (pe_c C_plus hg (hr.mono (by decide)) rfl (pa_cons (pv 1) (pa_cons (pv 2) pa_nil))))))
    (pss_one (ps_ret (pv 1))))), ?_⟩
  have ln := hf.len
  walk_at "rd_6"
  refine lp_lst (xs := rs) (fun i σ' M => ∃ (z : Addr) (m n : Int) (o2 : Option V), σ' = [some (.ref l), some (.ref z), o2] ∧ SqT K M z [.int m, .int n] ∧ IsLow (us.take i).sum (G : Int) m n ∧ Same H M)
    ⟨z_ZERO, 0, 1, none, rfl, c_ZERO.sq H, by rw [List.take_zero]; exact low_zero g0, fun _ _ e => e⟩
    (fun i σ M _ w => ?_) (fun i r σ M hr w => ?_) (fun σ M w => ?_)
  · obtain ⟨z, m, n, o2, rfl, hz, lz, sM⟩ := w
    exact SqL.of (sM _ _ hl)
  · obtain ⟨z, m, n, o2, rfl, hz, lz, sM⟩ := w
    obtain ⟨p, x, y, u, rfl, eu, hp, y0, e, bx, bu⟩ := hf.get hr
    have il : i < rs.length := (List.getElem?_eq_some_iff.mp hr).1
    have hp := sqt_same sM hp
    have bs : Bd (7 + 1500) (us.take i).sum := bd_sums (m := 7) (fun x hx => hu x (List.mem_of_mem_take hx)) (by rw [List.length_take]; omega)
    have bm : Bd 1507 m := bs.le lz.2.2.2.1
    have bn : Bd 500 n := Nat.lt_of_le_of_lt lz.2.2.2.2 g1
    walk_at "rd_6"
    refine ⟨z, p, m, n, x, y, rfl, hz, hp, lz.1, y0, bm.mono (by decide), bn.mono (by decide), bx.mono (by decide), bu.mono (by decide), fun m2 n2 z2 J2 low2 nz2 sJ2 ez2 => ?_⟩
    have d2 := sum_form lz.2.2.1 e lz.1 y0 low2.2.2.1
    walk_at "rd_6"
    refine ⟨z2, m2, n2, _, rfl, SqT.of ez2, ?_, Same.trans sM sJ2⟩
    have ec : (us.take (i + 1)).sum = (us.take i).sum + u := by rw [take_succ_sum]; simp [List.getD, eu]
    rw [ec]
    exact low_of low2.1 low2.2.1 d2 (by omega)
  · obtain ⟨z, m, n, o2, rfl, hz, lz, sM⟩ := w
    rw [ln, List.take_length] at lz
    walk_at "rd_6"
    exact q z m n M lz sM hz

def sp__given_before (K : PySem.W.Frag) : Sp := fun vs H Q _ => ∃ (v : V) (e : Ent) (d G : Nat), vs = [v, .int (d : Int)] ∧ EntAt H v e ∧ Fits G e.am ∧ 0 < G ∧ G < 2 ^ 500 ∧ d ≤ 10 ^ 30 ∧
  ∀ z m n J, IsLow (bE G e d) (G : Int) m n → Same H J → SqT K J z [.int m, .int n] → Q (.ref z) J
theorem ar__given_before (K : PySem.W.Frag) : ∀ vs H Q E, sp__given_before K vs H Q E → vs.length = 2 := by
  intro vs H Q E h
  obtain ⟨v, e, d, G, rfl, _⟩ := h
  rfl
abbrev N__given_before : List Str := ["entry", "day", "_", "first", "many", "amounts", "rounds", "rest", "times", "at", "often", "top", "under"]
theorem sc__given_before : FnScope N__given_before ["entry", "day"] (defScope S__given_before) := ⟨rfl, rfl, rfl, by decide +kernel, rfl, by decide +kernel, by decide +kernel⟩
theorem ok__given_before {P : Program} {w : World} {K : PySem.W.Frag} {mg : Str → Option Value} {base : Heap} {f : Addr} {fd : FuncData} (F : Fun K "_given_before" "_given_before" S__given_before f fd) {f__total : Addr} {fd__total : FuncData} (C__total : Cal P w K mg base "_total" 3 f__total fd__total ["ratios"] (sp__total K)) (m_zip : mg "zip" = none) (m_range : mg "range" = none) (m_len : mg "len" = none) (m_divmod : mg "divmod" = none) (m_min : mg "min" = none) (m_max : mg "max" = none) :
    FnG P w K mg base CX0 4 f fd ["entry", "day"] (sp__given_before K) := by
  refine Fun_okG F sc__given_before (ar__given_before K) (fun cdv A outer s H vs Q E hg hr h => ?_)
  obtain ⟨v, e, d, G, rfl, ⟨p, a, rs, rfl, hp, ha, am, ne, l4, fm, m1⟩, fit, g0, g1, dd, q⟩ := h
  refine ⟨_, (pss_cons (ps_asg (pv 0) (pg_tup rfl (pgs_cons (pg_name (i := 2) sc__given_before.nd rfl (Or.inl rfl)) (pgs_cons (pg_name (i := 3) sc__given_before.nd rfl (Or.inl rfl)) (pgs_cons (pg_name (i := 4) sc__given_before.nd rfl (Or.inl rfl)) (pgs_cons (pg_name (i := 5) sc__given_before.nd rfl (Or.inl rfl)) pgs_nil))))))
    (pss_cons (ps_asg (pe_callB (id := "divmod") cr_dm (by rfl) m_divmod (by decide +kernel) (pa_cons (pe_callB (id := "min") (call_min2 rfl) (by rfl) m_min (by decide +kernel) (pa_cons (pe_callB (id := "max") (call_max2 rfl) (by rfl) m_max (by decide +kernel) (pa_cons (pe_op op_sub (pv 1) (pv 3)) (pa_cons pe_int pa_nil))) (pa_cons (pv 4) pa_nil))) (pa_cons (pe_callB (id := "len") (lenK (K := K) rfl) (by rfl) m_len (by decide +kernel) (pa_cons (pv 5) pa_nil)) pa_nil))) (pg_tup rfl (pgs_cons (pg_name (i := 6) sc__given_before.nd rfl (Or.inr rfl)) (pgs_cons (pg_name (i := 7) sc__given_before.nd rfl (Or.inr rfl)) pgs_nil))))
    (pss_cons (ps_setLc (i := 8) (own := [("at", 9)]) rfl sc__given_before.nd rfl rfl (sw_true rfl rfl rfl (by decide +kernel)) (pi_range1 rfl m_range (pa_cons (pe_callB (id := "len") (lenK (K := K) rfl) (by rfl) m_len (by decide +kernel) (pa_cons (pv 5) pa_nil)) pa_nil)) (blkOk_by (own := [("at", 9)]) (N := N__given_before) (sc := defScope S__given_before) (by decide +kernel)) (fun _ _ _ _ _ => (pg_name (i := 9) sc__given_before.nd rfl (Or.inl rfl))) (fun _ _ _ _ _ => pts_nil) (fun _ _ _ _ _ => (pe_ifExp (pt_cmpR op_lt (pv 9) (pv 7) (nomark _)) (pe_op op_add (pv 6) pe_int) (pv 6))))
    (pss_one (ps_ret (pe_c C__total hg (hr.mono (by decide)) rfl (pa_cons (pe_lc (own := [("often", 10), ("top", 11), ("under", 12)]) (g := (gTup K 2 (gCons (gName 10) (gCons (gTup K 2 (gCons (gName 11) (gCons (gName 12) gNil))) gNil)))) rfl sc__given_before.nd (piZM (K := K) rfl (by rfl) m_zip (pa_cons (pv 8) (pa_cons (pv 5) pa_nil))) (blkOk_by (own := [("often", 10), ("top", 11), ("under", 12)]) (N := N__given_before) (sc := defScope S__given_before) (by decide +kernel)) (fun _ _ _ _ _ => (pgT rfl rfl (pgs_cons (pg_name (i := 10) sc__given_before.nd rfl (Or.inl rfl)) (pgs_cons (pgT rfl rfl (pgs_cons (pg_name (i := 11) sc__given_before.nd rfl (Or.inl rfl)) (pgs_cons (pg_name (i := 12) sc__given_before.nd rfl (Or.inl rfl)) pgs_nil))) pgs_nil)))) (fun _ _ _ _ _ => pts_nil) (fun _ _ _ _ _ => (pe_tup (pa_cons (pe_op op_ml (pv 11) (pv 10)) (pa_cons (pv 12) pa_nil))))) pa_nil))))))), ?_⟩
  have ln := am.len
  have L0 : 0 < e.am.length := List.length_pos_iff.mpr ne
  walk_at "rd_6"
  have eN : (if (e.many : Int) < (if (0 : Int) > (d : Int) - (e.first : Int) then (0 : Int) else (d : Int) - (e.first : Int)) then (e.many : Int) else (if (0 : Int) > (d : Int) - (e.first : Int) then (0 : Int) else (d : Int) - (e.first : Int))) = ((min (d - e.first) e.many : Nat) : Int) := by
    split <;> split <;> omega
  have eB : bE G e d = rnd (uts G e) (min (d - e.first) e.many) := rfl
  have N30 : min (d - e.first) e.many ≤ 10 ^ 30 := by omega
  rw [eN]
  rw [eB] at q
  generalize min (d - e.first) e.many = N at q N30 ⊢
  clear eN eB
  refine rd_dm (by omega) (by omega) fun p1 J1 n1 s1 e1 => ?_
  have ea : (N : Int) / (rs.length : Int) = ((N / rs.length : Nat) : Int) := by push_cast; rfl
  have eb : (N : Int) % (rs.length : Int) = ((N % rs.length : Nat) : Int) := by push_cast; rfl
  rw [ea, eb] at e1
  have q1 : N / rs.length ≤ 10 ^ 30 := Nat.le_trans (Nat.div_le_self _ _) N30
  have r1 : N % rs.length < rs.length := Nat.mod_lt _ (by omega)
  unfold rnd at q
  rw [uts_len, ← ln, ← dotF_times, ← dots_sum] at q
  generalize N / rs.length = q0 at e1 q1 q
  generalize N % rs.length = r0 at e1 r1 q
  clear ea eb
  walk_at "rd_6"
  rw [Int.toNat_natCast]
  intro D nD
  obtain ⟨ff, hff⟩ : ∃ ff : Nat → Int, ∀ i, ff i = if i < r0 then ((q0 : Nat) : Int) + 1 else (q0 : Int) := ⟨_, fun _ => rfl⟩
  rw [show (fun i : Nat => if i < r0 then ((q0 : Nat) : Int) + 1 else (q0 : Int)) = ff from funext fun i => (hff i).symm] at q
  have fi : ∀ i : Nat, Bd 110 (ff i) := fun i => by
    rw [hff]
    unfold Bd
    split <;> omega
  refine lc_mapR (fun i => V.int (ff i)) (by omega) nD (fun i hi l R r => ?_) ?_
  · rw [show ff i = if i < r0 then ((q0 : Nat) : Int) + 1 else (q0 : Int) from hff i] at r
    walk_at "rd_6"
    by_cases c : i < r0
    · rw [decide_eq_true (by omega)]
      rw [if_pos c] at r
      refine iteT ?_
      walk_at "rd_6"
      exact r
    · rw [decide_eq_false (by omega)]
      rw [if_neg c] at r
      refine iteF ?_
      walk_at "rd_6"
      exact r
  have s2 : Same J1 (upd J1 D (.lst ((List.range rs.length).map fun i => V.int (ff i)))) := same_new nD
  have eD : (upd J1 D (.lst ((List.range rs.length).map fun i => V.int (ff i)))) D = some (.lst ((List.range rs.length).map fun i => V.int (ff i))) := upd_same
  generalize upd J1 D (.lst ((List.range rs.length).map fun i => V.int (ff i))) = J2 at s2 eD ⊢
  have S2 := Same.trans s1 s2
  have ha2 := S2 _ _ ha
  have am2 := am.mono fun p xs h => S2 _ _ h
  clear s1 s2 e1 n1 nD q1 r1 hp ha
  walk_at "rd_6"
  refine rd_iZM ?_
  walk_at "rd_6"
  refine ⟨D, a, _, rs, rfl, ⟨SqL.of eD, SqT.of ha2⟩, fun D2 nD2 => ?_⟩
  have ul := uts_len G e
  refine lc_sig (τ := [some (.ref p), some (.int (d : Int)), some (.str "entry"), some (.int (e.first : Int)), some (.int (e.many : Int)), some (.ref a), some (.int (q0 : Int)), some (.int (r0 : Int)), some (.ref D), none, none, none, none]) rfl ?_
  refine lc_zipM (fun zs J => FrsAt K J G zs ((dots ff (uts G e)).take zs.length)) eD ha2 (by simp) (by simp; omega) nD2 (fun J k => by rw [List.length_nil, List.take_zero]; exact .nil) (fun zs J J' s h => h.mono fun p xs h => sqt_same s h) (fun i x y zs J T hx hy i5 lz k hD hP hT => ?_) fun zs J lz k hD hP => ?_
  · have lt : i < rs.length := (List.getElem?_eq_some_iff.mp hy).1
    have ex : x = .int (ff i) := by
      rw [List.getElem?_map, List.getElem?_range lt] at hx
      exact (Option.some.inj hx).symm
    subst ex
    obtain ⟨pr, tx, uy, rfl, er, hpr, y0, gg, bx, bu⟩ := am2.get hy
    have hpr := k _ _ (ne_of_none hpr nD2) hpr
    have bo := fi i
    walk_at "rd_6"
    refine ⟨rfl, ?_⟩
    walk_at "rd_6"
    rename_i z J4 nz s4 e4
    refine lcEnd_mk (s4 _ _ hD) lz i5 (k.trans (Kp.of s4)) fun J5 p5 e5 => ?_
    have eu : (uts G e)[i]? = some (unit G (tx, uy)) := by
      unfold uts
      rw [List.getElem?_map, er]
      rfl
    have ed := dots_get (f := ff) eu
    rw [List.length_append, List.length_singleton, lz, List.take_add_one, ed]
    rw [lz] at hP
    have fu := (fit (tx, uy) (List.mem_of_getElem? er)).2
    have ue : unit G (tx, uy) * uy = tx * (G : Int) := unit_eq fu
    refine (hP.mono fun p xs h => sqt_pu p5 (sqt_same s4 h)).snoc (SqT.of (p5.tup e4)) y0 ?_ ((bx.mul bo).mono (by decide)) (bu.mono (by decide))
    grind
  have lz : zs.length = rs.length := by simpa using lz
  rw [lz, ln, ← ul, ← dots_len ff (uts G e), List.take_length] at hP
  have s3 : Same J2 J := fun a o h => k a o (ne_of_none h nD2) h
  walk_at "rd_6"
  refine ⟨D2, zs, dots ff (uts G e), G, rfl, hD, hP, g0, g1, by omega, fun u hu => ?_, fun z m n J' low s' hz => q z m n J' low (Same.trans S2 (Same.trans s3 s')) hz⟩
  obtain ⟨i, hi, rfl⟩ := List.mem_map.mp hu
  have hi := List.mem_range.mp hi
  have eg : (uts G e)[i]? = some (uts G e)[i] := List.getElem?_eq_getElem hi
  have bu : Bd 520 ((uts G e).getD i 0) := by
    rw [show (uts G e).getD i 0 = (uts G e)[i] by simp [List.getD, eg]]
    obtain ⟨r, hr, er⟩ := List.mem_map.mp (List.getElem_mem hi)
    rw [show (uts G e)[i] = unit G r from er.symm]
    obtain ⟨h1, h2, h3, h4⟩ := am2.bds r hr
    exact unit_bd h1 h3 g1
  exact (bu.mul (fi i)).mono (by decide)

def sp_sum_before (K : PySem.W.Frag) : Sp := fun vs H Q _ => ∃ (l : Addr) (es : List Ent) (d G : Nat), vs = [.ref l, .int (d : Int)] ∧ Led H l es G ∧ d ≤ 10 ^ 30 ∧
  ∀ z m n J, IsLow (bS G es d) (G : Int) m n → Same H J → SqT K J z [.int m, .int n] → Q (.ref z) J
theorem ar_sum_before (K : PySem.W.Frag) : ∀ vs H Q E, sp_sum_before K vs H Q E → vs.length = 2 := by
  intro vs H Q E h
  obtain ⟨l, es, d, G, rfl, _⟩ := h
  rfl
abbrev N_sum_before : List Str := ["entries", "day", "entry"]
theorem sc_sum_before : FnScope N_sum_before ["entries", "day"] (defScope S_sum_before) := ⟨rfl, rfl, rfl, by decide +kernel, rfl, by decide +kernel, by decide +kernel⟩
theorem ok_sum_before {P : Program} {w : World} {K : PySem.W.Frag} {mg : Str → Option Value} {base : Heap} {f : Addr} {fd : FuncData} (F : Fun K "sum_before" "sum_before" S_sum_before f fd) {f__total : Addr} {fd__total : FuncData} (C__total : Cal P w K mg base "_total" 3 f__total fd__total ["ratios"] (sp__total K)) {f__given_before : Addr} {fd__given_before : FuncData} (C__given_before : Cal P w K mg base "_given_before" 4 f__given_before fd__given_before ["entry", "day"] (sp__given_before K)) {f_check_day : Addr} {fd_check_day : FuncData} (C_check_day : Cal P w K mg base "check_day" 3 f_check_day fd_check_day ["thing"] (sp_check_day K)) :
    FnG P w K mg base CX0 5 f fd ["entries", "day"] (sp_sum_before K) := by
  refine Fun_okG F sc_sum_before (ar_sum_before K) (fun cdv A outer s H vs Q E hg hr h => ?_)
  obtain ⟨l, es, d, G, rfl, ⟨ws, hl, t, fit, g0, g1, lw⟩, d30, q⟩ := h
  refine ⟨_, (pss_cons (ps_expr (pe_c C_check_day hg (hr.mono (by decide)) rfl (pa_cons (pv 1) pa_nil)))
    (pss_one (ps_ret (pe_c C__total hg (hr.mono (by decide)) rfl (pa_cons (pe_lc (own := [("entry", 2)]) rfl sc_sum_before.nd (piL (K := K) rfl (pv 0)) (blkOk_by (own := [("entry", 2)]) (N := N_sum_before) (sc := defScope S_sum_before) (by decide +kernel)) (fun _ _ _ _ _ => (pg_name (i := 2) sc_sum_before.nd rfl (Or.inl rfl))) (fun _ _ _ _ _ => pts_nil) (fun _ _ _ _ _ => (pe_c C__given_before hg (hr.mono (by decide)) rfl (pa_cons (pv 2) (pa_cons (pv 1) pa_nil))))) pa_nil))))), ?_⟩
  have ln := t.len
  have al := t.all
  walk_at "rd_6"
  refine ⟨d, rfl, by omega, by omega, ?_⟩
  walk_at "rd_6"
  intro D nD
  refine lc_growL (fun ys J => FrsAt K J G ys ((es.map fun e => bE G e d).take ys.length)) hl (by omega) nD (fun J k => by rw [List.length_nil, List.take_zero]; exact .nil) (fun i v ys J hx i5 ly k hD hP => ?_) fun ys J ly k hD hP => ?_
  · obtain ⟨e, ee, en⟩ := t.get hx
    have en := en.mono fun p xs h => k _ _ (ne_of_none h nD) h
    have ae := al e (List.mem_of_getElem? ee)
    walk_at "rd_6"
    refine ⟨rfl, ?_⟩
    walk_at "rd_6"
    refine ⟨v, e, d, G, rfl, en, fit e (List.mem_of_getElem? ee), g0, g1, d30, fun z m n J2 low s2 hz => ?_⟩
    have bb : Bd 640 (bE G e d) := bE_bd ae.2.1 (fun r hr => ⟨(ae.2.2.2.2 r hr).1, (ae.2.2.2.2 r hr).2.2.1⟩) g1 (by omega)
    have bn : Bd 500 n := Nat.lt_of_le_of_lt low.2.2.2.2 g1
    refine lcEnd_mk (s2 _ _ hD) ly i5 (k.trans (Kp.of s2)) fun J4 p4 e4 => ?_
    rw [List.length_append, List.length_singleton, ly, List.take_add_one, List.getElem?_map, ee]
    rw [ly] at hP
    exact (hP.mono fun p xs h => sqt_pu p4 (sqt_same s2 h)).snoc (sqt_pu p4 hz) low.1 low.2.2.1 (Bd.mono (m := 640) (bb.le low.2.2.2.1) (by decide)) (bn.mono (by decide))
  rw [ly, ln, ← List.length_map (f := fun e => bE G e d) (as := es), List.take_length] at hP
  have s1 : Same H J := fun a o h => k a o (ne_of_none h nD) h
  walk_at "rd_6"
  refine ⟨D, ys, _, G, rfl, hD, hP, g0, g1, by omega, fun u hu => ?_, fun z m n J' low s' hz => q z m n J' low (Same.trans s1 s') hz⟩
  obtain ⟨e, he, rfl⟩ := List.mem_map.mp hu
  have ae := al e he
  exact (bE_bd ae.2.1 (fun r hr => ⟨(ae.2.2.2.2 r hr).1, (ae.2.2.2.2 r hr).2.2.1⟩) g1 (by omega)).mono (by decide)
def sp_point (K : PySem.W.Frag) : Sp := fun vs H Q _ => ∃ (l : Addr) (es : List Ent) (d G : Nat), vs = [.ref l, .int (d : Int)] ∧ Led H l es G ∧ d ≤ 10 ^ 30 ∧
  ∀ z m n J, IsLow ((-bS G es d).fmod (G : Int)) (G : Int) m n → Same H J → H z = none → J z = some (.tup [.int m, .int n]) → Q (.ref z) J
theorem ar_point (K : PySem.W.Frag) : ∀ vs H Q E, sp_point K vs H Q E → vs.length = 2 := by
  intro vs H Q E h
  obtain ⟨l, es, d, G, rfl, _⟩ := h
  rfl
abbrev N_point : List Str := ["entries", "day"]
theorem sc_point : FnScope N_point ["entries", "day"] (defScope S_point) := ⟨rfl, rfl, rfl, by decide +kernel, rfl, by decide +kernel, by decide +kernel⟩
theorem ok_point {P : Program} {w : World} {K : PySem.W.Frag} {mg : Str → Option Value} {base : Heap} {f : Addr} {fd : FuncData} (F : Fun K "point" "point" S_point f fd) {f_rest_of : Addr} {fd_rest_of : FuncData} (C_rest_of : Cal P w K mg base "rest_of" 1 f_rest_of fd_rest_of ["ratio"] (sp_rest_of K)) {f_minus : Addr} {fd_minus : FuncData} (C_minus : Cal P w K mg base "minus" 2 f_minus fd_minus ["one", "other"] (sp_minus K)) {f_sum_before : Addr} {fd_sum_before : FuncData} (C_sum_before : Cal P w K mg base "sum_before" 5 f_sum_before fd_sum_before ["entries", "day"] (sp_sum_before K)) {z_ZERO : Addr} (c_ZERO : TupC K mg "ZERO" z_ZERO [V.int 0, V.int 1]) :
    FnG P w K mg base CX0 6 f fd ["entries", "day"] (sp_point K) := by
  refine Fun_okG F sc_point (ar_point K) (fun cdv A outer s H vs Q E hg hr h => ?_)
  obtain ⟨l, es, d, G, rfl, L, d30, q⟩ := h
  refine ⟨_, (pss_one (ps_ret (pe_c C_rest_of hg (hr.mono (by decide)) rfl (pa_cons (pe_c C_minus hg (hr.mono (by decide)) rfl (pa_cons (pe_glob (v := V.ref z_ZERO) (u := Value.ref z_ZERO) rfl c_ZERO.m rfl) (pa_cons (pe_c C_sum_before hg (hr.mono (by decide)) rfl (pa_cons (pv 0) (pa_cons (pv 1) pa_nil))) pa_nil))) pa_nil)))), ?_⟩
  have bb := L.bd d
  have g1 := L.lt
  have g0 := L.pos
  walk_at "rd_6"
  refine ⟨l, es, d, G, rfl, L, d30, fun z m n J low s hz => ?_⟩
  have bn : Bd 500 n := Nat.lt_of_le_of_lt low.2.2.2.2 g1
  have bm : Bd 650 m := bb.le low.2.2.2.1
  walk_at "rd_6"
  refine ⟨z_ZERO, z, 0, 1, m, n, rfl, c_ZERO.sq J, hz, by decide, low.1, Bd.lit (by decide +kernel), Bd.lit (by decide +kernel), bm.mono (by decide), bn.mono (by decide), fun m2 n2 z2 J2 low2 nz2 s2 e2 => ?_⟩
  have low3 := low_neg low low2 g0
  walk_at "rd_6"
  refine ⟨z2, m2, n2, rfl, SqT.of e2, low3.1, fun z3 J3 nz3 s3 e3 => ?_⟩
  exact q z3 _ _ J3 (low_mod low3 g0) (Same.trans s (Same.trans s2 s3)) (Same.free s (Same.free s2 nz3)) e3
def sp_exact (K : PySem.W.Frag) : Sp := fun vs H Q _ => ∃ (l p : Addr) (es : List Ent) (d n G : Nat), vs = [.ref l, .ref p] ∧ SqT K H p [.int (d : Int), .int (n : Int)] ∧ Led H l es G ∧ 1 ≤ n ∧ d + n ≤ 10 ^ 30 ∧
  ∀ z x y J, IsLow (bS G es (d + n) - bS G es d) (G : Int) x y → Same H J → H z = none → J z = some (.tup [.int x, .int y]) → Q (.ref z) J
theorem ar_exact (K : PySem.W.Frag) : ∀ vs H Q E, sp_exact K vs H Q E → vs.length = 2 := by
  intro vs H Q E h
  obtain ⟨l, p, es, d, n, G, rfl, _⟩ := h
  rfl
abbrev N_exact : List Str := ["entries", "stretch", "first", "many"]
theorem sc_exact : FnScope N_exact ["entries", "stretch"] (defScope S_exact) := ⟨rfl, rfl, rfl, by decide +kernel, rfl, by decide +kernel, by decide +kernel⟩
theorem ok_exact {P : Program} {w : World} {K : PySem.W.Frag} {mg : Str → Option Value} {base : Heap} {f : Addr} {fd : FuncData} (F : Fun K "exact" "exact" S_exact f fd) {f_minus : Addr} {fd_minus : FuncData} (C_minus : Cal P w K mg base "minus" 2 f_minus fd_minus ["one", "other"] (sp_minus K)) {f_sum_before : Addr} {fd_sum_before : FuncData} (C_sum_before : Cal P w K mg base "sum_before" 5 f_sum_before fd_sum_before ["entries", "day"] (sp_sum_before K)) {f_check_stretch : Addr} {fd_check_stretch : FuncData} (C_check_stretch : Cal P w K mg base "check_stretch" 4 f_check_stretch fd_check_stretch ["thing"] (sp_check_stretch K)) :
    FnG P w K mg base CX0 6 f fd ["entries", "stretch"] (sp_exact K) := by
  refine Fun_okG F sc_exact (ar_exact K) (fun cdv A outer s H vs Q E hg hr h => ?_)
  obtain ⟨l, p, es, d, n, G, rfl, hp, L, n1, dn, q⟩ := h
  refine ⟨_, (pss_cons (ps_expr (pe_c C_check_stretch hg (hr.mono (by decide)) rfl (pa_cons (pv 1) pa_nil)))
    (pss_cons (ps_asg (pv 1) (pg_tup rfl (pgs_cons (pg_name (i := 2) sc_exact.nd rfl (Or.inl rfl)) (pgs_cons (pg_name (i := 3) sc_exact.nd rfl (Or.inl rfl)) pgs_nil))))
    (pss_one (ps_ret (pe_c C_minus hg (hr.mono (by decide)) rfl (pa_cons (pe_c C_sum_before hg (hr.mono (by decide)) rfl (pa_cons (pv 0) (pa_cons (pe_op op_add (pv 2) (pv 3)) pa_nil))) (pa_cons (pe_c C_sum_before hg (hr.mono (by decide)) rfl (pa_cons (pv 0) (pa_cons (pv 2) pa_nil))) pa_nil))))))), ?_⟩
  have g1 := L.lt
  have g0 := L.pos
  walk_at "rd_6"
  refine ⟨p, d, n, rfl, hp, by omega, by omega, by omega, ?_⟩
  walk_at "rd_6"
  rw [show (d : Int) + (n : Int) = ((d + n : Nat) : Int) by omega]
  refine ⟨l, es, d + n, G, rfl, L, dn, fun z m k J low s hz => ?_⟩
  have bm : Bd 650 m := (L.bd (d + n)).le low.2.2.2.1
  have bk : Bd 500 k := Nat.lt_of_le_of_lt low.2.2.2.2 g1
  walk_at "rd_6"
  refine ⟨l, es, d, G, rfl, L.same s, by omega, fun z' m' k' J' low' s' hz' => ?_⟩
  have bm' : Bd 650 m' := (L.bd d).le low'.2.2.2.1
  have bk' : Bd 500 k' := Nat.lt_of_le_of_lt low'.2.2.2.2 g1
  walk_at "rd_6"
  refine ⟨z, z', m, k, m', k', rfl, sqt_same s' hz, hz', low.1, low'.1, bm.mono (by decide), bk.mono (by decide), bm'.mono (by decide), bk'.mono (by decide), fun m2 n2 z2 J2 low2 nz2 s2 e2 => ?_⟩
  have df := dif_form low'.2.2.1 low.2.2.1 low'.1 low.1 low2.2.2.1
  exact q z2 m2 n2 J2 (low_of low2.1 low2.2.1 df (by omega)) (Same.trans s (Same.trans s' s2)) (Same.free s (Same.free s' nz2)) e2

/-! ### items looked at -/
def sp_is_ratio (K : PySem.W.Frag) : Sp := fun vs H Q _ => ∃ (p : Addr) (x y : Int), vs = [.ref p] ∧ SqT K H p [.int x, .int y] ∧ 0 < y ∧ Int.gcd x y = 1 ∧ Q (.bl true) H
theorem ar_is_ratio (K : PySem.W.Frag) : ∀ vs H Q E, sp_is_ratio K vs H Q E → vs.length = 1 := by
  intro vs H Q E h
  obtain ⟨v, b, _, rfl, _⟩ := h
  rfl
abbrev N_is_ratio : List Str := ["thing", "top", "under"]
theorem sc_is_ratio : FnScope N_is_ratio ["thing"] (defScope S_is_ratio) := ⟨rfl, rfl, rfl, by decide +kernel, rfl, by decide +kernel, by decide +kernel⟩
theorem ok_is_ratio {P : Program} {w : World} {K : PySem.W.Frag} {mg : Str → Option Value} {base : Heap} {f : Addr} {fd : FuncData} (F : Fun K "is_ratio" "is_ratio" S_is_ratio f fd) {f_is_int : Addr} {fd_is_int : FuncData} (C_is_int : Cal P w K mg base "is_int" 1 f_is_int fd_is_int ["thing"] (sp_is_int K)) (c_gcd : mg "gcd" = some (.builtin "math.gcd")) (m_len : mg "len" = none) (m_isinstance : mg "isinstance" = none) (m_tuple : mg "tuple" = none) :
    FnG P w K mg base CX0 2 f fd ["thing"] (sp_is_ratio K) := by
  refine Fun_okG F sc_is_ratio (ar_is_ratio K) (fun cdv A outer s H vs Q E hg hr h => ?_)
  obtain ⟨p, x, y, rfl, h, y0, g1, q⟩ := h
  refine ⟨_, (pss_cons (ps_if (pt_not (PW.pt (pw_and (pt_val (pe_callB (id := "isinstance") (isiK (K := K) rfl) (by rfl) m_isinstance (by decide +kernel) (pa_cons (pv 0) (pa_cons (pe_bltn (v := V.ty "tuple") (u := Value.type "tuple") (by rfl) m_tuple (by decide +kernel) rfl) pa_nil)))) (pw_and1 (pt_cmpR op_eq (pe_callB (id := "len") (lenK (K := K) rfl) (by rfl) m_len (by decide +kernel) (pa_cons (pv 0) pa_nil)) pe_int (nomark _)))))) (pss_one (ps_ret pe_bl)) pss_nil)
    (pss_cons (ps_asg (pv 0) (pg_tup rfl (pgs_cons (pg_name (i := 1) sc_is_ratio.nd rfl (Or.inl rfl)) (pgs_cons (pg_name (i := 2) sc_is_ratio.nd rfl (Or.inl rfl)) pgs_nil))))
    (pss_cons (ps_if (pt_not (PW.pt (pw_and (pt_val (pe_c C_is_int hg (hr.mono (by decide)) rfl (pa_cons (pv 1) pa_nil))) (pw_and1 (pt_val (pe_c C_is_int hg (hr.mono (by decide)) rfl (pa_cons (pv 2) pa_nil))))))) (pss_one (ps_ret pe_bl)) pss_nil)
    (pss_one (ps_ret (pe_and (pe_cmpR op_gt (pv 2) pe_int (nomark _)) (pe_one (pe_cmpR op_eq (pe_callBfun cr_gcd rfl c_gcd (pa_cons (pv 1) (pa_cons (pv 2) pa_nil))) pe_int (nomark _))))))))), ?_⟩
  walk_at "rd_6"
  refine iteT ?_
  walk_at "rd_6"
  refine iteF ?_
  walk_at "rd_6"
  refine ⟨.int x, "int", rfl, ⟨.base (.int x), by simp⟩, ?_⟩
  walk_at "rd_6"
  refine iteT ?_
  walk_at "rd_6"
  refine ⟨.int y, "int", rfl, ⟨.base (.int y), by simp⟩, ?_⟩
  walk_at "rd_6"
  refine iteF ?_
  walk_at "rd_6"
  refine rd_if (fun c => ?_) (fun c => absurd y0 c)
  walk_at "rd_6"
  have e : (decide (((Nat.gcd x.natAbs y.natAbs : Nat) : Int) = 1)) = true := decide_eq_true (by show ((Int.gcd x y : Nat) : Int) = 1; omega)
  rw [e]
  exact q
def sp_is_amount (K : PySem.W.Frag) : Sp := fun vs H Q _ => ∃ (p : Addr) (x y : Int), vs = [.ref p] ∧ H p = some (.tup [.int x, .int y]) ∧ 0 < y ∧ Int.gcd x y = 1 ∧ x.natAbs ≤ 1000000 ∧ y ≤ 1000000 ∧ Q (.bl true) H
theorem ar_is_amount (K : PySem.W.Frag) : ∀ vs H Q E, sp_is_amount K vs H Q E → vs.length = 1 := by
  intro vs H Q E h
  obtain ⟨v, b, _, rfl, _⟩ := h
  rfl
abbrev N_is_amount : List Str := ["thing"]
theorem sc_is_amount : FnScope N_is_amount ["thing"] (defScope S_is_amount) := ⟨rfl, rfl, rfl, by decide +kernel, rfl, by decide +kernel, by decide +kernel⟩
theorem ok_is_amount {P : Program} {w : World} {K : PySem.W.Frag} {mg : Str → Option Value} {base : Heap} {f : Addr} {fd : FuncData} (F : Fun K "is_amount" "is_amount" S_is_amount f fd) {f_is_ratio : Addr} {fd_is_ratio : FuncData} (C_is_ratio : Cal P w K mg base "is_ratio" 2 f_is_ratio fd_is_ratio ["thing"] (sp_is_ratio K)) {t_AMOUNT_BOUND : Nat} (c_AMOUNT_BOUND : mg "AMOUNT_BOUND" = some (.int 1000000 t_AMOUNT_BOUND)) :
    FnG P w K mg base CX0 3 f fd ["thing"] (sp_is_amount K) := by
  refine Fun_okG F sc_is_amount (ar_is_amount K) (fun cdv A outer s H vs Q E hg hr h => ?_)
  obtain ⟨p, x, y, rfl, h, y0, g1, bx, bu, q⟩ := h
  refine ⟨_, (pss_one (ps_ret (pe_and (pe_c C_is_ratio hg (hr.mono (by decide)) rfl (pa_cons (pv 0) pa_nil)) (pe_and (pe_chain op_le op_le (pe_un un_neg (pe_glob (v := V.int 1000000) rfl c_AMOUNT_BOUND ⟨_, rfl⟩)) (pe_ix (ixK (K := K) rfl) (pv 0) pe_int (fun _ _ => rfl)) (pe_glob (v := V.int 1000000) rfl c_AMOUNT_BOUND ⟨_, rfl⟩)) (pe_one (pe_cmpR op_le (pe_ix (ixK (K := K) rfl) (pv 0) pe_int (fun _ _ => rfl)) (pe_glob (v := V.int 1000000) rfl c_AMOUNT_BOUND ⟨_, rfl⟩) (nomark _))))))), ?_⟩
  walk_at "rd_6"
  refine ⟨p, x, y, rfl, SqT.of h, y0, g1, ?_⟩
  walk_at "rd_6"
  refine iteT ?_
  walk_at "rd_6"
  refine rd_if (fun c => ?_) (fun c => absurd (by omega) c)
  walk_at "rd_6"
  refine rd_if (fun c2 => ?_) (fun c2 => absurd (by omega) c2)
  walk_at "rd_6"
  rw [decide_eq_true (by omega)]
  exact q
def sp__is_amounts (K : PySem.W.Frag) : Sp := fun vs H Q _ => ∃ (a : Addr) (rs : List V) (am : List (Int × Int)), vs = [.ref a] ∧ H a = some (.tup rs) ∧ AmsAt H rs am ∧ am ≠ [] ∧ am.length ≤ 4 ∧ (∀ r ∈ am, r.1.natAbs ≤ 1000000 ∧ r.2 ≤ 1000000) ∧ ∀ J, Same H J → Q (.bl true) J
theorem ar__is_amounts (K : PySem.W.Frag) : ∀ vs H Q E, sp__is_amounts K vs H Q E → vs.length = 1 := by
  intro vs H Q E h
  obtain ⟨v, b, _, rfl, _⟩ := h
  rfl
abbrev N__is_amounts : List Str := ["thing", "part"]
theorem sc__is_amounts : FnScope N__is_amounts ["thing"] (defScope S__is_amounts) := ⟨rfl, rfl, rfl, by decide +kernel, rfl, by decide +kernel, by decide +kernel⟩
theorem ok__is_amounts {P : Program} {w : World} {K : PySem.W.Frag} {mg : Str → Option Value} {base : Heap} {f : Addr} {fd : FuncData} (F : Fun K "_is_amounts" "_is_amounts" S__is_amounts f fd) {f_is_amount : Addr} {fd_is_amount : FuncData} (C_is_amount : Cal P w K mg base "is_amount" 3 f_is_amount fd_is_amount ["thing"] (sp_is_amount K)) {t_MOST_AMOUNTS : Nat} (c_MOST_AMOUNTS : mg "MOST_AMOUNTS" = some (.int 4 t_MOST_AMOUNTS)) (m_all : mg "all" = none) (m_len : mg "len" = none) (m_isinstance : mg "isinstance" = none) (m_tuple : mg "tuple" = none) :
    FnG P w K mg base CX0 4 f fd ["thing"] (sp__is_amounts K) := by
  refine Fun_okG F sc__is_amounts (ar__is_amounts K) (fun cdv A outer s H vs Q E hg hr h => ?_)
  obtain ⟨a, rs, am, rfl, h, A, ne, l4, ok, q⟩ := h
  refine ⟨_, (pss_cons (ps_if (pt_not (PW.pt (pw_and (pt_val (pe_callB (id := "isinstance") (isiK (K := K) rfl) (by rfl) m_isinstance (by decide +kernel) (pa_cons (pv 0) (pa_cons (pe_bltn (v := V.ty "tuple") (u := Value.type "tuple") (by rfl) m_tuple (by decide +kernel) rfl) pa_nil)))) (pw_and1 (pt_chain op_le op_le pe_int (pe_callB (id := "len") (lenK (K := K) rfl) (by rfl) m_len (by decide +kernel) (pa_cons (pv 0) pa_nil)) (pe_glob (v := V.int 4) rfl c_MOST_AMOUNTS ⟨_, rfl⟩)))))) (pss_one (ps_ret pe_bl)) pss_nil)
    (pss_one (ps_ret (pe_callB (id := "all") (allK (K := K) rfl rfl) (by rfl) m_all (by decide +kernel) (pa_cons (pe_lc (own := [("part", 1)]) rfl sc__is_amounts.nd (piT (K := K) rfl (pv 0)) (blkOk_by (own := [("part", 1)]) (N := N__is_amounts) (sc := defScope S__is_amounts) (by decide +kernel)) (fun _ _ _ _ _ => (pg_name (i := 1) sc__is_amounts.nd rfl (Or.inl rfl))) (fun _ _ _ _ _ => pts_nil) (fun _ _ _ _ _ => (pe_c C_is_amount hg (hr.mono (by decide)) rfl (pa_cons (pv 1) pa_nil)))) pa_nil))))), ?_⟩
  have ln := A.len
  have l1 : 1 ≤ rs.length := by
    have := List.length_pos_iff.mpr ne
    omega
  walk_at "rd_6"
  refine iteT ?_
  walk_at "rd_6"
  refine rd_if (fun c => ?_) (fun c => absurd (by omega) c)
  walk_at "rd_6"
  rw [decide_eq_true (by omega)]
  refine iteF ?_
  walk_at "rd_6"
  intro D nD
  refine lc_mapT (fun _ => V.bl true) h (by omega) nD (fun x hx l R r => ?_) ?_
  · obtain ⟨i, hi, e⟩ := List.mem_iff_getElem.mp hx
    obtain ⟨p, t, u, rfl, el, ep, y0, g1, _, _⟩ := A.get (i := i) (v := x) (by rw [List.getElem?_eq_getElem hi, e])
    have okr := ok _ (List.mem_of_getElem? el)
    walk_at "rd_6"
    refine ⟨p, t, u, rfl, ?_, y0, g1, okr.1, okr.2, ?_⟩
    · rw [upd_ne (ne_of_none ep nD)]
      exact ep
    exact r
  · walk_at "rd_6"
    refine rd_all (bs := List.replicate rs.length true) (SqL.of (by
      rw [upd_same]
      congr 2
      simp [List.map_const'])) ?_
    rw [show (List.replicate rs.length true).all id = true by simp]
    exact q _ (same_new nD)
def sp_wrong_part (K : PySem.W.Frag) : Sp := fun vs H Q _ => ∃ (v : V) (i : Itm), vs = [v] ∧ ItmAt H v i ∧ ∀ J, Same H J → Q .non J
theorem ar_wrong_part (K : PySem.W.Frag) : ∀ vs H Q E, sp_wrong_part K vs H Q E → vs.length = 1 := by
  intro vs H Q E h
  obtain ⟨v, b, rfl, _⟩ := h
  rfl
abbrev N_wrong_part : List Str := ["thing", "kind", "first", "many", "last", "right"]
theorem sc_wrong_part : FnScope N_wrong_part ["thing"] (defScope S_wrong_part) := ⟨rfl, rfl, rfl, by decide +kernel, rfl, by decide +kernel, by decide +kernel⟩
theorem ok_wrong_part {P : Program} {w : World} {K : PySem.W.Frag} {mg : Str → Option Value} {base : Heap} {f : Addr} {fd : FuncData} (F : Fun K "wrong_part" "wrong_part" S_wrong_part f fd) {f__is_amounts : Addr} {fd__is_amounts : FuncData} (C__is_amounts : Cal P w K mg base "_is_amounts" 4 f__is_amounts fd__is_amounts ["thing"] (sp__is_amounts K)) {f_is_int : Addr} {fd_is_int : FuncData} (C_is_int : Cal P w K mg base "is_int" 1 f_is_int fd_is_int ["thing"] (sp_is_int K)) {f__is_many : Addr} {fd__is_many : FuncData} (C__is_many : Cal P w K mg base "_is_many" 2 f__is_many fd__is_many ["thing", "first"] (sp__is_many K)) {f_is_day : Addr} {fd_is_day : FuncData} (C_is_day : Cal P w K mg base "is_day" 2 f_is_day fd_is_day ["thing"] (sp_is_day K)) (m_len : mg "len" = none) (m_isinstance : mg "isinstance" = none) (m_tuple : mg "tuple" = none) :
    FnG P w K mg base CX0 5 f fd ["thing"] (sp_wrong_part K) := by
  refine Fun_okG F sc_wrong_part (ar_wrong_part K) (fun cdv A outer s H vs Q E hg hr h => ?_)
  obtain ⟨v, i, rfl, hi, q⟩ := h
  refine ⟨_, (pss_cons (ps_if (pt_not (PW.pt (pw_and (pt_val (pe_callB (id := "isinstance") (isiK (K := K) rfl) (by rfl) m_isinstance (by decide +kernel) (pa_cons (pv 0) (pa_cons (pe_bltn (v := V.ty "tuple") (u := Value.type "tuple") (by rfl) m_tuple (by decide +kernel) rfl) pa_nil)))) (pw_and1 (pt_cmpR op_eq (pe_callB (id := "len") (lenK (K := K) rfl) (by rfl) m_len (by decide +kernel) (pa_cons (pv 0) pa_nil)) pe_int (nomark _)))))) (pss_one (ps_ret pe_int)) pss_nil)
    (pss_cons (ps_asg (pv 0) (pg_tup rfl (pgs_cons (pg_name (i := 1) sc_wrong_part.nd rfl (Or.inl rfl)) (pgs_cons (pg_name (i := 2) sc_wrong_part.nd rfl (Or.inl rfl)) (pgs_cons (pg_name (i := 3) sc_wrong_part.nd rfl (Or.inl rfl)) (pgs_cons (pg_name (i := 4) sc_wrong_part.nd rfl (Or.inl rfl)) pgs_nil))))))
    (pss_cons (ps_if (pt_cmpR (niK (K := K) rfl) (pv 1) (pe_tup (pa_cons pe_str (pa_cons pe_str pa_nil))) rfl) (pss_one (ps_ret pe_int)) pss_nil)
    (pss_cons (ps_if (pt_not (pt_val (pe_c C_is_day hg (hr.mono (by decide)) rfl (pa_cons (pv 2) pa_nil)))) (pss_one (ps_ret pe_int)) pss_nil)
    (pss_cons (ps_if (pt_not (pt_val (pe_c C__is_many hg (hr.mono (by decide)) rfl (pa_cons (pv 3) (pa_cons (pv 2) pa_nil))))) (pss_one (ps_ret pe_int)) pss_nil)
    (pss_cons (ps_set (i := 5) sc_wrong_part.nd rfl (Or.inl rfl) (pe_ifExp (pt_cmpR op_eq (pv 1) pe_str (nomark _)) (pe_c C__is_amounts hg (hr.mono (by decide)) rfl (pa_cons (pv 4) pa_nil)) (pe_c C_is_int hg (hr.mono (by decide)) rfl (pa_cons (pv 4) pa_nil))))
    (pss_one (ps_ret (pe_ifExp (pt_val (pv 5)) pe_non pe_int))))))))), ?_⟩
  cases i with
  | en e =>
    obtain ⟨⟨p, a, rs, rfl, hp, ha, A, ne, l4, dn, m1⟩, ok⟩ := hi
    walk_at "rd_6"
    refine iteT ?_
    walk_at "rd_6"
    refine iteF ?_
    walk_at "rd_6"
    rename_i t J1 n1 s1 e1
    refine ⟨t, _, rfl, .inr (SqT.of e1), rfl, rfl, ?_⟩
    walk_at "rd_6"
    refine iteF ?_
    walk_at "rd_6"
    refine ⟨e.first, rfl, by omega, by omega, ?_⟩
    walk_at "rd_6"
    refine iteF ?_
    walk_at "rd_6"
    refine ⟨e.many, e.first, rfl, by omega, by omega, ?_⟩
    walk_at "rd_6"
    refine iteF ?_
    walk_at "rd_6"
    refine iteT ?_
    walk_at "rd_6"
    refine ⟨a, rs, e.am, rfl, s1 _ _ ha, A.mono fun p xs h => s1 _ _ h, ne, l4, ok, fun J2 s2 => ?_⟩
    walk_at "rd_6"
    refine iteT ?_
    walk_at "rd_6"
    exact q J2 (Same.trans s1 s2)
  | st s0 =>
    obtain ⟨⟨p, rfl, hp⟩, dn, m1⟩ := hi
    walk_at "rd_6"
    refine iteT ?_
    walk_at "rd_6"
    refine iteF ?_
    walk_at "rd_6"
    rename_i t J1 n1 s1 e1
    refine ⟨t, _, rfl, .inr (SqT.of e1), rfl, rfl, ?_⟩
    walk_at "rd_6"
    refine iteF ?_
    walk_at "rd_6"
    refine ⟨s0.first, rfl, by omega, by omega, ?_⟩
    walk_at "rd_6"
    refine iteF ?_
    walk_at "rd_6"
    refine ⟨s0.many, s0.first, rfl, by omega, by omega, ?_⟩
    walk_at "rd_6"
    refine iteF ?_
    walk_at "rd_6"
    refine rd_eqStr ?_
    rw [show decide (("statement" : Str) = "entry") = false from by decide +kernel]
    walk_at "rd_6"
    refine iteF ?_
    walk_at "rd_6"
    refine ⟨.int s0.num, "int", rfl, ⟨.base (.int _), by simp⟩, ?_⟩
    walk_at "rd_6"
    refine iteT ?_
    walk_at "rd_6"
    exact q J1 s1
def sp_check_item (K : PySem.W.Frag) : Sp := fun vs H Q _ => ∃ (v : V) (i : Itm), vs = [v] ∧ ItmAt H v i ∧ ∀ J, Same H J → Q .non J
theorem ar_check_item (K : PySem.W.Frag) : ∀ vs H Q E, sp_check_item K vs H Q E → vs.length = 1 := by
  intro vs H Q E h
  obtain ⟨v, b, rfl, _⟩ := h
  rfl
abbrev N_check_item : List Str := ["thing", "part"]
theorem sc_check_item : FnScope N_check_item ["thing"] (defScope S_check_item) := ⟨rfl, rfl, rfl, by decide +kernel, rfl, by decide +kernel, by decide +kernel⟩
theorem ok_check_item {P : Program} {w : World} {K : PySem.W.Frag} {mg : Str → Option Value} {base : Heap} {f : Addr} {fd : FuncData} (F : Fun K "check_item" "check_item" S_check_item f fd) {f_wrong_part : Addr} {fd_wrong_part : FuncData} (C_wrong_part : Cal P w K mg base "wrong_part" 5 f_wrong_part fd_wrong_part ["thing"] (sp_wrong_part K)) :
    FnG P w K mg base CX0 6 f fd ["thing"] (sp_check_item K) := by
  refine Fun_okG F sc_check_item (ar_check_item K) (fun cdv A outer s H vs Q E hg hr h => ?_)
  obtain ⟨v, i, rfl, hi, q⟩ := h
  refine ⟨_, (pss_cons (ps_set (i := 1) sc_check_item.nd rfl (Or.inl rfl) (pe_c C_wrong_part hg (hr.mono (by decide)) rfl (pa_cons (pv 0) pa_nil)))
    (pss_one (ps_if (pt_cmpR op_notN (pv 1) pe_non (nomark _)) (pss_one ps_dead) pss_nil))), ?_⟩
  walk_at "rd_6"
  refine ⟨v, i, rfl, hi, fun J s => ?_⟩
  walk_at "rd_6"
  refine ⟨rfl, ?_⟩
  walk_at "rd_6"
  refine iteF ?_
  walk_at "rd_6"
  exact q J s

/-! ### the ledger's methods -/
def sp_Ledger___init__ (K : PySem.W.Frag) : Sp := fun vs H Q _ => ∃ (p C dx : Addr), vs = [.ref p] ∧ PySem.W.nsIn K mainGlobals "Ledger" = some (some (.ref C)) ∧ H p = some (.ins C dx []) ∧ ∀ (d : Addr) (J : Hp), H d = none → LgAt K J p d [] 0 → (∀ b o, H b = some o → b ≠ p → J b = some o) → Q .non J
theorem ar_Ledger___init__ (K : PySem.W.Frag) : ∀ vs H Q E, sp_Ledger___init__ K vs H Q E → vs.length = 1 := by
  intro vs H Q E h
  obtain ⟨v, b, _, rfl, _⟩ := h
  rfl
abbrev N_Ledger___init__ : List Str := ["self"]
theorem sc_Ledger___init__ : FnScope N_Ledger___init__ ["self"] (defScope S_Ledger___init__) := ⟨rfl, rfl, rfl, by decide +kernel, rfl, by decide +kernel, by decide +kernel⟩
theorem ok_Ledger___init__ {P : Program} {w : World} {K : PySem.W.Frag} {mg : Str → Option Value} {base : Heap} {f : Addr} {fd : FuncData} (F : Fun K "__init__" "Ledger.__init__" S_Ledger___init__ f fd) {C_L : Addr} (T : LgC K mg C_L) :
    FnOk P w K mg base CX0 1 f fd ["self"] (sp_Ledger___init__ K) := by
  refine F.ok sc_Ledger___init__ (ar_Ledger___init__ K) (fun cdv A outer s H vs Q E hr h => ?_)
  obtain ⟨p, C', dx, rfl, hC, hp, q⟩ := h
  refine ⟨_, (pss_cons (ps_fld (pv 0) pe_dnewK rfl)
    (pss_one (ps_fld (pv 0) pe_int rfl))), ?_⟩
  obtain rfl : C' = C_L := by
    have := hC.symm.trans T.at_
    simp at this
    exact this
  intro d hd
  have npd : p ≠ d := ne_of_none hp hd
  refine ⟨_, rfl, p, C', dx, [], rfl, (by rw [upd_ne npd]; exact hp), T.cl, T.nI, (by show 0 < 1000; decide), _, rfl, p, C', dx, _, rfl, upd_same, T.cl, T.nN, (by show 1 < 1000; decide), ?_⟩
  rw [lgF_new]
  refine q d _ hd ⟨⟨C', dx, hC, upd_same⟩, ⟨[], ?_, .nil⟩, List.nodup_nil, (fun x hx => by cases hx), Nat.zero_le _⟩ fun b o e hb => ?_
  · rw [upd_ne npd.symm, upd_ne npd.symm, upd_same]
  · rw [upd_ne hb, upd_ne hb, upd_ne (ne_of_none e hd)]
    exact e
theorem rd_lock {t : TE} {σ : L2.St} {H : Hp} {Q : VK} {d : Addr} {u : HO} (h : H d = some u) (m : Mut (some u)) (q : ∀ od, t σ (upd H d (.frz od u)) fun v H' => H' d = some (.frz od u) ∧ Q v (upd H' d u)) : tLockE t σ H Q := ⟨d, u, h, m, q⟩
theorem rd_vals {td : TE} {σ : L2.St} {H : Hp} {R : It → Hp → Prop} (q : td σ H fun x H1 => ∃ d o kvs, x = .ref d ∧ H1 d = some (.frz o (.dK kvs)) ∧ R (Itd d o kvs) H1) : iVals td σ H R := q
theorem rd_fldI {K : PySem.W.Frag} {mg : Str → Option Value} {ta : TE} {σ : L2.St} {H : Hp} {Q : VK} {C p d dx : Addr} {nx : Nat} (T : LgC K mg C) (h : H p = some (.ins C dx (lgF d nx))) (e : ∀ R : VK, R (.ref p) H → ta σ H R) (q : Q (.ref d) H) : tFld K ta "_items" σ H Q :=
  e _ ⟨p, C, dx, _, _, rfl, h, T.cl, T.nI, lgF_items d nx, q⟩
def sp_Ledger__of_kind (K : PySem.W.Frag) : Sp := fun vs H Q _ => ∃ (p d : Addr) (its : List (Nat × Itm)) (nx : Nat) (kd : Str), vs = [.ref p, .str kd] ∧ LgAt K H p d its nx ∧ (kd = "entry" ∨ kd = "statement") ∧
  ∀ z J ws js, H z = none → Same H J → J z = some (.lst ws) → ItsAt J ws js → (kd = "entry" → js = (its.map (·.2)).filter isEn) → (kd = "statement" → js = (its.map (·.2)).filter fun i => !isEn i) → Q (.ref z) J
theorem ar_Ledger__of_kind (K : PySem.W.Frag) : ∀ vs H Q E, sp_Ledger__of_kind K vs H Q E → vs.length = 2 := by
  intro vs H Q E h
  obtain ⟨p, d, its, nx, kd, rfl, _⟩ := h
  rfl
abbrev N_Ledger__of_kind : List Str := ["self", "kind", "item"]
theorem sc_Ledger__of_kind : FnScope N_Ledger__of_kind ["self", "kind"] (defScope S_Ledger__of_kind) := ⟨rfl, rfl, rfl, by decide +kernel, rfl, by decide +kernel, by decide +kernel⟩
theorem ok_Ledger__of_kind {P : Program} {w : World} {K : PySem.W.Frag} {mg : Str → Option Value} {base : Heap} {f : Addr} {fd : FuncData} (F : Fun K "_of_kind" "Ledger._of_kind" S_Ledger__of_kind f fd) {C_L : Addr} (T : LgC K mg C_L) :
    FnG P w K mg base CX0 1 f fd ["self", "kind"] (sp_Ledger__of_kind K) := by
  refine Fun_okG F sc_Ledger__of_kind (ar_Ledger__of_kind K) (fun cdv A outer s H vs Q E hg hr h => ?_)
  obtain ⟨p, d, its, nx, kd, rfl, L, hk, q⟩ := h
  refine ⟨_, (pss_one (ps_ret (pe_lock (pe_lc (own := [("item", 2)]) rfl sc_Ledger__of_kind.nd (pi_values (pe_fld (pv 0) rfl)) (blkOk_by (own := [("item", 2)]) (N := N_Ledger__of_kind) (sc := defScope S_Ledger__of_kind) (by decide +kernel)) (fun _ _ _ _ _ => (pg_name (i := 2) sc_Ledger__of_kind.nd rfl (Or.inl rfl))) (fun _ _ _ _ _ => (pts_one (pt_cmpR op_eq (pe_ix (ixK (K := K) rfl) (pv 2) pe_int (fun _ _ => rfl)) (pv 1) (nomark _)))) (fun _ _ _ _ _ => (pv 2)))))), ?_⟩
  obtain ⟨dx, hp⟩ := L.obC T
  obtain ⟨kvs, hd, hkv⟩ := L.dc
  have npd := L.ne
  have ll := hkv.len
  have l100 := L.len
  walk_at "rd_6"
  refine rd_lock hd trivial fun od => ?_
  refine rd_lc ?_
  refine rd_vals ?_
  refine rd_fldI T (by rw [upd_ne npd]; exact hp) (fun R h => rd_var rfl h) ?_
  refine ⟨d, od, kvs, rfl, upd_same, fun D nD => ?_⟩
  have nDd : D ≠ d := fun z => by
    subst z
    rw [upd_same] at nD
    cases nD
  have nDH : H D = none := by rw [upd_ne nDd] at nD; exact nD
  have off : ∀ (l : List V) (a : Addr) (xs : List V), H a = some (.tup xs) → upd (upd H d (.frz od (.dK kvs))) D (.lst l) a = some (.tup xs) := fun l a xs e => by
    rw [upd_ne (ne_of_none e nDH), upd_ne (fun z => by subst z; cases e.symm.trans hd)]
    exact e
  have mem : ∀ kv, kv ∈ kvs → ∃ it, ItmAt H kv.2 it := fun kv hm => by
    obtain ⟨i, hi, e⟩ := List.mem_iff_getElem.mp hm
    obtain ⟨n, it, _, _, h⟩ := hkv.get (i := i) (k := kv.1) (v := kv.2) (by rw [List.getElem?_eq_getElem hi, e])
    exact ⟨it, h⟩
  refine lc_filtD (kdV H kd) upd_same (by omega) nD (fun kv hm l R r => ?_) (fun kv hm l R r => ?_) ?_
  · obtain ⟨it, hit⟩ := mem kv hm
    obtain ⟨pp, a, b, c, ev, ep⟩ := hit.tup
    have ep' := off l _ _ ep
    rw [kdV_at hit] at r
    rw [ev]
    walk_at "rd_6"
    refine rd_eqStr ?_
    walk_at "rd_6"
    exact r
  · walk_at "rd_6"
    exact r
  · refine ⟨by rw [upd_ne nDd.symm]; exact upd_same, ?_⟩
    have sm : Same H (upd (upd (upd H d (.frz od (.dK kvs))) D (.lst ((kvs.map (·.2)).filter (kdV H kd)))) d (.dK kvs)) := fun b o e => by
      by_cases c : b = d
      · subst c
        rw [upd_same, ← hd, e]
      · rw [upd_ne c, upd_ne (ne_of_none e nDH), upd_ne c]
        exact e
    rcases hk with rfl | rfl
    · refine q D _ _ _ nDH sm (by rw [upd_ne nDd, upd_same]) ((hkv.filt (r := isEn) fun v i h => kdV_en h).mono fun p xs e => sm _ _ e) (fun _ => rfl) fun z => absurd z ent_ne_stm
    · refine q D _ _ _ nDH sm (by rw [upd_ne nDd, upd_same]) ((hkv.filt (r := fun i => !isEn i) fun v i h => kdV_st h).mono fun p xs e => sm _ _ e) (fun z => absurd z.symm ent_ne_stm) fun _ => rfl
def sp_Ledger_entries (K : PySem.W.Frag) : Sp := fun vs H Q _ => ∃ (p d : Addr) (its : List (Nat × Itm)) (nx : Nat), vs = [.ref p] ∧ LgAt K H p d its nx ∧
  ∀ z J ws, H z = none → Same H J → J z = some (.lst ws) → EntsAt J ws (entsOf (its.map (·.2))) → Q (.ref z) J
theorem ar_Ledger_entries (K : PySem.W.Frag) : ∀ vs H Q E, sp_Ledger_entries K vs H Q E → vs.length = 1 := by
  intro vs H Q E h
  obtain ⟨p, d, its, nx, rfl, _⟩ := h
  rfl
abbrev N_Ledger_entries : List Str := ["self"]
theorem sc_Ledger_entries : FnScope N_Ledger_entries ["self"] (defScope S_Ledger_entries) := ⟨rfl, rfl, rfl, by decide +kernel, rfl, by decide +kernel, by decide +kernel⟩
theorem ok_Ledger_entries {P : Program} {w : World} {K : PySem.W.Frag} {mg : Str → Option Value} {base : Heap} {f : Addr} {fd : FuncData} (F : Fun K "entries" "Ledger.entries" S_Ledger_entries f fd) {C_L : Addr} (T : LgC K mg C_L) {f_Ledger__of_kind : Addr} {fd_Ledger__of_kind : FuncData} (C_Ledger__of_kind : CalM P w K mg base C_L "_of_kind" 1 f_Ledger__of_kind fd_Ledger__of_kind ["self", "kind"] (sp_Ledger__of_kind K)) :
    FnG P w K mg base CX0 2 f fd ["self"] (sp_Ledger_entries K) := by
  refine Fun_okG F sc_Ledger_entries (ar_Ledger_entries K) (fun cdv A outer s H vs Q E hg hr h => ?_)
  obtain ⟨p, d, its, nx, rfl, L, q⟩ := h
  refine ⟨_, (pss_one (ps_ret (pm_c T.cl C_Ledger__of_kind hg (hr.mono (by decide)) (pv 0) (pa_cons pe_str pa_nil)))), ?_⟩
  walk_at "rd_6"
  refine rd_meth T L (fun R h => rd_var rfl h) ?_
  walk_at "rd_6"
  refine ⟨p, d, its, nx, _, rfl, L, .inl rfl, fun z J ws js nz s ez h e _ => ?_⟩
  refine q z J ws nz s ez ?_
  rw [e rfl] at h
  have := h.ents fun i hi => (List.mem_filter.mp hi).2
  rwa [entsOf_filter] at this
def sp_Ledger_statements (K : PySem.W.Frag) : Sp := fun vs H Q _ => ∃ (p d : Addr) (its : List (Nat × Itm)) (nx : Nat), vs = [.ref p] ∧ LgAt K H p d its nx ∧
  ∀ z J ws, H z = none → Same H J → J z = some (.lst ws) → StmsAt J ws (stmsOf (its.map (·.2))) → Q (.ref z) J
theorem ar_Ledger_statements (K : PySem.W.Frag) : ∀ vs H Q E, sp_Ledger_statements K vs H Q E → vs.length = 1 := by
  intro vs H Q E h
  obtain ⟨p, d, its, nx, rfl, _⟩ := h
  rfl
abbrev N_Ledger_statements : List Str := ["self"]
theorem sc_Ledger_statements : FnScope N_Ledger_statements ["self"] (defScope S_Ledger_statements) := ⟨rfl, rfl, rfl, by decide +kernel, rfl, by decide +kernel, by decide +kernel⟩
theorem ok_Ledger_statements {P : Program} {w : World} {K : PySem.W.Frag} {mg : Str → Option Value} {base : Heap} {f : Addr} {fd : FuncData} (F : Fun K "statements" "Ledger.statements" S_Ledger_statements f fd) {C_L : Addr} (T : LgC K mg C_L) {f_Ledger__of_kind : Addr} {fd_Ledger__of_kind : FuncData} (C_Ledger__of_kind : CalM P w K mg base C_L "_of_kind" 1 f_Ledger__of_kind fd_Ledger__of_kind ["self", "kind"] (sp_Ledger__of_kind K)) :
    FnG P w K mg base CX0 2 f fd ["self"] (sp_Ledger_statements K) := by
  refine Fun_okG F sc_Ledger_statements (ar_Ledger_statements K) (fun cdv A outer s H vs Q E hg hr h => ?_)
  obtain ⟨p, d, its, nx, rfl, L, q⟩ := h
  refine ⟨_, (pss_one (ps_ret (pm_c T.cl C_Ledger__of_kind hg (hr.mono (by decide)) (pv 0) (pa_cons pe_str pa_nil)))), ?_⟩
  walk_at "rd_6"
  refine rd_meth T L (fun R h => rd_var rfl h) ?_
  walk_at "rd_6"
  refine ⟨p, d, its, nx, _, rfl, L, .inr rfl, fun z J ws js nz s ez h _ e => ?_⟩
  refine q z J ws nz s ez ?_
  rw [e rfl] at h
  have := h.stms fun i hi => by simpa using (List.mem_filter.mp hi).2
  rwa [stmsOf_filter] at this
def sp_Ledger_numbered (K : PySem.W.Frag) : Sp := fun vs H Q _ => ∃ (p d : Addr) (its : List (Nat × Itm)) (nx : Nat), vs = [.ref p] ∧ LgAt K H p d its nx ∧
  ∀ z J rs, H z = none → Same H J → J z = some (.lst rs) → NumsAt J rs its → Dp K J (.ref z) (.list (its.map numD)) → Q (.ref z) J
theorem ar_Ledger_numbered (K : PySem.W.Frag) : ∀ vs H Q E, sp_Ledger_numbered K vs H Q E → vs.length = 1 := by
  intro vs H Q E h
  obtain ⟨p, d, its, nx, rfl, _⟩ := h
  rfl
abbrev N_Ledger_numbered : List Str := ["self"]
theorem sc_Ledger_numbered : FnScope N_Ledger_numbered ["self"] (defScope S_Ledger_numbered) := ⟨rfl, rfl, rfl, by decide +kernel, rfl, by decide +kernel, by decide +kernel⟩
theorem ok_Ledger_numbered {P : Program} {w : World} {K : PySem.W.Frag} {mg : Str → Option Value} {base : Heap} {f : Addr} {fd : FuncData} (F : Fun K "numbered" "Ledger.numbered" S_Ledger_numbered f fd) {C_L : Addr} (T : LgC K mg C_L) (m_list : mg "list" = none) :
    FnG P w K mg base CX0 1 f fd ["self"] (sp_Ledger_numbered K) := by
  refine Fun_okG F sc_Ledger_numbered (ar_Ledger_numbered K) (fun cdv A outer s H vs Q E hg hr h => ?_)
  obtain ⟨p, d, its, nx, rfl, L, q⟩ := h
  refine ⟨_, (pss_one (ps_ret (LiI.pe_listItems rfl (pe_fld (pv 0) rfl) (by rfl) m_list (by decide +kernel)))), ?_⟩
  obtain ⟨kvs, hd, hkv⟩ := L.dc
  walk_at "rd_6"
  exact rd_itemsN hd hkv (fun R h => rd_items T L (fun R h => rd_var rfl h) h) fun z J rs nz s e nn dp => q z J rs nz s e nn dp

def sp_Ledger__check_number (K : PySem.W.Frag) : Sp := fun vs H Q _ => ∃ (p d : Addr) (its : List (Nat × Itm)) (nx n : Nat) (i : Itm), vs = [.ref p, .int (n : Int)] ∧ LgAt K H p d its nx ∧ (n, i) ∈ its ∧ Q .non H
theorem ar_Ledger__check_number (K : PySem.W.Frag) : ∀ vs H Q E, sp_Ledger__check_number K vs H Q E → vs.length = 2 := by
  intro vs H Q E h
  obtain ⟨p, d, its, nx, n, i, rfl, _⟩ := h
  rfl
abbrev N_Ledger__check_number : List Str := ["self", "number"]
theorem sc_Ledger__check_number : FnScope N_Ledger__check_number ["self", "number"] (defScope S_Ledger__check_number) := ⟨rfl, rfl, rfl, by decide +kernel, rfl, by decide +kernel, by decide +kernel⟩
theorem ok_Ledger__check_number {P : Program} {w : World} {K : PySem.W.Frag} {mg : Str → Option Value} {base : Heap} {f : Addr} {fd : FuncData} (F : Fun K "_check_number" "Ledger._check_number" S_Ledger__check_number f fd) {f_is_int : Addr} {fd_is_int : FuncData} (C_is_int : Cal P w K mg base "is_int" 1 f_is_int fd_is_int ["thing"] (sp_is_int K)) {C_L : Addr} (T : LgC K mg C_L) :
    FnG P w K mg base CX0 2 f fd ["self", "number"] (sp_Ledger__check_number K) := by
  refine Fun_okG F sc_Ledger__check_number (ar_Ledger__check_number K) (fun cdv A outer s H vs Q E hg hr h => ?_)
  obtain ⟨p, d, its, nx, n, i, rfl, L, hm, q⟩ := h
  refine ⟨_, (pss_one (ps_if (PW.pt (pw_or (pt_not (pt_val (pe_c C_is_int hg (hr.mono (by decide)) rfl (pa_cons (pv 1) pa_nil)))) (pw_or1 (pt_cmp (pc_dnotin (hu_of hr) (pv 1) (pe_fld (pv 0) rfl)))))) (pss_one ps_dead) pss_nil)), ?_⟩
  obtain ⟨kvs, hd, hkv⟩ := L.dc
  obtain ⟨v, hv, _⟩ := hkv.val L.nd hm
  walk_at "rd_6"
  refine ⟨.int (n : Int), "int", rfl, ⟨.base (.int _), by simp⟩, ?_⟩
  walk_at "rd_6"
  refine iteF ?_
  walk_at "rd_6"
  refine ⟨_, rfl, rd_items T L (fun R h => rd_var rfl h) ⟨d, _, rfl, DGet.k (k := Sum.inl (n : Int)) hd, ?_⟩⟩
  rw [hv]
  walk_at "rd_6"
  refine iteF ?_
  walk_at "rd_6"
  exact q
def sp_Ledger_add (K : PySem.W.Frag) : Sp := fun vs H Q _ => ∃ (p d : Addr) (its : List (Nat × Itm)) (nx : Nat) (v : V) (i : Itm), vs = [.ref p, v] ∧ LgAt K H p d its nx ∧ ItmAt H v i ∧ (isEn i = true → (entsOf (its.map (·.2))).length ≤ 5) ∧ (isEn i = false → (stmsOf (its.map (·.2))).length ≤ 23) ∧ its.length ≤ 90 ∧
  ∀ J, LgAt K J p d (its ++ [(nx, i)]) (nx + 1) → Lk p d H J → Q (.int (nx : Int)) J
theorem ar_Ledger_add (K : PySem.W.Frag) : ∀ vs H Q E, sp_Ledger_add K vs H Q E → vs.length = 2 := by
  intro vs H Q E h
  obtain ⟨p, d, its, nx, v, i, rfl, _⟩ := h
  rfl
theorem its_len : ∀ is : List Itm, is.length = (entsOf is).length + (stmsOf is).length
  | [] => rfl
  | .en e :: r => by
    have := its_len r
    simp only [entsOf, stmsOf, List.length_cons]
    omega
  | .st e :: r => by
    have := its_len r
    simp only [entsOf, stmsOf, List.length_cons]
    omega
abbrev N_Ledger_add : List Str := ["self", "item", "kind", "most", "number"]
theorem sc_Ledger_add : FnScope N_Ledger_add ["self", "item"] (defScope S_Ledger_add) := ⟨rfl, rfl, rfl, by decide +kernel, rfl, by decide +kernel, by decide +kernel⟩
theorem ok_Ledger_add {P : Program} {w : World} {K : PySem.W.Frag} {mg : Str → Option Value} {base : Heap} {f : Addr} {fd : FuncData} (F : Fun K "add" "Ledger.add" S_Ledger_add f fd) {f_check_item : Addr} {fd_check_item : FuncData} (C_check_item : Cal P w K mg base "check_item" 6 f_check_item fd_check_item ["thing"] (sp_check_item K)) {C_L : Addr} (T : LgC K mg C_L) {f_Ledger__of_kind : Addr} {fd_Ledger__of_kind : FuncData} (C_Ledger__of_kind : CalM P w K mg base C_L "_of_kind" 1 f_Ledger__of_kind fd_Ledger__of_kind ["self", "kind"] (sp_Ledger__of_kind K)) (m_len : mg "len" = none) :
    FnG P w K mg base CX0 7 f fd ["self", "item"] (sp_Ledger_add K) := by
  refine Fun_okG F sc_Ledger_add (ar_Ledger_add K) (fun cdv A outer s H vs Q E hg hr h => ?_)
  obtain ⟨p, d, its, nx, v, i, rfl, L, hi, l5, l23, l90, q⟩ := h
  refine ⟨_, (pss_cons (ps_expr (pe_c C_check_item hg (hr.mono (by decide)) rfl (pa_cons (pv 1) pa_nil)))
    (pss_cons (ps_set (i := 2) sc_Ledger_add.nd rfl (Or.inl rfl) (pe_ix (ixK (K := K) rfl) (pv 1) pe_int (fun _ _ => rfl)))
    (pss_cons (ps_set (i := 3) sc_Ledger_add.nd rfl (Or.inl rfl) (pe_ifExp (pt_cmpR op_eq (pv 2) pe_str (nomark _)) (pe_con (pv 0) rfl) (pe_con (pv 0) rfl)))
    (pss_cons (ps_if (pt_cmpR op_ge (pe_callB (id := "len") (lenK (K := K) rfl) (by rfl) m_len (by decide +kernel) (pa_cons (pm_c T.cl C_Ledger__of_kind hg (hr.mono (by decide)) (pv 0) (pa_cons (pv 2) pa_nil)) pa_nil)) (pv 3) (nomark _)) (pss_one ps_dead) pss_nil)
    (pss_cons (ps_set (i := 4) sc_Ledger_add.nd rfl (Or.inl rfl) (pe_fld (pv 0) rfl))
    (pss_cons (ps_dput (hu_of hr) (pe_fld (pv 0) rfl) (pv 4) (pv 1) rfl)
    (pss_cons (ps_fld (pv 0) (pe_op op_add (pv 4) pe_int) rfl)
    (pss_one (ps_ret (pv 4)))))))))), ?_⟩
  have hlen := its_len (its.map (·.2))
  rw [List.length_map] at hlen
  walk_at "rd_6"
  refine ⟨v, i, rfl, hi, fun J s => ?_⟩
  have hiJ := hi.mono fun p xs e => s _ _ e
  have LJ := L.same s
  obtain ⟨pp, a, b, c, rfl, ep⟩ := hiJ.tup
  -- most, then the number of items of this kind
  have key : ∀ (kd : Str) (most : Int) (σ : L2.St), (kd = "entry" ∧ most = 6 ∧ (entsOf (its.map (·.2))).length ≤ 5 ∨ kd = "statement" ∧ most = 24 ∧ (stmsOf (its.map (·.2))).length ≤ 23) → ∀ z J2 ws js, Same J J2 → J2 z = some (.lst ws) → ItsAt J2 ws js → (kd = "entry" → js = (its.map (·.2)).filter isEn) → (kd = "statement" → js = (its.map (·.2)).filter fun i => !isEn i) → ¬ ((ws.length : Int) ≥ most) := by
    intro kd most σ hk z J2 ws js _ _ h1 h2 h3 h4
    have l := h1.len
    rcases hk with ⟨rfl, rfl, hk⟩ | ⟨rfl, rfl, hk⟩
    · rw [h2 rfl, entsOf_len] at l
      omega
    · rw [h3 rfl, stmsOf_len] at l
      omega
  have fin : ∀ (J2 : Hp) , Same J J2 → ∀ (Q2 : Hp → Prop), (∀ J3, LgAt K J3 p d (its ++ [(nx, i)]) (nx + 1) → Lk p d J2 J3 → Q2 J3) → ∃ dx kvs, J2 p = some (.ins C_L dx (lgF d nx)) ∧ J2 d = some (.dK kvs) ∧ kvs.length < sizeLine ∧
      ∀ J3, J3 = upd (upd J2 d (.dK (putK kvs (Sum.inl (nx : Int)) (.ref pp)))) p (.ins C_L dx (putF "_next_number" (.int ((nx : Int) + 1)) (lgF d nx))) → Q2 J3 := by
    intro J2 s2 Q2 h
    have L2' := LJ.same s2
    obtain ⟨dx, h1⟩ := L2'.obC T
    obtain ⟨kvs, hd, hkv⟩ := L2'.dc
    have npd := L2'.ne
    have nv := hkv.fresh fun x hx => Nat.ne_of_lt (L2'.lt x hx)
    refine ⟨dx, kvs, h1, hd, small1000 (by rw [hkv.len]; omega), fun J3 e => ?_⟩
    subst e
    have lk : Lk p d J2 (upd (upd J2 d (.dK (putK kvs (Sum.inl (nx : Int)) (.ref pp)))) p (.ins C_L dx (putF "_next_number" (.int ((nx : Int) + 1)) (lgF d nx)))) := fun a o e n1 n2 => by rw [upd_ne n1, upd_ne n2]; exact e
    refine h _ ⟨⟨C_L, dx, T.at_, ?_⟩, ⟨_, by rw [upd_ne npd.symm, upd_same], ?_⟩, ?_, ?_, ?_⟩ lk
    · rw [upd_same, show ((nx : Int) + 1) = ((nx + 1 : Nat) : Int) by omega, lgF_put]
    · rw [putK_new _ nv]
      rw [putK_new _ nv] at lk
      exact (KvsAt.snoc (n := nx) (hiJ.mono fun p xs e => s2 _ _ e) hkv).mono fun a xs e => L2'.tup lk e
    · rw [List.map_append, List.nodup_append]
      refine ⟨L2'.nd, by simp, fun a ha b hb => ?_⟩
      obtain ⟨x, hx, rfl⟩ := List.mem_map.mp ha
      obtain rfl := List.mem_singleton.mp hb
      exact Nat.ne_of_lt (L2'.lt x hx)
    · intro x hx
      rcases List.mem_append.mp hx with hx | hx
      · exact Nat.lt_succ_of_lt (L2'.lt x hx)
      · obtain rfl := List.mem_singleton.mp hx
        exact Nat.lt_succ_self _
    · rw [List.length_append, List.length_singleton]
      omega
  cases i with
  | en e =>
    have ep : J pp = some (.tup [.str "entry", a, b, c]) := ep
    walk_at "rd_6"
    refine iteT ?_
    refine rd_mostE T LJ (fun R h => rd_var rfl h) ?_
    walk_at "rd_6"
    refine rd_meth T LJ (fun R h => rd_var rfl h) ?_
    walk_at "rd_6"
    refine ⟨p, d, its, nx, _, rfl, LJ, .inl rfl, fun z J2 ws js nz s2 ez h1 h2 h3 => ?_⟩
    have nk := key "entry" 6 [] (.inl ⟨rfl, rfl, l5 rfl⟩) z J2 ws js s2 ez h1 h2 h3
    obtain ⟨dx, kvs, hp2, hd2, hz2, nxt⟩ := fin J2 s2 (Q (.int (nx : Int))) fun J3 L3 k3 => q J3 L3 ((Lk.of (Same.trans s s2)).trans k3)
    have LJ2 := LJ.same s2
    walk_at "rd_6"
    rw [decide_eq_false (by omega)]
    refine iteF ?_
    walk_at "rd_6"
    refine rd_nextN T LJ2 (fun R h => rd_var rfl h) ?_
    walk_at "rd_6"
    refine ⟨_, rfl, rd_items T LJ2 (fun R h => rd_var rfl h) ⟨_, rfl, d, _, rfl, DPut.k (k := Sum.inl (nx : Int)) hd2 hz2, ?_⟩⟩
    walk_at "rd_6"
    refine ⟨_, rfl, ?_⟩
    walk_at "rd_6"
    refine ⟨p, C_L, dx, _, rfl, (by rw [upd_ne LJ2.ne]; exact hp2), T.cl, T.nN, (by show 2 < 1000; decide), ?_⟩
    walk_at "rd_6"
    exact nxt _ rfl
  | st s0 =>
    have ep : J pp = some (.tup [.str "statement", a, b, c]) := ep
    walk_at "rd_6"
    refine rd_eqStr ?_
    rw [show decide (("statement" : Str) = "entry") = false from by decide +kernel]
    walk_at "rd_6"
    refine iteF ?_
    refine rd_mostS T LJ (fun R h => rd_var rfl h) ?_
    walk_at "rd_6"
    refine rd_meth T LJ (fun R h => rd_var rfl h) ?_
    walk_at "rd_6"
    refine ⟨p, d, its, nx, _, rfl, LJ, .inr rfl, fun z J2 ws js nz s2 ez h1 h2 h3 => ?_⟩
    have nk := key "statement" 24 [] (.inr ⟨rfl, rfl, l23 rfl⟩) z J2 ws js s2 ez h1 h2 h3
    obtain ⟨dx, kvs, hp2, hd2, hz2, nxt⟩ := fin J2 s2 (Q (.int (nx : Int))) fun J3 L3 k3 => q J3 L3 ((Lk.of (Same.trans s s2)).trans k3)
    have LJ2 := LJ.same s2
    walk_at "rd_6"
    rw [decide_eq_false (by omega)]
    refine iteF ?_
    walk_at "rd_6"
    refine rd_nextN T LJ2 (fun R h => rd_var rfl h) ?_
    walk_at "rd_6"
    refine ⟨_, rfl, rd_items T LJ2 (fun R h => rd_var rfl h) ⟨_, rfl, d, _, rfl, DPut.k (k := Sum.inl (nx : Int)) hd2 hz2, ?_⟩⟩
    walk_at "rd_6"
    refine ⟨_, rfl, ?_⟩
    walk_at "rd_6"
    refine ⟨p, C_L, dx, _, rfl, (by rw [upd_ne LJ2.ne]; exact hp2), T.cl, T.nN, (by show 2 < 1000; decide), ?_⟩
    walk_at "rd_6"
    exact nxt _ rfl
def sp_Ledger_drop (K : PySem.W.Frag) : Sp := fun vs H Q _ => ∃ (p d : Addr) (its : List (Nat × Itm)) (nx n : Nat) (i : Itm), vs = [.ref p, .int (n : Int)] ∧ LgAt K H p d its nx ∧ (n, i) ∈ its ∧
  ∀ v J, ItmAt J v i → LgAt K J p d (its.filter fun x => decide (x.1 ≠ n)) nx → Lk p d H J → Q v J
theorem ar_Ledger_drop (K : PySem.W.Frag) : ∀ vs H Q E, sp_Ledger_drop K vs H Q E → vs.length = 2 := by
  intro vs H Q E h
  obtain ⟨p, d, its, nx, n, i, rfl, _⟩ := h
  rfl
abbrev N_Ledger_drop : List Str := ["self", "number", "item"]
theorem sc_Ledger_drop : FnScope N_Ledger_drop ["self", "number"] (defScope S_Ledger_drop) := ⟨rfl, rfl, rfl, by decide +kernel, rfl, by decide +kernel, by decide +kernel⟩
theorem ok_Ledger_drop {P : Program} {w : World} {K : PySem.W.Frag} {mg : Str → Option Value} {base : Heap} {f : Addr} {fd : FuncData} (F : Fun K "drop" "Ledger.drop" S_Ledger_drop f fd) {C_L : Addr} (T : LgC K mg C_L) {f_Ledger__check_number : Addr} {fd_Ledger__check_number : FuncData} (C_Ledger__check_number : CalM P w K mg base C_L "_check_number" 2 f_Ledger__check_number fd_Ledger__check_number ["self", "number"] (sp_Ledger__check_number K)) :
    FnG P w K mg base CX0 3 f fd ["self", "number"] (sp_Ledger_drop K) := by
  refine Fun_okG F sc_Ledger_drop (ar_Ledger_drop K) (fun cdv A outer s H vs Q E hg hr h => ?_)
  obtain ⟨p, d, its, nx, n, i, rfl, L, hm, q⟩ := h
  refine ⟨_, (pss_cons (ps_expr (pm_c T.cl C_Ledger__check_number hg (hr.mono (by decide)) (pv 0) (pa_cons (pv 1) pa_nil)))
    (pss_cons (ps_set (i := 2) sc_Ledger_drop.nd rfl (Or.inl rfl) (pe_dget (hu_of hr) (pe_fld (pv 0) rfl) (pv 1) (fun _ _ => rfl)))
    (pss_cons (ps_ddel (pe_fld (pv 0) rfl) (pv 1))
    (pss_one (ps_ret (pv 2)))))), ?_⟩
  obtain ⟨dx, hp⟩ := L.obC T
  obtain ⟨kvs, hd, hkv⟩ := L.dc
  obtain ⟨v, hv, hi⟩ := hkv.val L.nd hm
  have npd := L.ne
  walk_at "rd_6"
  refine rd_meth T L (fun R h => rd_var rfl h) ?_
  walk_at "rd_6"
  refine ⟨p, d, its, nx, n, i, rfl, L, hm, ?_⟩
  walk_at "rd_6"
  refine rd_items T L (fun R h => rd_var rfl h) ?_
  walk_at "rd_6"
  refine ⟨d, v, rfl, (by rw [← hv]; exact DGet.k (k := Sum.inl (n : Int)) hd), ?_⟩
  walk_at "rd_6"
  refine rd_items T L (fun R h => rd_var rfl h) ⟨_, rfl, d, kvs, Sum.inl (n : Int), rfl, hd, rfl, by rw [hv]; rfl, ?_⟩
  walk_at "rd_6"
  have lk : Lk p d H (upd H d (.dK (dropK kvs (Sum.inl (n : Int))))) := fun a o e n1 n2 => by rw [upd_ne n2]; exact e
  refine q v _ (hi.mono fun a xs e => L.tup lk e) ⟨⟨C_L, dx, T.at_, by rw [upd_ne npd]; exact hp⟩, ⟨_, upd_same, (hkv.drop n).mono fun a xs e => L.tup lk e⟩, ?_, fun x hx => L.lt x (List.mem_filter.mp hx).1, ?_⟩ lk
  · exact (List.filter_sublist.map _).nodup L.nd
  · exact Nat.le_trans (List.length_filter_le ..) L.len

section
variable {K : PySem.W.Frag} {H J M : Hp} {b p d : Addr} {its : List (Nat × Itm)} {nx : Nat} {mg : Str → Option Value} {C : Addr} {σ : L2.St} {Q : VK}
theorem LgAt.kb (k : Kp b H J) (g : Bag b H) (L : LgAt K H p d its nx) : LgAt K J p d its nx := by
  obtain ⟨x, y, e⟩ := g
  exact L.kl k e
theorem LgAt.bag (L : LgAt K H p d its nx) (k : Lk p d H J) (g : Bag b H) : Bag b J := by
  obtain ⟨x, y, e⟩ := g
  exact ⟨x, y, L.lst k e⟩
theorem Kp.lk (k : Kp b H M) (l : Lk p d M J) (np : H p = none) (nd : H d = none) : Kp b H J := fun a o n e => l a o (k a o n e) (ne_of_none e np) (ne_of_none e nd)
theorem filt_new {i : Itm} (h : ∀ x ∈ its, x.1 < nx) : (its ++ [(nx, i)]).filter (fun x => decide (x.1 ≠ nx)) = its := by
  rw [List.filter_append, List.filter_eq_self.mpr fun x hx => decide_eq_true (Nat.ne_of_lt (h x hx))]
  simp
/-- Ledger() -/
theorem rd_make (T : LgC K mg C) (q : ∀ p d J, H p = none → H d = none → p ≠ d → Same H J → LgAt K J p d [] 0 → Q (.ref p) J) : tMake C (sp_Ledger___init__ K) [] E0 tNil σ H Q := by
  intro x dx nx ndx ne
  refine ⟨x, C, dx, rfl, T.at_, upd_same, fun d J nd L kp => ⟨rfl, ?_⟩⟩
  have d1 : d ≠ x := fun z => by
    subst z
    rw [upd_same] at nd
    cases nd
  rw [upd_ne d1] at nd
  have d2 : d ≠ dx := fun z => by
    subst z
    rw [upd_same] at nd
    cases nd
  rw [upd_ne d2] at nd
  refine q x d J nx nd d1.symm (fun a o e => kp a o ?_ (ne_of_none e nx)) L
  rw [upd_ne (ne_of_none e nx), upd_ne (ne_of_none e ndx)]
  exact e
end
theorem num_snoc {its : List (Nat × Itm)} {nx : Nat} {i : Itm} (h : (its.map (·.1)).Pairwise (· < ·)) (l : ∀ x ∈ its, x.1 < nx) : ((its ++ [(nx, i)]).map (·.1)).Pairwise (· < ·) := by
  rw [List.map_append, List.pairwise_append]
  refine ⟨h, List.pairwise_singleton .., fun a ha b hb => ?_⟩
  obtain ⟨x, hx, rfl⟩ := List.mem_map.mp ha
  obtain rfl := List.mem_singleton.mp hb
  exact l x hx
def sp__law_ledger (K : PySem.W.Frag) : Sp := fun vs H Q _ => ∃ (b l s : Addr) (ws us : List V) (es : List Ent) (ss : List Stm), vs = [.ref b, .ref l, .ref s] ∧ Bag b H ∧ H l = some (.lst ws) ∧ EntsAt H ws es ∧ (∀ e ∈ es, AmOk e) ∧ H s = some (.lst us) ∧ StmsAt H us ss ∧ (∀ s ∈ ss, StOk s) ∧ ws.length ≤ 6 ∧ us.length ≤ 23 ∧ l ≠ b ∧ s ≠ b ∧
  ∀ (p d : Addr) (its : List (Nat × Itm)) (nx : Nat) (J : Hp), H p = none → H d = none → LgAt K J p d its nx → (its.map (·.1)).Pairwise (· < ·) → (its.map (·.2)).Perm (es.map Itm.en ++ ss.map Itm.st) → nx ≤ 100 → Kp b H J → Bag b J → Q (.ref p) J
theorem ar__law_ledger (K : PySem.W.Frag) : ∀ vs H Q E, sp__law_ledger K vs H Q E → vs.length = 3 := by
  intro vs H Q E h
  obtain ⟨b, l, s, ws, us, es, ss, rfl, _⟩ := h
  rfl
abbrev N__law_ledger : List Str := ["_law_bag_here", "_law_entries_here", "_law_statements", "_law_ledger_here", "_law_queue"]
theorem sc__law_ledger : FnScope N__law_ledger ["_law_bag_here", "_law_entries_here", "_law_statements"] (defScope S__law_ledger) := ⟨rfl, rfl, rfl, by decide +kernel, rfl, by decide +kernel, by decide +kernel⟩
theorem ok__law_ledger {P : Program} {w : World} {K : PySem.W.Frag} {mg : Str → Option Value} {base : Heap} {f : Addr} {fd : FuncData} (F : Fun K "_law_ledger" "_law_ledger" S__law_ledger f fd) {f__law_take : Addr} {fd__law_take : FuncData} (C__law_take : Cal P w K mg base "_law_take" 1 f__law_take fd__law_take ["_law_bag_here", "_law_size"] (sp__law_take K)) {C_L : Addr} (T : LgC K mg C_L) {f_Ledger_add : Addr} {fd_Ledger_add : FuncData} (C_Ledger_add : CalM P w K mg base C_L "add" 7 f_Ledger_add fd_Ledger_add ["self", "item"] (sp_Ledger_add K)) {f_Ledger_drop : Addr} {fd_Ledger_drop : FuncData} (C_Ledger_drop : CalM P w K mg base C_L "drop" 3 f_Ledger_drop fd_Ledger_drop ["self", "number"] (sp_Ledger_drop K)) {f_mk : Addr} {fd_mk : FuncData} (ML : MkL P w K mg base C_L f_mk fd_mk (sp_Ledger___init__ K)) (m_len : mg "len" = none) (m_list : mg "list" = none) :
    FnG P w K mg base CX0 8 f fd ["_law_bag_here", "_law_entries_here", "_law_statements"] (sp__law_ledger K) := by
  refine Fun_okG F sc__law_ledger (ar__law_ledger K) (fun cdv A outer s H vs Q E hg hr h => ?_)
  obtain ⟨b, l, s, ws, us, es, ss, rfl, hb, hl, E1, ok1, hs, S1, ok2, lw, lu, nl, ns, q⟩ := h
  refine ⟨_, (pss_cons (ps_par (i := 3) (j := 4) rfl sc__law_ledger.nd rfl rfl (by decide) rfl rfl (pa_cons (pe_make0 ML.m ML.g (hr.mono (by decide)) rfl T.mgC ML.b .nil pass0) (pa_cons (pe_op op_cat (pe_callTy (T := "list") (lstK (K := K) rfl) (by rfl) m_list (by decide +kernel) (pa_cons (pv 1) pa_nil)) (pe_callTy (T := "list") (lstK (K := K) rfl) (by rfl) m_list (by decide +kernel) (pa_cons (pv 2) pa_nil))) pa_nil)) (by rfl))
    (pss_cons (ps_while PassesOwn.never (pt_cmpR (neK (K := K) rfl (room_u hr)) (pv 4) (pe_lst pa_nil) (nomark _)) (pss_cons (ps_if (pt_cmpR op_eq (pe_c C__law_take hg (hr.mono (by decide)) rfl (pa_cons (pv 0) (pa_cons pe_int pa_nil))) pe_int (nomark _)) (pss_one (ps_expr (pm_c T.cl C_Ledger_drop hg (hr.mono (by decide)) (pv 3) (pa_cons (pm_c T.cl C_Ledger_add hg (hr.mono (by decide)) (pv 3) (pa_cons (pe_tup (pa_cons pe_str (pa_cons pe_int (pa_cons pe_int (pa_cons pe_int pa_nil))))) pa_nil)) pa_nil)))) pss_nil)
    (pss_one (ps_expr (pm_c T.cl C_Ledger_add hg (hr.mono (by decide)) (pv 3) (pa_cons (pe_bm PySem.F.plainAttrs_list PySem.F.slot_list_pop PySem.F.type_list_pop mt_popAt (pv 4) (pa_cons (pe_c C__law_take hg (hr.mono (by decide)) rfl (pa_cons (pv 0) (pa_cons (pe_callB (id := "len") (lenK (K := K) rfl) (by rfl) m_len (by decide +kernel) (pa_cons (pv 4) pa_nil)) pa_nil))) pa_nil)) pa_nil))))))
    (pss_one (ps_ret (pv 3))))), ?_⟩
  have lnE := E1.len
  have lnS := S1.len
  walk_at "rd_6"
  refine rd_make T fun p d J1 np nd npd s1 L1 => ?_
  walk_at "rd_6"
  refine rd_lstOf (SqL.of (s1 _ _ hl)) fun z1 J2 n2 s2 e2 => ?_
  walk_at "rd_6"
  refine rd_lstOf (SqL.of ((Same.trans s1 s2) _ _ hs)) fun z2 J3 n3 s3 e3 => ?_
  walk_at "rd_6"
  refine rd_catK (s3 _ _ e2) e3 (by omega) fun r J4 n4 s4 e4 => ?_
  walk_at "rd_6"
  have s14 : Same J1 J4 := Same.trans s2 (Same.trans s3 s4)
  have sH4 : Same H J4 := Same.trans s1 s14
  have L4 := L1.same s14
  have nrH : H r = none := Same.free s1 (Same.free s2 (Same.free s3 n4))
  have I4 : ItsAt J4 (ws ++ us) (es.map Itm.en ++ ss.map Itm.st) := ((E1.mono fun p xs h => sH4 _ _ h).asI ok1).app ((S1.mono fun p xs h => sH4 _ _ h).asI ok2)
  have rb : r ≠ b := hb.ne nrH
  have g4 := hb.same sH4
  have kH4 : Kp b H J4 := Kp.of sH4
  clear s1 s2 s3 s4 s14 e2 e3 n2 n3 n4 L1 E1 S1 hl hs
  refine ⟨fun k σ M => ∃ (xs : List V) (ks : List Itm) (its : List (Nat × Itm)) (nx : Nat), σ = [some (.ref b), some (.ref l), some (.ref s), some (.ref p), some (.ref r)] ∧ M r = some (.lst xs) ∧ LgAt K M p d its nx ∧ ItsAt M xs ks ∧ ((its.map (·.2)) ++ ks).Perm (es.map Itm.en ++ ss.map Itm.st) ∧ Kp b H M ∧ Bag b M ∧ nx + 2 * xs.length ≤ 58 ∧ (its.map (·.1)).Pairwise (· < ·) ∧ k = xs.length,
    ⟨_, ws ++ us, _, [], 0, rfl, e4, L4, I4, List.Perm.refl _, kH4, g4, by rw [List.length_append]; omega, .nil, rfl⟩, ?_⟩
  rintro k σ M ⟨xs, ks, its, nx, rfl, hr', LM, tx, pm, kM, bM, bn, asc, rfl⟩
  have ent : (entsOf (its.map (·.2))).length + (entsOf ks).length = es.length := by
    have := (entsOf_perm pm).length_eq
    rw [entsOf_app, entsOf_app, entsOf_en, entsOf_st, List.length_append, List.append_nil] at this
    exact this
  have stm : (stmsOf (its.map (·.2))).length + (stmsOf ks).length = ss.length := by
    have := (stmsOf_perm pm).length_eq
    rw [stmsOf_app, stmsOf_app, stmsOf_en, stmsOf_st, List.length_append, List.nil_append] at this
    exact this
  have lxs : xs.length ≤ 29 := by
    have h1 := tx.len
    have h2 := its_len ks
    omega
  walk_at "rd_6"
  rename_i z J3 n3 s3 e3
  refine rd_neNilI (SqL.of (s3 _ _ hr')) (tx.mono fun p xs h => s3 _ _ h) e3 ?_
  walk_at "rd_6"
  have b3 := bM.same s3
  have k3 := kM.trans (Kp.of s3)
  have r3 := s3 _ _ hr'
  have L3 := LM.same s3
  have tx3 : ItsAt J3 xs ks := tx.mono fun p xs h => s3 _ _ h
  clear s3 e3 n3 hr' tx kM bM L4 I4 e4 kH4 g4 LM
  refine rd_ifn (fun c => ?_) (fun c => ?_)
  · refine ⟨_, fun _ _ h => h, ?_⟩
    have pos : 0 < xs.length := List.length_pos_iff.mpr c
    walk_at "rd_6"
    refine ⟨b, 6, rfl, b3, by decide, by decide, fun w J4 w0 w1 k4 g4 => ?_⟩
    have L4 := L3.kb k4 b3
    have r4 := k4 _ _ rb r3
    have t4 : ItsAt J4 xs ks := tx3.mono fun p xs h => k4.tup b3 h
    have kk4 := k3.trans k4
    clear k4 k3 r3 tx3 L3 b3
    walk_at "rd_6"
    refine rd_if (fun c2 => ?_) (fun c2 => ?_)
    · walk_at "rd_6"
      refine rd_meth T L4 (fun R h => rd_var rfl h) ?_
      walk_at "rd_6"
      refine rd_meth T L4 (fun R h => rd_var rfl h) ?_
      walk_at "rd_6"
      rename_i p5 J5 n5 s5 e5
      have L5 := L4.same s5
      refine ⟨p, d, its, nx, .ref p5, .st ⟨0, 1, 7⟩, rfl, L5, ⟨⟨p5, rfl, e5⟩, by decide, by decide⟩, (fun z => by cases z), (fun _ => by omega), by have := its_len (its.map (·.2)); rw [List.length_map] at this; omega, fun J6 L6 k6 => ?_⟩
      walk_at "rd_6"
      refine ⟨p, d, _, nx + 1, nx, .st ⟨0, 1, 7⟩, rfl, L6, List.mem_append_right _ (List.mem_singleton.mpr rfl), fun v J7 _ L7 k7 => ?_⟩
      rw [filt_new L5.lt] at L7
      have l57 : Lk p d J4 J7 := (Lk.of s5).trans (k6.trans k7)
      have r7 := L4.lst l57 r4
      have g7 := L4.bag l57 g4
      have t7 : ItsAt J7 xs ks := t4.mono fun a xs h => L4.tup l57 h
      have kk7 := kk4.lk l57 np nd
      clear l57 k6 k7 s5 L5 L6 e5 n5 L4 r4 g4 t4 kk4
      walk_at "rd_6"
      refine rd_meth T L7 (fun R h => rd_var rfl h) ?_
      walk_at "rd_6"
      refine ⟨b, xs.length, rfl, g7, by omega, by omega, fun w J8 w0 w1 k8 g8 => ?_⟩
      obtain ⟨w, rfl⟩ := Int.eq_ofNat_of_zero_le w0
      obtain ⟨y, hy⟩ : ∃ y, xs[w]? = some y := ⟨_, List.getElem?_eq_getElem (by omega)⟩
      have r8 := k8 _ _ rb r7
      have L8 := L7.kb k8 g7
      have t8 : ItsAt J8 xs ks := t7.mono fun p xs h => k8.tup g7 h
      have kk8 := kk7.trans k8
      clear L7 g7 r7 t7 kk7 k8
      walk_at "rd_6"
      refine rd_popAt r8 (by omega) hy fun J9 p9 e9 => ?_
      have L9 := L8.kl p9.1 r8
      have g9 := p9.bag rb g8
      have t9 : ItsAt J9 xs ks := t8.mono fun a xs h => p9.tup h
      have kk9 : Kp b H J9 := fun a o ne e => p9.1 a o (ne_of_none e nrH) (kk8 a o ne e)
      obtain ⟨js, pj, tj⟩ := t9.perm (perm_eraseIdx hy).symm
      have le : (xs.eraseIdx w).length + 1 = xs.length := by rw [List.length_eraseIdx_of_lt (by omega)]; omega
      clear L8 g8 r8 t8 kk8 p9 t9
      cases tj with
      | @cons _ i _ js hi t =>
        walk_at "rd_6"
        refine ⟨p, d, its, nx + 1, y, i, rfl, L9, hi, (fun z => by
          have e := (entsOf_perm pj).length_eq
          cases i with
          | en e0 => simp only [entsOf, List.length_cons] at e; omega
          | st s0 => cases z), (fun _ => by
          have e := (stmsOf_perm pj).length_eq
          omega), by have := its_len (its.map (·.2)); rw [List.length_map] at this; omega, fun J10 L10 k10 => ?_⟩
        walk_at "rd_6"
        refine ⟨(xs.eraseIdx w).length, by omega, xs.eraseIdx w, js, _, _, rfl, L9.lst k10 e9, L10, t.mono fun a xs h => L9.tup k10 h, ?_, kk9.lk k10 np nd, L9.bag k10 g9, by omega, num_snoc asc L9.lt, rfl⟩
        rw [List.map_append, List.append_assoc]
        exact (List.Perm.append_left _ pj.symm).trans pm
    · walk_at "rd_6"
      walk_at "rd_6"
      refine rd_meth T L4 (fun R h => rd_var rfl h) ?_
      walk_at "rd_6"
      refine ⟨b, xs.length, rfl, g4, by omega, by omega, fun w J8 w0 w1 k8 g8 => ?_⟩
      obtain ⟨w, rfl⟩ := Int.eq_ofNat_of_zero_le w0
      obtain ⟨y, hy⟩ : ∃ y, xs[w]? = some y := ⟨_, List.getElem?_eq_getElem (by omega)⟩
      have r8 := k8 _ _ rb r4
      have L8 := L4.kb k8 g4
      have t8 : ItsAt J8 xs ks := t4.mono fun p xs h => k8.tup g4 h
      have kk8 := kk4.trans k8
      clear L4 g4 r4 t4 kk4 k8
      walk_at "rd_6"
      refine rd_popAt r8 (by omega) hy fun J9 p9 e9 => ?_
      have L9 := L8.kl p9.1 r8
      have g9 := p9.bag rb g8
      have t9 : ItsAt J9 xs ks := t8.mono fun a xs h => p9.tup h
      have kk9 : Kp b H J9 := fun a o ne e => p9.1 a o (ne_of_none e nrH) (kk8 a o ne e)
      obtain ⟨js, pj, tj⟩ := t9.perm (perm_eraseIdx hy).symm
      have le : (xs.eraseIdx w).length + 1 = xs.length := by rw [List.length_eraseIdx_of_lt (by omega)]; omega
      clear L8 g8 r8 t8 kk8 p9 t9
      cases tj with
      | @cons _ i _ js hi t =>
        walk_at "rd_6"
        refine ⟨p, d, its, nx, y, i, rfl, L9, hi, (fun z => by
          have e := (entsOf_perm pj).length_eq
          cases i with
          | en e0 => simp only [entsOf, List.length_cons] at e; omega
          | st s0 => cases z), (fun _ => by
          have e := (stmsOf_perm pj).length_eq
          omega), by have := its_len (its.map (·.2)); rw [List.length_map] at this; omega, fun J10 L10 k10 => ?_⟩
        walk_at "rd_6"
        refine ⟨(xs.eraseIdx w).length, by omega, xs.eraseIdx w, js, _, _, rfl, L9.lst k10 e9, L10, t.mono fun a xs h => L9.tup k10 h, ?_, kk9.lk k10 np nd, L9.bag k10 g9, by omega, num_snoc asc L9.lt, rfl⟩
        rw [List.map_append, List.append_assoc]
        exact (List.Perm.append_left _ pj.symm).trans pm
  · subst c
    walk_at "rd_6"
    cases tx3
    rw [List.append_nil] at pm
    exact q p d its nx J3 np nd L3 asc pm (by omega) k3 b3

/-! ### choices, _telling, allowed -/
/-- the choices of a stretch: a number and the units that tell it -/
def chD (G : Nat) (es : List Ent) (d n : Nat) : List (Int × (Nat → Bool)) :=
  if ptU G (bS G es d) = ptU G (bS G es (d + n)) then [((bS G es (d + n) - bS G es d).fdiv (G : Int), fun _ => true)]
  else [((bS G es (d + n) - bS G es d).fdiv (G : Int), arcF (ptU G (bS G es d)) (ptU G (bS G es (d + n)))), ((bS G es (d + n) - bS G es d).fdiv (G : Int) + 1, arcF (ptU G (bS G es (d + n))) (ptU G (bS G es d)))]
theorem low_fdiv {t x y : Int} {g : Nat} (h : IsLow t (g : Int) x y) (g0 : 0 < g) : x.fdiv y = t.fdiv (g : Int) := by
  obtain ⟨y0, _, e, _, _⟩ := h
  have G0 : (0 : Int) < (g : Int) := by omega
  rw [Int.fdiv_eq_ediv_of_nonneg _ (by omega), Int.fdiv_eq_ediv_of_nonneg _ (by omega)]
  have a1 := Int.emod_nonneg x (show y ≠ 0 by omega)
  have a2 := Int.emod_lt_of_pos x y0
  have a3 := Int.emod_add_mul_ediv x y
  refine ((Int.ediv_emod_unique G0 (r := t - (g : Int) * (x / y))).mpr ⟨by omega, ?_, ?_⟩).1.symm
  · refine Int.le_of_mul_le_mul_right (a := y) ?_ y0
    have : (t - (g : Int) * (x / y)) * y = (x % y) * (g : Int) := by grind
    rw [this, Int.zero_mul]
    exact Int.mul_nonneg a1 (by omega)
  · refine Int.lt_of_mul_lt_mul_right (a := y) ?_ (by omega)
    have : (t - (g : Int) * (x / y)) * y = (x % y) * (g : Int) := by grind
    rw [this, Int.mul_comm (g : Int) y]
    exact Int.mul_lt_mul_of_pos_right a2 G0
theorem chD_hit {G : Nat} {es : List Ent} {d n : Nat} (g0 : 0 < G) {i : Nat} {a : Int} {f : Nat → Bool} (e : (chD G es d n)[i]? = some (a, f)) {u : Nat} (hu : u < G) : f u = tellF G es d n a u := by
  unfold chD at e
  unfold tellF
  split at e
  · rename_i c
    match i, e with
    | 0, e =>
      obtain ⟨rfl, rfl⟩ := Prod.mk.inj (Option.some.inj e)
      rw [told_same g0 c hu, decide_eq_true rfl]
    | i + 1, e => simp at e
  · rename_i c
    obtain ⟨t, o⟩ := told_arcs g0 c hu
    rw [t]
    match i, e with
    | 0, e =>
      obtain ⟨rfl, rfl⟩ := Prod.mk.inj (Option.some.inj e)
      cases arcF (ptU G (bS G es d)) (ptU G (bS G es (d + n))) u
      · exact (decide_eq_false (by simp; omega)).symm
      · exact (decide_eq_true (by simp)).symm
    | 1, e =>
      obtain ⟨rfl, rfl⟩ := Prod.mk.inj (Option.some.inj e)
      rw [o]
      cases arcF (ptU G (bS G es d)) (ptU G (bS G es (d + n))) u
      · exact (decide_eq_true (by simp)).symm
      · exact (decide_eq_false (by simp; omega)).symm
    | i + 2, e => simp at e
theorem chD_no {G : Nat} {es : List Ent} {d n : Nat} (g0 : 0 < G) {num : Int} (no : ∀ r ∈ chD G es d n, r.1 ≠ num) {u : Nat} (hu : u < G) : tellF G es d n num u = false := by
  unfold tellF
  unfold chD at no
  refine decide_eq_false fun z => ?_
  split at no
  · rename_i c
    rw [told_same g0 c hu] at z
    exact no _ (List.mem_cons_self ..) z
  · rename_i c
    rw [(told_arcs g0 c hu).1] at z
    split at z
    · exact no _ (List.mem_cons_self ..) (by omega)
    · exact no _ (List.mem_cons_of_mem _ (List.mem_cons_self ..)) z
def ChAt (K : PySem.W.Frag) (H J : Hp) (G : Nat) (r : V) (c : Int × (Nat → Bool)) : Prop := ∃ t L rs ss, r = .ref t ∧ SqT K J t [.int c.1, .ref L] ∧ H L = none ∧ J L = some (.lst rs) ∧ SnsAt K J rs ss ∧ Frm G c.2 ss ∧ rs.length ≤ 2
inductive ChsAt (K : PySem.W.Frag) (H J : Hp) (G : Nat) : List V → List (Int × (Nat → Bool)) → Prop
  | nil : ChsAt K H J G [] []
  | cons {r : V} {rs : List V} {c : Int × (Nat → Bool)} {cs : List (Int × (Nat → Bool))} (h : ChAt K H J G r c) (t : ChsAt K H J G rs cs) : ChsAt K H J G (r :: rs) (c :: cs)
theorem ChsAt.len {K : PySem.W.Frag} {H J : Hp} {G : Nat} : ∀ {rs : List V} {cs : List (Int × (Nat → Bool))}, ChsAt K H J G rs cs → rs.length = cs.length
  | _, _, .nil => rfl
  | _, _, .cons _ t => congrArg (· + 1) t.len
theorem ChsAt.get {K : PySem.W.Frag} {H J : Hp} {G : Nat} : ∀ {rs : List V} {cs : List (Int × (Nat → Bool))}, ChsAt K H J G rs cs → ∀ {i : Nat} {r : V}, rs[i]? = some r → ∃ c, cs[i]? = some c ∧ ChAt K H J G r c
  | _, _, .nil, _, _, e => by cases e
  | _, _, .cons h _, 0, _, e => by
    obtain rfl := Option.some.inj e
    exact ⟨_, rfl, h⟩
  | _, _, .cons _ t, _ + 1, _, e => t.get e
def sp_choices (K : PySem.W.Frag) : Sp := fun vs H Q _ => ∃ (l p : Addr) (es : List Ent) (d n G : Nat), vs = [.ref l, .ref p] ∧ SqT K H p [.int (d : Int), .int (n : Int)] ∧ Led H l es G ∧ 1 ≤ n ∧ d + n ≤ 10 ^ 30 ∧
  ∀ z J rs, Same H J → H z = none → J z = some (.lst rs) → ChsAt K H J G rs (chD G es d n) → Q (.ref z) J
theorem ar_choices (K : PySem.W.Frag) : ∀ vs H Q E, sp_choices K vs H Q E → vs.length = 2 := by
  intro vs H Q E h
  obtain ⟨l, p, es, d, n, G, rfl, _⟩ := h
  rfl
abbrev N_choices : List Str := ["entries", "stretch", "first", "many", "lesser", "start", "end"]
theorem sc_choices : FnScope N_choices ["entries", "stretch"] (defScope S_choices) := ⟨rfl, rfl, rfl, by decide +kernel, rfl, by decide +kernel, by decide +kernel⟩
theorem ok_choices {P : Program} {w : World} {K : PySem.W.Frag} {mg : Str → Option Value} {base : Heap} {f : Addr} {fd : FuncData} (F : Fun K "choices" "choices" S_choices f fd) {f_arc : Addr} {fd_arc : FuncData} (C_arc : Cal P w K mg base "arc" 2 f_arc fd_arc ["low", "high"] (sp_arc K)) {f_point : Addr} {fd_point : FuncData} (C_point : Cal P w K mg base "point" 6 f_point fd_point ["entries", "day"] (sp_point K)) {f_floor_of : Addr} {fd_floor_of : FuncData} (C_floor_of : Cal P w K mg base "floor_of" 1 f_floor_of fd_floor_of ["ratio"] (sp_floor_of K)) {f_exact : Addr} {fd_exact : FuncData} (C_exact : Cal P w K mg base "exact" 6 f_exact fd_exact ["entries", "stretch"] (sp_exact K)) {z_ONE : Addr} (c_ONE : TupC K mg "ONE" z_ONE [V.int 1, V.int 1]) {z_ZERO : Addr} (c_ZERO : TupC K mg "ZERO" z_ZERO [V.int 0, V.int 1]) :
    FnG P w K mg base CX0 7 f fd ["entries", "stretch"] (sp_choices K) := by
  refine Fun_okG F sc_choices (ar_choices K) (fun cdv A outer s H vs Q E hg hr h => ?_)
  obtain ⟨l, p, es, d, n, G, rfl, hp, L, n1, dn, q⟩ := h
  refine ⟨_, (pss_cons (ps_asg (pv 1) (pg_tup rfl (pgs_cons (pg_name (i := 2) sc_choices.nd rfl (Or.inl rfl)) (pgs_cons (pg_name (i := 3) sc_choices.nd rfl (Or.inl rfl)) pgs_nil))))
    (pss_cons (ps_set (i := 4) sc_choices.nd rfl (Or.inl rfl) (pe_c C_floor_of hg (hr.mono (by decide)) rfl (pa_cons (pe_c C_exact hg (hr.mono (by decide)) rfl (pa_cons (pv 0) (pa_cons (pv 1) pa_nil))) pa_nil)))
    (pss_cons (ps_set (i := 5) sc_choices.nd rfl (Or.inl rfl) (pe_c C_point hg (hr.mono (by decide)) rfl (pa_cons (pv 0) (pa_cons (pv 2) pa_nil))))
    (pss_cons (ps_set (i := 6) sc_choices.nd rfl (Or.inl rfl) (pe_c C_point hg (hr.mono (by decide)) rfl (pa_cons (pv 0) (pa_cons (pe_op op_add (pv 2) (pv 3)) pa_nil))))
    (pss_cons (ps_if (pt_cmpR (eqK (K := K) rfl (room_u hr)) (pv 5) (pv 6) (nomark _)) (pss_one (ps_ret (pe_lst (pa_cons (pe_tup (pa_cons (pv 4) (pa_cons (pe_lst (pa_cons (pe_tup (pa_cons (pe_glob (v := V.ref z_ZERO) (u := Value.ref z_ZERO) rfl c_ZERO.m rfl) (pa_cons (pe_glob (v := V.ref z_ONE) (u := Value.ref z_ONE) rfl c_ONE.m rfl) pa_nil))) pa_nil)) pa_nil))) pa_nil)))) pss_nil)
    (pss_one (ps_ret (pe_lst (pa_cons (pe_tup (pa_cons (pv 4) (pa_cons (pe_c C_arc hg (hr.mono (by decide)) rfl (pa_cons (pv 5) (pa_cons (pv 6) pa_nil))) pa_nil))) (pa_cons (pe_tup (pa_cons (pe_op op_add (pv 4) pe_int) (pa_cons (pe_c C_arc hg (hr.mono (by decide)) rfl (pa_cons (pv 6) (pa_cons (pv 5) pa_nil))) pa_nil))) pa_nil)))))))))), ?_⟩
  have g1 := L.lt
  have g0 := L.pos
  walk_at "rd_6"
  refine ⟨l, p, es, d, n, G, rfl, hp, L, n1, dn, fun ze xe ye J low s nz hz => ?_⟩
  have bye : Bd 2000 ye := (show Bd 500 ye from Nat.lt_of_le_of_lt low.2.2.2.2 g1).mono (by decide)
  walk_at "rd_6"
  refine ⟨ze, xe, ye, rfl, hz, low.1, bye, ?_⟩
  have efl : xe.fdiv ye = (bS G es (d + n) - bS G es d).fdiv (G : Int) := low_fdiv low g0
  walk_at "rd_6"
  refine ⟨l, es, d, G, rfl, L.same s, by omega, fun za xa ya J2 lowa s2 nza hza => ?_⟩
  walk_at "rd_6"
  rw [show (d : Int) + (n : Int) = ((d + n : Nat) : Int) by omega]
  refine ⟨l, es, d + n, G, rfl, (L.same s).same s2, dn, fun zb xb yb J3 lowb s3 nzb hzb => ?_⟩
  rw [← (ptU_eq g0 (bS G es d)).1] at lowa
  rw [← (ptU_eq g0 (bS G es (d + n))).1] at lowb
  have pa := (ptU_eq g0 (bS G es d)).2
  have pb := (ptU_eq g0 (bS G es (d + n))).2
  have ra : Ra K J3 za xa ya := ⟨SqT.of (s3 _ _ hza), lowa.1, lowa.2.1, (show Bd 500 xa from Nat.lt_of_le_of_lt lowa.2.2.2.1 (Nat.lt_trans (show (ptU G _ : Int).natAbs < G from by rw [Int.natAbs_natCast]; exact pa) g1)).mono (by decide), (show Bd 500 ya from Nat.lt_of_le_of_lt lowa.2.2.2.2 g1).mono (by decide)⟩
  have rb : Ra K J3 zb xb yb := ⟨SqT.of hzb, lowb.1, lowb.2.1, (show Bd 500 xb from Nat.lt_of_le_of_lt lowb.2.2.2.1 (Nat.lt_trans (show (ptU G _ : Int).natAbs < G from by rw [Int.natAbs_natCast]; exact pb) g1)).mono (by decide), (show Bd 500 yb from Nat.lt_of_le_of_lt lowb.2.2.2.2 g1).mono (by decide)⟩
  have sa := ra.sq
  have sb := rb.sq
  walk_at "rd_6"
  refine rd_if (fun c => ?_) (fun c => ?_)
  · have eq : ptU G (bS G es d) = ptU G (bS G es (d + n)) := by
      obtain ⟨rfl, rfl⟩ := c
      exact low_inj lowa lowb
    walk_at "rd_6"
    rename_i p4 J4 m4 s4 e4 p5 J5 m5 s5 e5 p6 J6 m6 s6 e6 z J7 m7 s7 e7
    have h3 : Same H J3 := Same.trans s (Same.trans s2 s3)
    have h5 : Same H J5 := Same.trans h3 (Same.trans s4 s5)
    have h7 : Same J4 J7 := Same.trans s5 (Same.trans s6 s7)
    refine q z J7 _ (Same.trans h5 (Same.trans s6 s7)) (Same.free h5 (Same.free s6 m7)) e7 ?_
    rw [show chD G es d n = [((bS G es (d + n) - bS G es d).fdiv (G : Int), fun _ => true)] from if_pos eq]
    refine .cons ⟨p6, p5, [.ref p4], [⟨0, 1, 1, 1⟩], rfl, ?_, Same.free (Same.trans h3 s4) m5, s7 _ _ (s6 _ _ e5), ?_, frm_all g0, Nat.le_of_ble_eq_true rfl⟩ .nil
    · rw [← efl]
      exact SqT.of (s7 _ _ e6)
    · exact .cons ⟨p4, z_ZERO, z_ONE, rfl, SqT.of (h7 _ _ e4), ⟨c_ZERO.sq J7, by decide, by decide, zero_lit, one_lit⟩, ⟨c_ONE.sq J7, by decide, by decide, one_lit, one_lit⟩⟩ .nil
  · have ne : ptU G (bS G es d) ≠ ptU G (bS G es (d + n)) := fun z => c (by
      rw [z] at lowa
      exact low_same lowa lowb g0 rfl)
    walk_at "rd_6"
    refine ⟨za, zb, xa, ya, xb, yb, rfl, ra, rb, fun L1 M1 rs1 nL1 t1 eL1 sn1 ll1 => ?_⟩
    walk_at "rd_6"
    rename_i p5 J5 m5 s5 e5
    have t5 : Same J3 J5 := Same.trans t1 s5
    refine ⟨zb, za, xb, yb, xa, ya, rfl, rb.mono fun xs h => sqt_same t5 h, ra.mono fun xs h => sqt_same t5 h, fun L2 M2 rs2 nL2 t2 eL2 sn2 ll2 => ?_⟩
    walk_at "rd_6"
    rename_i p6 J6 m6 s6 e6 z J7 m7 s7 e7
    have h3 : Same H J3 := Same.trans s (Same.trans s2 s3)
    have h5 : Same H J5 := Same.trans h3 t5
    have h6 : Same H J6 := Same.trans h5 (Same.trans t2 s6)
    have h57 : Same J5 J7 := Same.trans t2 (Same.trans s6 s7)
    have h27 : Same M2 J7 := Same.trans s6 s7
    refine q z J7 _ (Same.trans h6 s7) (Same.free h6 m7) e7 ?_
    rw [show chD G es d n = _ from if_neg ne]
    refine .cons ⟨p5, L1, rs1, _, rfl, ?_, Same.free h3 nL1, h57 _ _ (s5 _ _ eL1), sn1.mono fun a xs h => sqt_same (Same.trans s5 h57) h, frm_arcF pa pb lowa lowb, ll1⟩ (.cons ⟨p6, L2, rs2, _, rfl, ?_, Same.free h5 nL2, h27 _ _ eL2, sn2.mono fun a xs h => sqt_same h27 h, frm_arcF pb pa lowb lowa, ll2⟩ .nil)
    · rw [← efl]
      exact SqT.of (h57 _ _ e5)
    · rw [← efl]
      exact SqT.of (s7 _ _ e6)
def sp__telling (K : PySem.W.Frag) : Sp := fun vs H Q _ => ∃ (l p : Addr) (es : List Ent) (d n G : Nat) (num : Int), vs = [.ref l, .ref p, .int num] ∧ SqT K H p [.int (d : Int), .int (n : Int)] ∧ Led H l es G ∧ 1 ≤ n ∧ d + n ≤ 10 ^ 30 ∧
  ∀ z J rs ss, Same H J → H z = none → J z = some (.lst rs) → SnsAt K J rs ss → Frm G (tellF G es d n num) ss → rs.length ≤ 2 → Q (.ref z) J
theorem ar__telling (K : PySem.W.Frag) : ∀ vs H Q E, sp__telling K vs H Q E → vs.length = 3 := by
  intro vs H Q E h
  obtain ⟨l, p, es, d, n, G, num, rfl, _⟩ := h
  rfl
abbrev N__telling : List Str := ["entries", "stretch", "number", "choice", "cuts"]
theorem sc__telling : FnScope N__telling ["entries", "stretch", "number"] (defScope S__telling) := ⟨rfl, rfl, rfl, by decide +kernel, rfl, by decide +kernel, by decide +kernel⟩
theorem ok__telling {P : Program} {w : World} {K : PySem.W.Frag} {mg : Str → Option Value} {base : Heap} {f : Addr} {fd : FuncData} (F : Fun K "_telling" "_telling" S__telling f fd) {f_choices : Addr} {fd_choices : FuncData} (C_choices : Cal P w K mg base "choices" 7 f_choices fd_choices ["entries", "stretch"] (sp_choices K)) :
    FnG P w K mg base CX0 8 f fd ["entries", "stretch", "number"] (sp__telling K) := by
  refine Fun_okG F sc__telling (ar__telling K) (fun cdv A outer s H vs Q E hg hr h => ?_)
  obtain ⟨l, p, es, d, n, G, num, rfl, hp, L, n1, dn, q⟩ := h
  refine ⟨_, (pss_cons (ps_for PassesOwn.never rfl (piL (K := K) rfl (pe_c C_choices hg (hr.mono (by decide)) rfl (pa_cons (pv 0) (pa_cons (pv 1) pa_nil)))) (pgT (K := K) rfl rfl (pgs_cons (pg_name (i := 3) sc__telling.nd rfl (Or.inl rfl)) (pgs_cons (pg_name (i := 4) sc__telling.nd rfl (Or.inl rfl)) pgs_nil))) (pss_one (ps_if (pt_cmpR op_eq (pv 3) (pv 2) (nomark _)) (pss_one (ps_ret (pv 4))) pss_nil)))
    (pss_one (ps_ret (pe_lst pa_nil)))), ?_⟩
  have g0 := L.pos
  walk_at "rd_6"
  refine ⟨l, p, es, d, n, G, rfl, hp, L, n1, dn, fun zc J rs s nz hz cs => ?_⟩
  have ln := cs.len
  walk_at "rd_6"
  refine lp_lst (xs := rs) (fun i σ' M => (∃ (o3 o4 : Option V), σ' = [some (.ref l), some (.ref p), some (.int num), o3, o4]) ∧ M = J ∧ ∀ j r, j < i → (chD G es d n)[j]? = some r → r.1 ≠ num)
    ⟨⟨none, none, rfl⟩, rfl, fun j r h => by omega⟩ (fun i σ M _ w => ?_) (fun i r σ M hr w => ?_) (fun σ M w => ?_)
  · obtain ⟨⟨o3, o4, rfl⟩, rfl, no⟩ := w
    exact SqL.of hz
  · obtain ⟨⟨o3, o4, rfl⟩, rfl, no⟩ := w
    obtain ⟨c, ec, t, Lc, rs', ss, rfl, ht, nL, hL, sn, fr, ll⟩ := cs.get hr
    walk_at "rd_6"
    refine rd_if (fun c2 => ?_) (fun c2 => ?_)
    · walk_at "rd_6"
      have c2 : c.1 = num := c2
      exact q Lc _ rs' ss s nL hL sn (fr.congr fun u hu => (chD_hit g0 ec hu).trans (by rw [c2])) ll
    · walk_at "rd_6"
      have c2 : c.1 ≠ num := c2
      refine ⟨⟨_, _, rfl⟩, rfl, fun j r h e => ?_⟩
      by_cases cj : j = i
      · subst cj
        rw [ec] at e
        obtain rfl := Option.some.inj e
        exact c2
      · exact no j r (by omega) e
  · obtain ⟨⟨o3, o4, rfl⟩, rfl, no⟩ := w
    walk_at "rd_6"
    rename_i z J2 nz2 s2 e2
    refine q z J2 [] [] (Same.trans s s2) (Same.free s nz2) e2 .nil ((frm_nil g0).congr fun u hu => (chD_no g0 (fun r hr => ?_) hu).symm) (by decide)
    obtain ⟨j, hj, ej⟩ := List.mem_iff_getElem.mp hr
    exact no j r (by omega) (by rw [List.getElem?_eq_getElem hj, ej])
def sp_allowed (K : PySem.W.Frag) : Sp := fun vs H Q _ => ∃ (l p : Addr) (es : List Ent) (w : V) (d n G : Nat) (num : Int), vs = [.ref l, .ref p] ∧ SqT K H p [w, .int (d : Int), .int (n : Int), .int num] ∧ Led H l es G ∧ 1 ≤ n ∧ d + n ≤ 10 ^ 30 ∧
  ∀ z J rs ss, Same H J → H z = none → J z = some (.lst rs) → SnsAt K J rs ss → Frm G (tellF G es d n num) ss → rs.length ≤ 2 → Q (.ref z) J
theorem ar_allowed (K : PySem.W.Frag) : ∀ vs H Q E, sp_allowed K vs H Q E → vs.length = 2 := by
  intro vs H Q E h
  obtain ⟨l, p, es, w, d, n, G, num, rfl, _⟩ := h
  rfl
abbrev N_allowed : List Str := ["entries", "statement", "_", "first", "many", "number"]
theorem sc_allowed : FnScope N_allowed ["entries", "statement"] (defScope S_allowed) := ⟨rfl, rfl, rfl, by decide +kernel, rfl, by decide +kernel, by decide +kernel⟩
theorem ok_allowed {P : Program} {w : World} {K : PySem.W.Frag} {mg : Str → Option Value} {base : Heap} {f : Addr} {fd : FuncData} (F : Fun K "allowed" "allowed" S_allowed f fd) {f__telling : Addr} {fd__telling : FuncData} (C__telling : Cal P w K mg base "_telling" 8 f__telling fd__telling ["entries", "stretch", "number"] (sp__telling K)) :
    FnG P w K mg base CX0 9 f fd ["entries", "statement"] (sp_allowed K) := by
  refine Fun_okG F sc_allowed (ar_allowed K) (fun cdv A outer s H vs Q E hg hr h => ?_)
  obtain ⟨l, p, es, w, d, n, G, num, rfl, hp, L, n1, dn, q⟩ := h
  refine ⟨_, (pss_cons (ps_asg (pv 1) (pg_tup rfl (pgs_cons (pg_name (i := 2) sc_allowed.nd rfl (Or.inl rfl)) (pgs_cons (pg_name (i := 3) sc_allowed.nd rfl (Or.inl rfl)) (pgs_cons (pg_name (i := 4) sc_allowed.nd rfl (Or.inl rfl)) (pgs_cons (pg_name (i := 5) sc_allowed.nd rfl (Or.inl rfl)) pgs_nil))))))
    (pss_one (ps_ret (pe_c C__telling hg (hr.mono (by decide)) rfl (pa_cons (pv 0) (pa_cons (pe_tup (pa_cons (pv 3) (pa_cons (pv 4) pa_nil))) (pa_cons (pv 5) pa_nil))))))), ?_⟩
  walk_at "rd_6"
  rename_i p2 J2 m2 s2 e2
  refine ⟨l, p2, es, d, n, G, num, rfl, SqT.of e2, L.same s2, n1, dn, fun z J rs ss s nz ez sn fr ll => ?_⟩
  exact q z J rs ss (Same.trans s2 s) (Same.free s2 nz) ez sn fr ll

def saidL (G : Nat) (es : List Ent) (ss : List Stm) (u : Nat) : List Int := ss.map fun s => toldN G es (u : Int) s.first s.many
def okU (G : Nat) (es : List Ent) (ss : List Stm) (u : Nat) : Bool := decide (saidL G es ss u = ss.map Stm.num)

section
variable {K : PySem.W.Frag} {H : Hp}
theorem sql_same {J : Hp} {a : Addr} {xs : List V} (s : Same H J) (h : SqL K H a xs) : SqL K J a xs := by
  rcases h with (e | ⟨u, e⟩) | e
  · exact .inl (.inl (s _ _ e))
  · exact .inl (.inr ⟨u, s _ _ e⟩)
  · exact .inr e
theorem KvsAt.stok : ∀ {kvs : List (Key × V)} {its : List (Nat × Itm)}, KvsAt H kvs its → ∀ s ∈ stmsOf (its.map (·.2)), StOk s
  | _, _, .nil, _, m => by cases m
  | _, _, .cons (i := .en _) h t, s, m => t.stok s m
  | _, _, .cons (i := .st _) h t, s, m => by
    rcases List.mem_cons.mp m with rfl | m
    · exact h.2
    · exact t.stok s m
mutual
theorem dp_same {J : Hp} (s : Same H J) : ∀ {v : V} {d : PyData}, Dp K H v d → Dp K J v d
  | _, _, .int i => .int i
  | _, _, .bl b => .bl b
  | _, _, .non => .non
  | _, _, .str x => .str x
  | _, _, .lst h t => .lst (sql_same s h) (dpAll_same s t)
  | _, _, .tup h t => .tup (sqt_same s h) (dpAll_same s t)
theorem dpAll_same {J : Hp} (s : Same H J) : ∀ {vs : List V} {ds : List PyData}, DpAll K H vs ds → DpAll K J vs ds
  | _, _, .nil => .nil
  | _, _, .cons h t => .cons (dp_same s h) (dpAll_same s t)
end
end
theorem okU_snoc {G : Nat} {es : List Ent} {ss : List Stm} {s : Stm} (u : Nat) : okU G es (ss ++ [s]) u = (okU G es ss u && tellF G es s.first s.many s.num u) := by
  unfold okU tellF saidL
  rw [List.map_append, List.map_append, Bool.eq_iff_iff, Bool.and_eq_true, decide_eq_true_iff, decide_eq_true_iff, decide_eq_true_iff]
  constructor
  · intro h
    have := List.append_inj h (by simp)
    exact ⟨this.1, by simpa using this.2⟩
  · rintro ⟨h1, h2⟩
    rw [h1]
    simpa using h2
theorem okU_iff {G : Nat} {es : List Ent} {ss : List Stm} {u : Nat} : okU G es ss u = true ↔ ∀ s ∈ ss, toldN G es (u : Int) s.first s.many = s.num := by
  unfold okU saidL
  rw [decide_eq_true_iff]
  exact List.map_inj_left
def sp_telling_all (K : PySem.W.Frag) : Sp := fun vs H Q _ => ∃ (l sl : Addr) (es : List Ent) (sws : List V) (ss : List Stm) (G : Nat), vs = [.ref l, .ref sl] ∧ Led H l es G ∧ H sl = some (.lst sws) ∧ StmsAt H sws ss ∧ sws.length ≤ 24 ∧ (∀ s ∈ ss, StOk s) ∧
  ∀ rs zs z J, Same H J → H z = none → J z = some (.lst rs) → SnsAt K J rs zs → Frm G (okU G es ss) zs → rs.length ≤ 60 → Q (.ref z) J
theorem ar_telling_all (K : PySem.W.Frag) : ∀ vs H Q E, sp_telling_all K vs H Q E → vs.length = 2 := by
  intro vs H Q E h
  obtain ⟨l, sl, es, sws, ss, G, rfl, _⟩ := h
  rfl
abbrev N_telling_all : List Str := ["entries", "statements", "cuts", "statement"]
theorem sc_telling_all : FnScope N_telling_all ["entries", "statements"] (defScope S_telling_all) := ⟨rfl, rfl, rfl, by decide +kernel, rfl, by decide +kernel, by decide +kernel⟩
theorem ok_telling_all {P : Program} {w : World} {K : PySem.W.Frag} {mg : Str → Option Value} {base : Heap} {f : Addr} {fd : FuncData} (F : Fun K "telling_all" "telling_all" S_telling_all f fd) {f_both : Addr} {fd_both : FuncData} (C_both : Cal P w K mg base "both" 2 f_both fd_both ["one", "other"] (sp_both K)) {f_allowed : Addr} {fd_allowed : FuncData} (C_allowed : Cal P w K mg base "allowed" 9 f_allowed fd_allowed ["entries", "statement"] (sp_allowed K)) {z_ONE : Addr} (c_ONE : TupC K mg "ONE" z_ONE [V.int 1, V.int 1]) {z_ZERO : Addr} (c_ZERO : TupC K mg "ZERO" z_ZERO [V.int 0, V.int 1]) :
    FnG P w K mg base CX0 10 f fd ["entries", "statements"] (sp_telling_all K) := by
  refine Fun_okG F sc_telling_all (ar_telling_all K) (fun cdv A outer s H vs Q E hg hr h => ?_)
  obtain ⟨l, sl, es, sws, ss, G, rfl, L, hs, st, lw, ok, q⟩ := h
  refine ⟨_, (pss_cons (ps_set (i := 2) sc_telling_all.nd rfl (Or.inl rfl) (pe_lst (pa_cons (pe_tup (pa_cons (pe_glob (v := V.ref z_ZERO) (u := Value.ref z_ZERO) rfl c_ZERO.m rfl) (pa_cons (pe_glob (v := V.ref z_ONE) (u := Value.ref z_ONE) rfl c_ONE.m rfl) pa_nil))) pa_nil)))
    (pss_cons (ps_for PassesOwn.never rfl (piL (K := K) rfl (pv 1)) (pg_name (i := 3) sc_telling_all.nd rfl (Or.inl rfl)) (pss_one (ps_set (i := 2) sc_telling_all.nd rfl (Or.inl rfl) (pe_c C_both hg (hr.mono (by decide)) rfl (pa_cons (pv 2) (pa_cons (pe_c C_allowed hg (hr.mono (by decide)) rfl (pa_cons (pv 0) (pa_cons (pv 3) pa_nil))) pa_nil))))))
    (pss_one (ps_ret (pv 2))))), ?_⟩
  have g0 := L.pos
  have ln := st.len
  walk_at "rd_6"
  rename_i p1 J1 n1 s1 e1 c J2 n2 s2 e2
  have s12 : Same H J2 := Same.trans s1 s2
  refine lp_lst (xs := sws) (fun i σ' M => ∃ (c : Addr) (o3 : Option V) (rs : List V) (zs : List Sn), σ' = [some (.ref l), some (.ref sl), some (.ref c), o3] ∧ Same H M ∧ H c = none ∧ M c = some (.lst rs) ∧ SnsAt K M rs zs ∧ Frm G (okU G es (ss.take i)) zs ∧ rs.length ≤ 1 + 2 * i)
    ⟨c, none, _, [⟨0, 1, 1, 1⟩], rfl, s12, Same.free s1 n2, e2, .cons ⟨p1, z_ZERO, z_ONE, rfl, SqT.of (s2 _ _ e1), ⟨c_ZERO.sq J2, by decide, by decide, zero_lit, one_lit⟩, ⟨c_ONE.sq J2, by decide, by decide, one_lit, one_lit⟩⟩ .nil, (frm_all g0).congr fun u hu => (okU_iff.mpr fun s hs => by cases hs).symm, Nat.le_refl _⟩
    (fun i σ M _ w => ?_) (fun i r σ M hr w => ?_) (fun σ M w => ?_)
  · obtain ⟨c, o3, rs, zs, rfl, sM, _⟩ := w
    exact SqL.of (sM _ _ hs)
  · obtain ⟨c, o3, rs, zs, rfl, sM, nc, hc, sn, fr, lc⟩ := w
    have li : i < sws.length := (List.getElem?_eq_some_iff.mp hr).1
    obtain ⟨s0, es0, p0, rfl, ep0⟩ := st.get hr
    have ok0 := ok _ (List.mem_of_getElem? es0)
    walk_at "rd_6"
    refine ⟨l, p0, es, .str "statement", s0.first, s0.many, G, s0.num, rfl, SqT.of (sM _ _ ep0), L.same sM, ok0.2, ok0.1, fun z J3 rs2 zs2 s3 nz ez sn2 fr2 ll2 => ?_⟩
    walk_at "rd_6"
    refine ⟨c, z, rs, rs2, zs, zs2, rfl, s3 _ _ hc, ez, sn.mono fun p xs h => sqt_same s3 h, sn2, by omega, by omega, fun c2 J4 ws n4 s4 e4 sn4 le4 => ?_⟩
    walk_at "rd_6"
    refine ⟨c2, _, ws, _, rfl, Same.trans sM (Same.trans s3 s4), Same.free sM (Same.free s3 n4), e4, sn4, (Frm.both fr fr2).congr fun u hu => ?_, by omega⟩
    rw [show ss.take (i + 1) = ss.take i ++ [s0] by rw [List.take_add_one, es0]; rfl, okU_snoc]
  · obtain ⟨c, o3, rs, zs, rfl, sM, nc, hc, sn, fr, lc⟩ := w
    walk_at "rd_6"
    rw [ln, List.take_length] at fr
    exact q rs zs c M sM nc hc sn fr (by omega)
def sp_left (K : PySem.W.Frag) : Sp := fun vs H Q _ => ∃ (p d : Addr) (its : List (Nat × Itm)) (nx G : Nat), vs = [.ref p] ∧ LgAt K H p d its nx ∧ 0 < G ∧ G < 2 ^ 500 ∧ (∀ e ∈ entsOf (its.map (·.2)), Fits G e.am) ∧ (entsOf (its.map (·.2))).length ≤ 10 ∧ (stmsOf (its.map (·.2))).length ≤ 24 ∧
  ∀ rs zs z J, Same H J → H z = none → J z = some (.lst rs) → SnsAt K J rs zs → Frm G (okU G (entsOf (its.map (·.2))) (stmsOf (its.map (·.2)))) zs → rs.length ≤ 60 → Q (.ref z) J
theorem ar_left (K : PySem.W.Frag) : ∀ vs H Q E, sp_left K vs H Q E → vs.length = 1 := by
  intro vs H Q E h
  obtain ⟨p, d, its, nx, G, rfl, _⟩ := h
  rfl
abbrev N_left : List Str := ["ledger"]
theorem sc_left : FnScope N_left ["ledger"] (defScope S_left) := ⟨rfl, rfl, rfl, by decide +kernel, rfl, by decide +kernel, by decide +kernel⟩
theorem ok_left {P : Program} {w : World} {K : PySem.W.Frag} {mg : Str → Option Value} {base : Heap} {f : Addr} {fd : FuncData} (F : Fun K "left" "left" S_left f fd) {f_telling_all : Addr} {fd_telling_all : FuncData} (C_telling_all : Cal P w K mg base "telling_all" 10 f_telling_all fd_telling_all ["entries", "statements"] (sp_telling_all K)) {C_L : Addr} (T : LgC K mg C_L) {f_Ledger_statements : Addr} {fd_Ledger_statements : FuncData} (C_Ledger_statements : CalM P w K mg base C_L "statements" 2 f_Ledger_statements fd_Ledger_statements ["self"] (sp_Ledger_statements K)) {f_Ledger_entries : Addr} {fd_Ledger_entries : FuncData} (C_Ledger_entries : CalM P w K mg base C_L "entries" 2 f_Ledger_entries fd_Ledger_entries ["self"] (sp_Ledger_entries K)) :
    FnG P w K mg base CX0 11 f fd ["ledger"] (sp_left K) := by
  refine Fun_okG F sc_left (ar_left K) (fun cdv A outer s H vs Q E hg hr h => ?_)
  obtain ⟨p, d, its, nx, G, rfl, L, g0, g1, fit, l10, l24, q⟩ := h
  refine ⟨_, (pss_one (ps_ret (pe_c C_telling_all hg (hr.mono (by decide)) rfl (pa_cons (pm_c0 T.cl C_Ledger_entries hg (hr.mono (by decide)) (pv 0)) (pa_cons (pm_c0 T.cl C_Ledger_statements hg (hr.mono (by decide)) (pv 0)) pa_nil))))), ?_⟩
  walk_at "rd_6"
  refine rd_meth T L (fun R h => rd_var rfl h) ?_
  walk_at "rd_6"
  refine ⟨p, d, its, nx, rfl, L, fun z1 J1 ws n1 s1 e1 E1 => ?_⟩
  have L1 := L.same s1
  walk_at "rd_6"
  refine rd_meth T L1 (fun R h => rd_var rfl h) ?_
  walk_at "rd_6"
  refine ⟨p, d, its, nx, rfl, L1, fun z2 J2 us n2 s2 e2 S2 => ?_⟩
  obtain ⟨kvs, _, hkv⟩ := L.dc
  walk_at "rd_6"
  refine ⟨z1, z2, _, us, _, G, rfl, ⟨ws, s2 _ _ e1, E1.mono fun p xs h => s2 _ _ h, fit, g0, g1, by rw [E1.len]; exact l10⟩, e2, S2, by rw [S2.len]; exact l24, hkv.stok, fun rs zs z J s nz ez sn fr ll => ?_⟩
  have s12 := Same.trans s1 s2
  exact q rs zs z J (Same.trans s12 s) (Same.free s12 nz) ez sn fr ll

def sp__law_amount (K : PySem.W.Frag) : Sp := fun vs H Q _ => ∃ (b : Addr), vs = [.ref b] ∧ Bag b H ∧ ∀ (p : Addr) (x y : Int) J, 0 < y → Int.gcd x y = 1 → Bd 20 x → Bd 20 y → (x.natAbs ≤ 1000000 ∧ y ≤ 1000000) → H p = none → J p = some (.tup [.int x, .int y]) → Kp b H J → Bag b J → Q (.ref p) J
theorem ar__law_amount (K : PySem.W.Frag) : ∀ vs H Q E, sp__law_amount K vs H Q E → vs.length = 1 := by
  intro vs H Q E h
  obtain ⟨b, rfl, _⟩ := h
  rfl
abbrev N__law_amount : List Str := ["_law_bag_here", "_law_under", "_law_tops"]
theorem sc__law_amount : FnScope N__law_amount ["_law_bag_here"] (defScope S__law_amount) := ⟨rfl, rfl, rfl, by decide +kernel, rfl, by decide +kernel, by decide +kernel⟩
theorem ok__law_amount {P : Program} {w : World} {K : PySem.W.Frag} {mg : Str → Option Value} {base : Heap} {f : Addr} {fd : FuncData} (F : Fun K "_law_amount" "_law_amount" S__law_amount f fd) {f__law_lowest : Addr} {fd__law_lowest : FuncData} (C__law_lowest : Cal P w K mg base "_law_lowest" 2 f__law_lowest fd__law_lowest ["_law_top", "_law_under"] (sp__law_lowest K)) {f__law_take : Addr} {fd__law_take : FuncData} (C__law_take : Cal P w K mg base "_law_take" 1 f__law_take fd__law_take ["_law_bag_here", "_law_size"] (sp__law_take K)) :
    FnG P w K mg base CX0 3 f fd ["_law_bag_here"] (sp__law_amount K) := by
  refine Fun_okG F sc__law_amount (ar__law_amount K) (fun cdv A outer s H vs Q E hg hr h => ?_)
  obtain ⟨b, rfl, hb, q⟩ := h
  refine ⟨_, (pss_cons (ps_set (i := 1) sc__law_amount.nd rfl (Or.inl rfl) (pe_ix (ixK (K := K) rfl) (pe_lst (pa_cons pe_int (pa_cons pe_int (pa_cons pe_int (pa_cons pe_int (pa_cons pe_int (pa_cons pe_int (pa_cons pe_int (pa_cons pe_int (pa_cons pe_int (pa_cons pe_int (pa_cons pe_int pa_nil)))))))))))) (pe_c C__law_take hg (hr.mono (by decide)) rfl (pa_cons (pv 0) (pa_cons pe_int pa_nil))) (fun _ _ => rfl)))
    (pss_cons (ps_set (i := 2) sc__law_amount.nd rfl (Or.inl rfl) (pe_lst (pa_cons (pe_c C__law_take hg (hr.mono (by decide)) rfl (pa_cons (pv 0) (pa_cons (pe_op op_add (pe_op op_ml pe_int (pv 1)) pe_int) pa_nil))) (pa_cons (pe_op op_sub (pe_c C__law_take hg (hr.mono (by decide)) rfl (pa_cons (pv 0) (pa_cons (pe_op op_add (pv 1) pe_int) pa_nil))) (pv 1)) (pa_cons pe_int (pa_cons (pe_op op_sub (pe_c C__law_take hg (hr.mono (by decide)) rfl (pa_cons (pv 0) (pa_cons pe_int pa_nil))) pe_int) pa_nil))))))
    (pss_one (ps_ret (pe_c C__law_lowest hg (hr.mono (by decide)) rfl (pa_cons (pe_ix (ixK (K := K) rfl) (pv 2) (pe_c C__law_take hg (hr.mono (by decide)) rfl (pa_cons (pv 0) (pa_cons pe_int pa_nil))) (fun _ _ => rfl)) (pa_cons (pv 1) pa_nil))))))), ?_⟩
  walk_at "rd_6"
  rename_i p1 J1 n1 s1 e1
  have m1 : p1 ≠ b := hb.ne n1
  have g1 := hb.same s1
  refine ⟨b, 11, rfl, g1, by decide, by decide, fun r2 J2 r2a r2b k2 g2 => ?_⟩
  refine rd_pick (k2 _ _ m1 e1) r2a r2b fun v hv => ?_
  obtain ⟨u, rfl, u1, u2⟩ : ∃ u : Int, v = .int u ∧ 1 ≤ u ∧ u ≤ 12 := by
    simp only [List.mem_cons, List.not_mem_nil, or_false] at hv
    rcases hv with rfl | rfl | rfl | rfl | rfl | rfl | rfl | rfl | rfl | rfl | rfl
    all_goals exact ⟨_, rfl, by decide, by decide⟩
  have K2 : Kp b H J2 := (Kp.of s1).trans k2
  clear hv k2 s1 g1 e1 m1 n1
  walk_at "rd_6"
  refine ⟨b, 2 * u + 1, rfl, g2, by omega, by omega, fun r3 J3 r3a r3b k3 g3 => ?_⟩
  walk_at "rd_6"
  refine ⟨b, u + 1, rfl, g3, by omega, by omega, fun r4 J4 r4a r4b k4 g4 => ?_⟩
  walk_at "rd_6"
  refine ⟨b, 60, rfl, g4, by decide, by decide, fun r5 J5 r5a r5b k5 g5 => ?_⟩
  walk_at "rd_6"
  rename_i p6 J6 n6 s6 e6
  have m6 : p6 ≠ b := g5.ne n6
  have g6 := g5.same s6
  refine ⟨b, 4, rfl, g6, by decide, by decide, fun r7 J7 r7a r7b k7 g7 => ?_⟩
  have K7 : Kp b H J7 := K2.trans (k3.trans (k4.trans (k5.trans ((Kp.of s6).trans k7))))
  refine rd_pick (k7 _ _ m6 e6) r7a r7b fun v hv => ?_
  obtain ⟨t, rfl, t1⟩ : ∃ t : Int, v = .int t ∧ t.natAbs ≤ 1000 := by
    simp only [List.mem_cons, List.not_mem_nil, or_false] at hv
    rcases hv with rfl | rfl | rfl | rfl
    all_goals exact ⟨_, rfl, by omega⟩
  clear hv K2 k3 k4 k5 s6 k7 g2 g3 g4 g5 g6 e6 m6 n6
  walk_at "rd_6"
  refine ⟨t, u, rfl, by omega, Bd.mono (m := 20) (by unfold Bd; omega) (by decide), fun x y p J8 low np s8 e8 => ?_⟩
  exact q p x y J8 low.1 low.2.1 (by have := low.2.2.2.1; unfold Bd; omega) (by have := low.2.2.2.2; unfold Bd; omega) (by have := low.2.2.2.1; have := low.2.2.2.2; omega) (K7.free g7 np) e8 (K7.trans (Kp.of s8)) (g7.same s8)
def sp__law_entry (K : PySem.W.Frag) : Sp := fun vs H Q _ => ∃ (b : Addr) (last : Nat), vs = [.ref b, .int (last : Int)] ∧ Bag b H ∧ last ≤ 1000 ∧ ∀ (v : V) (e : Ent) J, EntAt J v e → AmOk e → e.first + e.many ≤ last + 1 → Kp b H J → Bag b J → Q v J
theorem ar__law_entry (K : PySem.W.Frag) : ∀ vs H Q E, sp__law_entry K vs H Q E → vs.length = 2 := by
  intro vs H Q E h
  obtain ⟨b, last, rfl, _⟩ := h
  rfl
abbrev N__law_entry : List Str := ["_law_bag_here", "_law_last", "_law_first", "_law_many", "_law_k"]
theorem sc__law_entry : FnScope N__law_entry ["_law_bag_here", "_law_last"] (defScope S__law_entry) := ⟨rfl, rfl, rfl, by decide +kernel, rfl, by decide +kernel, by decide +kernel⟩
theorem ok__law_entry {P : Program} {w : World} {K : PySem.W.Frag} {mg : Str → Option Value} {base : Heap} {f : Addr} {fd : FuncData} (F : Fun K "_law_entry" "_law_entry" S__law_entry f fd) {f__law_take : Addr} {fd__law_take : FuncData} (C__law_take : Cal P w K mg base "_law_take" 1 f__law_take fd__law_take ["_law_bag_here", "_law_size"] (sp__law_take K)) {f__law_amount : Addr} {fd__law_amount : FuncData} (C__law_amount : Cal P w K mg base "_law_amount" 3 f__law_amount fd__law_amount ["_law_bag_here"] (sp__law_amount K)) (m_tuple : mg "tuple" = none) (m_range : mg "range" = none) :
    FnG P w K mg base CX0 4 f fd ["_law_bag_here", "_law_last"] (sp__law_entry K) := by
  refine Fun_okG F sc__law_entry (ar__law_entry K) (fun cdv A outer s H vs Q E hg hr h => ?_)
  obtain ⟨b, last, rfl, hb, lb, q⟩ := h
  refine ⟨_, (pss_cons (ps_set (i := 2) sc__law_entry.nd rfl (Or.inl rfl) (pe_ix (ixK (K := K) rfl) (pe_lst (pa_cons pe_int (pa_cons (pe_c C__law_take hg (hr.mono (by decide)) rfl (pa_cons (pv 0) (pa_cons (pe_op op_add (pv 1) pe_int) pa_nil))) pa_nil))) (pe_c C__law_take hg (hr.mono (by decide)) rfl (pa_cons (pv 0) (pa_cons pe_int pa_nil))) (fun _ _ => rfl)))
    (pss_cons (ps_set (i := 3) sc__law_entry.nd rfl (Or.inl rfl) (pe_ix (ixK (K := K) rfl) (pe_lst (pa_cons (pe_op op_sub (pe_op op_add (pv 1) pe_int) (pv 2)) (pa_cons (pe_op op_add pe_int (pe_c C__law_take hg (hr.mono (by decide)) rfl (pa_cons (pv 0) (pa_cons (pe_op op_sub (pe_op op_add (pv 1) pe_int) (pv 2)) pa_nil)))) pa_nil))) (pe_c C__law_take hg (hr.mono (by decide)) rfl (pa_cons (pv 0) (pa_cons pe_int pa_nil))) (fun _ _ => rfl)))
    (pss_one (ps_ret (pe_tup (pa_cons pe_str (pa_cons (pv 2) (pa_cons (pv 3) (pa_cons (pe_callTy (T := "tuple") (tupK (K := K) rfl) (by rfl) m_tuple (by decide +kernel) (pa_cons (pe_lc (own := [("_law_k", 4)]) rfl sc__law_entry.nd (pi_range1 rfl m_range (pa_cons (pe_op op_add pe_int (pe_c C__law_take hg (hr.mono (by decide)) rfl (pa_cons (pv 0) (pa_cons pe_int pa_nil)))) pa_nil)) (blkOk_by (own := [("_law_k", 4)]) (N := N__law_entry) (sc := defScope S__law_entry) (by decide +kernel)) (fun _ _ _ _ _ => (pg_name (i := 4) sc__law_entry.nd rfl (Or.inl rfl))) (fun _ _ _ _ _ => pts_nil) (fun _ _ _ _ _ => (pe_c C__law_amount hg (hr.mono (by decide)) rfl (pa_cons (pv 0) pa_nil)))) pa_nil)) pa_nil))))))))), ?_⟩
  walk_at "rd_6"
  refine ⟨b, last + 1, rfl, hb, by omega, by omega, fun r1 J1 r1a r1b k1 g1 => ?_⟩
  walk_at "rd_6"
  rename_i p2 J2 n2 s2 e2
  have m2 : p2 ≠ b := g1.ne n2
  have g2 := g1.same s2
  refine ⟨b, 2, rfl, g2, by decide, by decide, fun r3 J3 r3a r3b k3 g3 => ?_⟩
  have K3 : Kp b H J3 := k1.trans ((Kp.of s2).trans k3)
  refine rd_pick (k3 _ _ m2 e2) r3a r3b fun v hv => ?_
  obtain ⟨first, rfl, f1⟩ : ∃ f : Nat, v = .int (f : Int) ∧ f ≤ last := by
    simp only [List.mem_cons, List.not_mem_nil, or_false] at hv
    rcases hv with rfl | rfl
    · exact ⟨0, rfl, by omega⟩
    · exact ⟨r1.toNat, by rw [Int.toNat_of_nonneg r1a], by omega⟩
  clear hv k1 s2 k3 g1 g2 e2 m2 n2
  walk_at "rd_6"
  refine ⟨b, last + 1 - first, rfl, g3, by omega, by omega, fun r4 J4 r4a r4b k4 g4 => ?_⟩
  walk_at "rd_6"
  rename_i p5 J5 n5 s5 e5
  have m5 : p5 ≠ b := g4.ne n5
  have g5 := g4.same s5
  refine ⟨b, 2, rfl, g5, by decide, by decide, fun r6 J6 r6a r6b k6 g6 => ?_⟩
  have K6 : Kp b H J6 := K3.trans (k4.trans ((Kp.of s5).trans k6))
  refine rd_pick (k6 _ _ m5 e5) r6a r6b fun v hv => ?_
  obtain ⟨many, rfl, m1, ml⟩ : ∃ f : Nat, v = .int (f : Int) ∧ 1 ≤ f ∧ first + f ≤ last + 1 := by
    simp only [List.mem_cons, List.not_mem_nil, or_false] at hv
    rcases hv with rfl | rfl
    · exact ⟨last + 1 - first, by congr 1; omega, by omega, by omega⟩
    · exact ⟨(1 + r4).toNat, by rw [Int.toNat_of_nonneg (by omega)], by omega, by omega⟩
  clear hv K3 k4 s5 k6 g3 g4 g5 e5 m5 n5
  walk_at "rd_6"
  refine ⟨b, 4, rfl, g6, by decide, by decide, fun r7 J7 r7a r7b k7 g7 => ?_⟩
  have K7 := K6.trans k7
  clear K6 k7 g6
  walk_at "rd_6"
  have hn : (1 + r7).toNat ≤ 4 ∧ 1 ≤ (1 + r7).toNat := by omega
  generalize (1 + r7).toNat = N at hn ⊢
  intro D nD
  have mD : D ≠ b := g7.ne nD
  refine lc_growB (fun i ys J => Kd b D J7 J ∧ Bag b J ∧ ∃ l, AmsAt J ys l ∧ ∀ r ∈ l, r.1.natAbs ≤ 1000000 ∧ r.2 ≤ 1000000) ⟨Kd.start _, g7.new nD, [], .nil, fun r hr => by cases hr⟩ (fun i ys J hi hy hD w => ?_) fun ys J8 hy hD w => ?_
  · obtain ⟨kd, gJ, l, hl, ao⟩ := w
    walk_at "rd_6"
    refine ⟨rfl, ?_⟩
    walk_at "rd_6"
    refine ⟨b, rfl, gJ, fun p x y J2 y0 gg bx bu xy np ep k2 g2 => ?_⟩
    refine lcEndB_mk (k2 _ _ mD hD) hy (by omega) fun J4 p4 e4 => ⟨(kd.kp k2).pu p4, p4.bag mD g2, l ++ [(x, y)], ?_, fun r hr => (List.mem_append.mp hr).elim (ao r) fun h => by
      obtain rfl := List.mem_singleton.mp h
      exact xy⟩
    exact (hl.mono fun p xs h => p4.tup (k2.tup gJ h)).snoc (p4.tup ep) y0 gg bx bu
  obtain ⟨kd, g8, l, hl, ao⟩ := w
  have K8 := K7.trans (kd.of nD)
  have ln := hl.len
  clear K7 g7 kd nD
  walk_at "rd_6"
  refine rd_tupL (SqL.of hD) fun t J9 nt s9 e9 => ?_
  walk_at "rd_6"
  rename_i p10 J10 n10 s10 e10
  have s8 := Same.trans s9 s10
  refine q _ ⟨first, many, l⟩ J10 ⟨p10, t, ys, rfl, e10, s10 _ _ e9, hl.mono fun p xs h => s8 _ _ h, ?_, ?_, ?_, m1⟩ ao ml (K8.trans (Kp.of s8)) (g8.same s8)
  · intro z
    rw [show l = [] from z, List.length_nil] at ln
    omega
  · show l.length ≤ 4
    omega
  · show first + many ≤ 10 ^ 30
    omega
def sp__law_entries (K : PySem.W.Frag) : Sp := fun vs H Q _ => ∃ (b : Addr) (last most : Nat), vs = [.ref b, .int (last : Int), .int (most : Int)] ∧ Bag b H ∧ last ≤ 1000 ∧ most ≤ 100 ∧ ∀ (l : Addr) (ws : List V) (es : List Ent) J, l ≠ b → H l = none → J l = some (.lst ws) → EntsAt J ws es → ws.length ≤ most → (∀ e ∈ es, AmOk e) → (∀ e ∈ es, e.first + e.many ≤ last + 1) → Kp b H J → Bag b J → Q (.ref l) J
theorem ar__law_entries (K : PySem.W.Frag) : ∀ vs H Q E, sp__law_entries K vs H Q E → vs.length = 3 := by
  intro vs H Q E h
  obtain ⟨b, last, most, rfl, _⟩ := h
  rfl
abbrev N__law_entries : List Str := ["_law_bag_here", "_law_last", "_law_most", "_law_k"]
theorem sc__law_entries : FnScope N__law_entries ["_law_bag_here", "_law_last", "_law_most"] (defScope S__law_entries) := ⟨rfl, rfl, rfl, by decide +kernel, rfl, by decide +kernel, by decide +kernel⟩
theorem ok__law_entries {P : Program} {w : World} {K : PySem.W.Frag} {mg : Str → Option Value} {base : Heap} {f : Addr} {fd : FuncData} (F : Fun K "_law_entries" "_law_entries" S__law_entries f fd) {f__law_take : Addr} {fd__law_take : FuncData} (C__law_take : Cal P w K mg base "_law_take" 1 f__law_take fd__law_take ["_law_bag_here", "_law_size"] (sp__law_take K)) {f__law_entry : Addr} {fd__law_entry : FuncData} (C__law_entry : Cal P w K mg base "_law_entry" 4 f__law_entry fd__law_entry ["_law_bag_here", "_law_last"] (sp__law_entry K)) (m_range : mg "range" = none) :
    FnG P w K mg base CX0 5 f fd ["_law_bag_here", "_law_last", "_law_most"] (sp__law_entries K) := by
  refine Fun_okG F sc__law_entries (ar__law_entries K) (fun cdv A outer s H vs Q E hg hr h => ?_)
  obtain ⟨b, last, most, rfl, hb, lb, mb, q⟩ := h
  refine ⟨_, (pss_one (ps_ret (pe_lc (own := [("_law_k", 3)]) rfl sc__law_entries.nd (pi_range1 rfl m_range (pa_cons (pe_c C__law_take hg (hr.mono (by decide)) rfl (pa_cons (pv 0) (pa_cons (pe_op op_add (pv 2) pe_int) pa_nil))) pa_nil)) (blkOk_by (own := [("_law_k", 3)]) (N := N__law_entries) (sc := defScope S__law_entries) (by decide +kernel)) (fun _ _ _ _ _ => (pg_name (i := 3) sc__law_entries.nd rfl (Or.inl rfl))) (fun _ _ _ _ _ => pts_nil) (fun _ _ _ _ _ => (pe_c C__law_entry hg (hr.mono (by decide)) rfl (pa_cons (pv 0) (pa_cons (pv 1) pa_nil))))))), ?_⟩
  walk_at "rd_6"
  refine ⟨b, most + 1, rfl, hb, by omega, by omega, fun r7 J7 r7a r7b k7 g7 => ?_⟩
  walk_at "rd_6"
  have hn : r7.toNat ≤ most := by omega
  generalize r7.toNat = N at hn ⊢
  intro D nD
  have mD : D ≠ b := g7.ne nD
  refine lc_growB (fun i ys J => Kd b D J7 J ∧ Bag b J ∧ ∃ es, EntsAt J ys es ∧ (∀ e ∈ es, AmOk e) ∧ ∀ e ∈ es, e.first + e.many ≤ last + 1) ⟨Kd.start _, g7.new nD, [], .nil, (fun e he => by cases he), fun e he => by cases he⟩ (fun i ys J hi hy hD w => ?_) fun ys J8 hy hD w => ?_
  · obtain ⟨kd, gJ, es, hl, ha, hf⟩ := w
    walk_at "rd_6"
    refine ⟨rfl, ?_⟩
    walk_at "rd_6"
    refine ⟨b, last, rfl, gJ, lb, fun v e J2 ev ea ef k2 g2 => ?_⟩
    refine lcEndB_mk (k2 _ _ mD hD) hy (by omega) fun J4 p4 e4 => ⟨(kd.kp k2).pu p4, p4.bag mD g2, es ++ [e], ?_, (fun x hx => (List.mem_append.mp hx).elim (ha x) fun h => by
      obtain rfl := List.mem_singleton.mp h
      exact ea), fun x hx => ?_⟩
    · exact (hl.mono fun p xs h => p4.tup (k2.tup gJ h)).snoc (ev.mono fun p xs h => p4.tup h)
    · rcases List.mem_append.mp hx with hx | hx
      · exact hf x hx
      · obtain rfl := List.mem_singleton.mp hx
        exact ef
  obtain ⟨kd, g8, es, hl, ha, hf⟩ := w
  exact q D ys es J8 mD (k7.free g7 nD) hD hl (by omega) ha hf (k7.trans (kd.of nD)) g8

/-- the grain of entries -/
def grA (g : Nat) (am : List (Int × Int)) : Nat := am.foldl (fun g r => Nat.lcm g r.2.toNat) g
def grN (es : List Ent) : Nat := es.foldl (fun g e => grA g e.am) 1
theorem grA_snoc (g : Nat) (am : List (Int × Int)) (r : Int × Int) : grA g (am ++ [r]) = Nat.lcm (grA g am) r.2.toNat := by
  unfold grA
  rw [List.foldl_append]
  rfl
theorem grN_snoc (es : List Ent) (e : Ent) : grN (es ++ [e]) = grA (grN es) e.am := by
  unfold grN
  rw [List.foldl_append]
  rfl
def sp__law_grain (K : PySem.W.Frag) : Sp := fun vs H Q _ => ∃ (l : Addr) (ws : List V) (es : List Ent), vs = [.ref l] ∧ H l = some (.lst ws) ∧ EntsAt H ws es ∧ ws.length ≤ 10 ∧ ∀ G : Nat, 0 < G → G ≤ 2 ^ (80 * ws.length) → (∀ e ∈ es, Fits G e.am) → G = grN es → Q (.int (G : Int)) H
theorem ar__law_grain (K : PySem.W.Frag) : ∀ vs H Q E, sp__law_grain K vs H Q E → vs.length = 1 := by
  intro vs H Q E h
  obtain ⟨l, ws, es, rfl, _⟩ := h
  rfl
abbrev N__law_grain : List Str := ["_law_entries_here", "_law_grain_here", "_law_word", "_law_first", "_law_many", "_law_amounts", "_law_top", "_law_under"]
theorem sc__law_grain : FnScope N__law_grain ["_law_entries_here"] (defScope S__law_grain) := ⟨rfl, rfl, rfl, by decide +kernel, rfl, by decide +kernel, by decide +kernel⟩
theorem ok__law_grain {P : Program} {w : World} {K : PySem.W.Frag} {mg : Str → Option Value} {base : Heap} {f : Addr} {fd : FuncData} (F : Fun K "_law_grain" "_law_grain" S__law_grain f fd) {f__law_part : Addr} {fd__law_part : FuncData} (C__law_part : Cal P w K mg base "_law_part" 1 f__law_part fd__law_part ["_law_one", "_law_other"] (sp__law_part K)) :
    FnG P w K mg base CX0 2 f fd ["_law_entries_here"] (sp__law_grain K) := by
  refine Fun_okG F sc__law_grain (ar__law_grain K) (fun cdv A outer s H vs Q E hg hr h => ?_)
  obtain ⟨l, ws, es, rfl, hl, t, lw, q⟩ := h
  refine ⟨_, (pss_cons (ps_set (i := 1) sc__law_grain.nd rfl (Or.inl rfl) pe_int)
    (pss_cons (ps_for PassesOwn.never rfl (piL (K := K) rfl (pv 0)) (pgT (K := K) rfl rfl (pgs_cons (pg_name (i := 2) sc__law_grain.nd rfl (Or.inl rfl)) (pgs_cons (pg_name (i := 3) sc__law_grain.nd rfl (Or.inl rfl)) (pgs_cons (pg_name (i := 4) sc__law_grain.nd rfl (Or.inl rfl)) (pgs_cons (pg_name (i := 5) sc__law_grain.nd rfl (Or.inl rfl)) pgs_nil))))) (pss_one (ps_for PassesOwn.never rfl (piT (K := K) rfl (pv 5)) (pgT (K := K) rfl rfl (pgs_cons (pg_name (i := 6) sc__law_grain.nd rfl (Or.inl rfl)) (pgs_cons (pg_name (i := 7) sc__law_grain.nd rfl (Or.inl rfl)) pgs_nil))) (pss_one (ps_set (i := 1) sc__law_grain.nd rfl (Or.inl rfl) (pe_op op_dv (pe_op op_ml (pv 1) (pv 7)) (pe_c C__law_part hg (hr.mono (by decide)) rfl (pa_cons (pv 1) (pa_cons (pv 7) pa_nil)))))))))
    (pss_one (ps_ret (pv 1))))), ?_⟩
  have ln := t.len
  walk_at "rd_6"
  refine lp_lst (xs := ws) (fun i σ' M => ∃ (G : Nat) (o2 o3 o4 o5 o6 o7 : Option V), σ' = [some (.ref l), some (.int (G : Int)), o2, o3, o4, o5, o6, o7] ∧ M = H ∧ 0 < G ∧ G ≤ 2 ^ (80 * i) ∧ (∀ e ∈ es.take i, Fits G e.am) ∧ G = grN (es.take i))
    ⟨1, none, none, none, none, none, none, rfl, rfl, by decide, by decide, (fun e he => by simp at he), rfl⟩ (fun i σ M _ w => ?_) (fun i r σ M hr w => ?_) (fun σ M w => ?_)
  · obtain ⟨G, o2, o3, o4, o5, o6, o7, rfl, rfl, _⟩ := w
    exact SqL.of hl
  · obtain ⟨G, o2, o3, o4, o5, o6, o7, rfl, rfl, g0, gb, gf, gn⟩ := w
    obtain ⟨e, ee, p, a, rs, rfl, hp, ha, am, ne, l4, fm, m1⟩ := t.get hr
    have la := am.len
    have i10 : i < ws.length := (List.getElem?_eq_some_iff.mp hr).1
    walk_at "rd_6"
    refine rd_forT ?_
    walk_at "rd_6"
    refine lp_tup (xs := rs) (fun j σ' M' => ∃ (G' : Nat) (o6 o7 : Option V), σ' = [some (.ref l), some (.int (G' : Int)), some (.str "entry"), some (.int (e.first : Int)), some (.int (e.many : Int)), some (.ref a), o6, o7] ∧ M' = M ∧ 0 < G' ∧ G' ≤ 2 ^ (80 * i + 20 * j) ∧ G ∣ G' ∧ Fits G' (e.am.take j) ∧ G' = grA G (e.am.take j))
      ⟨G, o6, o7, rfl, rfl, g0, gb, Nat.dvd_refl _, (fun x hx => by simp at hx), rfl⟩ (fun j σ M' _ w => ?_) (fun j v σ M' hv w => ?_) (fun σ M' w => ?_)
    · obtain ⟨G', o6, o7, rfl, rfl, _⟩ := w
      exact SqT.of ha
    · obtain ⟨G', o6, o7, rfl, rfl, g0', gb', gd, gf', gn'⟩ := w
      obtain ⟨pr, x, y, rfl, er, hpr, y0, gg, bx, bu⟩ := am.get hv
      obtain ⟨U, rfl⟩ := Int.eq_ofNat_of_zero_le (show 0 ≤ y by omega)
      have jl : j < rs.length := (List.getElem?_eq_some_iff.mp hv).1
      have U20 : U ≤ 2 ^ 20 := by unfold Bd at bu; omega
      obtain ⟨lp, ll⟩ := lcm_le g0' gb' (by omega) U20
      have bG : Bd 900 (G' : Int) := by
        have h1 : (2 : Nat) ^ (80 * i + 20 * j) < 2 ^ 900 := Nat.pow_lt_pow_right (by decide) (by omega)
        unfold Bd
        omega
      have gp : ((Int.gcd (G' : Int) (U : Int) : Nat) : Int) ≠ 0 := by
        have : 0 < Int.gcd (G' : Int) (U : Int) := Int.gcd_pos_of_ne_zero_right _ (by omega)
        omega
      have bg : Bd 20 ((Int.gcd (G' : Int) (U : Int) : Nat) : Int) := by
        have : Int.gcd (G' : Int) (U : Int) ≤ (U : Int).natAbs := Int.gcd_le_natAbs_right _ (by omega)
        unfold Bd at bu ⊢
        omega
      walk_at "rd_6"
      refine ⟨_, _, rfl, ?_⟩
      walk_at "rd_6"
      refine rd_I (rd_dvB _ gp bg) ?_
      rw [lcm_at]
      walk_at "rd_6"
      refine ⟨Nat.lcm G' U, _, _, rfl, rfl, lp, by rw [show 80 * i + 20 * (j + 1) = 80 * i + 20 * j + 20 by omega]; exact ll, Nat.dvd_trans gd (Nat.dvd_lcm_left _ _), ?_, by rw [List.take_add_one, er, gn']; exact (grA_snoc G (e.am.take j) (x, (U : Int))).symm⟩
      intro x hx
      rw [List.take_add_one, er] at hx
      rcases List.mem_append.mp hx with hx | hx
      · exact (gf'.up (Nat.dvd_lcm_left _ _)) x hx
      · simp at hx
        subst hx
        exact ⟨by show (0 : Int) < (U : Int); omega, Int.natCast_dvd_natCast.mpr (Nat.dvd_lcm_right _ _)⟩
    · obtain ⟨G', o6, o7, rfl, rfl, g0', gb', gd, gf', gn'⟩ := w
      rw [la, List.take_length] at gf' gn'
      refine ⟨G', _, _, _, _, _, _, rfl, rfl, g0', Nat.le_trans gb' (Nat.pow_le_pow_right (by decide) (by omega)), fun x hx => ?_, by rw [List.take_add_one, ee, gn', gn]; exact (grN_snoc (es.take i) e).symm⟩
      rw [List.take_add_one, ee] at hx
      rcases List.mem_append.mp hx with hx | hx
      · exact (gf x hx).up gd
      · simp at hx
        subst hx
        exact gf'
  · obtain ⟨G, o2, o3, o4, o5, o6, o7, rfl, rfl, g0, gb, gf, gn⟩ := w
    rw [ln, List.take_length] at gf gn
    walk_at "rd_6"
    exact q G g0 gb gf gn

theorem fdiv_nat (N L : Nat) : (N : Int).fdiv (L : Int) = ((N / L : Nat) : Int) := by
  rw [Int.fdiv_eq_ediv_of_nonneg _ (by omega)]
  push_cast
  rfl
theorem fmod_nat (N L : Nat) : (N : Int).fmod (L : Int) = ((N % L : Nat) : Int) := by
  rw [Int.fmod_eq_emod_of_nonneg _ (by omega)]
  push_cast
  rfl
theorem bS_take {G : Nat} {es : List Ent} {i : Nat} {e : Ent} (h : es[i]? = some e) (d : Nat) : bS G (es.take (i + 1)) d = bS G (es.take i) d + bE G e d := by
  unfold bS
  rw [List.take_add_one, h, List.map_append, List.sum_append]
  simp
def sp__law_before (K : PySem.W.Frag) : Sp := fun vs H Q _ => ∃ (l : Addr) (es : List Ent) (d G : Nat), vs = [.ref l, .int (d : Int), .int (G : Int)] ∧ Led H l es G ∧ ∀ J, Same H J → Q (.int (bS G es d)) J
theorem ar__law_before (K : PySem.W.Frag) : ∀ vs H Q E, sp__law_before K vs H Q E → vs.length = 3 := by
  intro vs H Q E h
  obtain ⟨l, es, d, G, rfl, _⟩ := h
  rfl
abbrev N__law_before : List Str := ["_law_entries_here", "_law_day", "_law_grain_here", "_law_found", "_law_word", "_law_first", "_law_many", "_law_amounts", "_law_units", "_law_top", "_law_under", "_law_days"]
theorem sc__law_before : FnScope N__law_before ["_law_entries_here", "_law_day", "_law_grain_here"] (defScope S__law_before) := ⟨rfl, rfl, rfl, by decide +kernel, rfl, by decide +kernel, by decide +kernel⟩
theorem ok__law_before {P : Program} {w : World} {K : PySem.W.Frag} {mg : Str → Option Value} {base : Heap} {f : Addr} {fd : FuncData} (F : Fun K "_law_before" "_law_before" S__law_before f fd) (m_sum : mg "sum" = none) (m_len : mg "len" = none) (m_min : mg "min" = none) (m_max : mg "max" = none) :
    FnG P w K mg base CX0 1 f fd ["_law_entries_here", "_law_day", "_law_grain_here"] (sp__law_before K) := by
  refine Fun_okG F sc__law_before (ar__law_before K) (fun cdv A outer s H vs Q E hg hr h => ?_)
  obtain ⟨l, es, d, G, rfl, ⟨ws, hl, t, fit, g0, g1, lw⟩, q⟩ := h
  refine ⟨_, (pss_cons (ps_set (i := 3) sc__law_before.nd rfl (Or.inl rfl) pe_int)
    (pss_cons (ps_for PassesOwn.never rfl (piL (K := K) rfl (pv 0)) (pgT (K := K) rfl rfl (pgs_cons (pg_name (i := 4) sc__law_before.nd rfl (Or.inl rfl)) (pgs_cons (pg_name (i := 5) sc__law_before.nd rfl (Or.inl rfl)) (pgs_cons (pg_name (i := 6) sc__law_before.nd rfl (Or.inl rfl)) (pgs_cons (pg_name (i := 7) sc__law_before.nd rfl (Or.inl rfl)) pgs_nil))))) (pss_cons (ps_setLc (i := 8) (own := [("_law_top", 9), ("_law_under", 10)]) (g := (gTup K 2 (gCons (gName 9) (gCons (gName 10) gNil)))) rfl sc__law_before.nd rfl rfl (sw_true rfl rfl rfl (by decide +kernel)) (piT (K := K) rfl (pv 7)) (blkOk_by (own := [("_law_top", 9), ("_law_under", 10)]) (N := N__law_before) (sc := defScope S__law_before) (by decide +kernel)) (fun _ _ _ _ _ => (pgT rfl rfl (pgs_cons (pg_name (i := 9) sc__law_before.nd rfl (Or.inl rfl)) (pgs_cons (pg_name (i := 10) sc__law_before.nd rfl (Or.inl rfl)) pgs_nil)))) (fun _ _ _ _ _ => pts_nil) (fun _ _ _ _ _ => (pe_op op_dv (pe_op op_ml (pv 9) (pv 2)) (pv 10))))
    (pss_cons (ps_set (i := 11) sc__law_before.nd rfl (Or.inl rfl) (pe_callB (id := "min") (call_min2 rfl) (by rfl) m_min (by decide +kernel) (pa_cons (pe_callB (id := "max") (call_max2 rfl) (by rfl) m_max (by decide +kernel) (pa_cons (pe_op op_sub (pv 1) (pv 5)) (pa_cons pe_int pa_nil))) (pa_cons (pv 6) pa_nil))))
    (pss_cons (ps_set (i := 3) sc__law_before.nd rfl (Or.inl rfl) (pe_op op_add (pv 3) (pe_op op_ml (pe_op op_dv (pv 11) (pe_callB (id := "len") (lenK (K := K) rfl) (by rfl) m_len (by decide +kernel) (pa_cons (pv 8) pa_nil))) (pe_callB (id := "sum") (sumK (K := K) rfl rfl) (by rfl) m_sum (by decide +kernel) (pa_cons (pv 8) pa_nil)))))
    (pss_one (ps_set (i := 3) sc__law_before.nd rfl (Or.inl rfl) (pe_op op_add (pv 3) (pe_callB (id := "sum") (sumK (K := K) rfl rfl) (by rfl) m_sum (by decide +kernel) (pa_cons (pe_slice (slK (K := K) rfl) (pv 8) po_none (po_some (pe_op op_modN (pv 11) (pe_callB (id := "len") (lenK (K := K) rfl) (by rfl) m_len (by decide +kernel) (pa_cons (pv 8) pa_nil))))) pa_nil)))))))))
    (pss_one (ps_ret (pv 3))))), ?_⟩
  have ln := t.len
  walk_at "rd_6"
  refine lp_lst (xs := ws) (fun i σ' M => ∃ (o4 o5 o6 o7 o8 o9 o10 o11 : Option V), σ' = [some (.ref l), some (.int (d : Int)), some (.int (G : Int)), some (.int (bS G (es.take i) d)), o4, o5, o6, o7, o8, o9, o10, o11] ∧ Same H M)
    ⟨none, none, none, none, none, none, none, none, rfl, fun _ _ e => e⟩ (fun i σ M _ w => ?_) (fun i r σ M hr w => ?_) (fun σ M w => ?_)
  · obtain ⟨o4, o5, o6, o7, o8, o9, o10, o11, rfl, sM⟩ := w
    exact SqL.of (sM _ _ hl)
  · obtain ⟨o4, o5, o6, o7, o8, o9, o10, o11, rfl, sM⟩ := w
    obtain ⟨e, ee, en⟩ := t.get hr
    have fe := fit e (List.mem_of_getElem? ee)
    obtain ⟨p, a, rs, rfl, hp, ha, am, ne, l4, fm, m1⟩ := en.mono fun p xs h => sM _ _ h
    have la := am.len
    have ul := uts_len G e
    have L0 : 0 < e.am.length := List.length_pos_iff.mpr ne
    have hu : ∀ u ∈ uts G e, Bd 520 u := fun u hu => by
      obtain ⟨r, hr, rfl⟩ := List.mem_map.mp hu
      exact unit_bd (am.bds r hr).1 (am.bds r hr).2.2.1 g1
    have bG : Bd 500 (G : Int) := g1
    walk_at "rd_6"
    intro D nD
    refine lc_sig (τ := [some (.ref l), some (.int (d : Int)), some (.int (G : Int)), some (.int (bS G (es.take i) d)), some (.str "entry"), some (.int (e.first : Int)), some (.int (e.many : Int)), some (.ref a), o8, o9, o10, o11]) rfl ?_
    refine lc_growT (xs := rs) (fun ys _ => ys = ((uts G e).take ys.length).map V.int) (fun J k => SqT.of (k _ _ (ne_of_none ha nD) ha)) (by omega) nD (fun J k => by simp) (fun j v ys J hx i5 hy k hD hP => ?_) fun ys J hy k hD hP => ?_
    · obtain ⟨pr, x, y, rfl, er, hpr, y0, gg, bx, bu⟩ := am.get hx
      have hpr := k _ _ (ne_of_none hpr nD) hpr
      walk_at "rd_6"
      refine ⟨rfl, ?_⟩
      walk_at "rd_6"
      refine lcEnd_mk hD hy i5 k fun J4 p4 e4 => ?_
      have eu : (uts G e)[j]? = some (unit G (x, y)) := by
        unfold uts
        rw [List.getElem?_map, er]
        rfl
      have ev : (x * (G : Int)).fdiv y = unit G (x, y) := Int.fdiv_eq_ediv_of_nonneg _ (by omega)
      rw [List.length_append, List.length_singleton, hy, List.take_add_one, eu, List.map_append, ev]
      rw [hy] at hP
      rw [← hP]
      rfl
    have sJ : Same M J := fun a o h => k a o (ne_of_none h nD) h
    have S := Same.trans sM sJ
    rw [hy, la, ← ul, List.take_length] at hP
    subst hP
    clear k nD hp ha hy sJ sM
    have eN : (if (e.many : Int) < (if (0 : Int) > (d : Int) - (e.first : Int) then (0 : Int) else (d : Int) - (e.first : Int)) then (e.many : Int) else (if (0 : Int) > (d : Int) - (e.first : Int) then (0 : Int) else (d : Int) - (e.first : Int))) = ((min (d - e.first) e.many : Nat) : Int) := by
      split <;> split <;> omega
    have eB : bE G e d = rnd (uts G e) (min (d - e.first) e.many) := rfl
    have N30 : min (d - e.first) e.many ≤ 10 ^ 30 := by omega
    walk_at "rd_6"
    rw [eN]
    rw [List.length_map]
    have eT := bS_take (G := G) ee d
    rw [eB] at eT
    unfold rnd at eT
    generalize min (d - e.first) e.many = N at eT N30 ⊢
    clear eN eB
    have U0 : 0 < (uts G e).length := by omega
    have U4 : (uts G e).length ≤ 4 := by omega
    refine rd_I ⟨by omega, by omega⟩ ?_
    walk_at "rd_6"
    refine rd_sum (SqL.of hD) rfl ?_
    rw [fdiv_nat]
    have bq : Bd 110 ((N / (uts G e).length : Nat) : Int) := by
      have h := Nat.div_le_self N (uts G e).length
      unfold Bd
      rw [Int.natAbs_natCast]
      exact Nat.lt_of_le_of_lt h (by omega)
    have bs : Bd (3 + 520) (uts G e).sum := bd_sums hu (by omega)
    refine rd_I (rd_mulB bq bs) ?_
    walk_at "rd_6"
    rw [List.length_map]
    refine rd_I (by omega) ?_
    walk_at "rd_6"
    rename_i p5 J5 n5 s5 e5
    rw [fmod_nat, cut_take (by rw [List.length_map]; exact Nat.le_of_lt (Nat.mod_lt _ U0)), ← List.map_take] at e5
    refine rd_sum (SqL.of e5) rfl ?_
    walk_at "rd_6"
    rw [Int.add_assoc, ← eT]
    exact ⟨_, _, _, _, _, _, _, _, rfl, Same.trans S s5⟩
  · obtain ⟨o4, o5, o6, o7, o8, o9, o10, o11, rfl, sM⟩ := w
    rw [ln, List.take_length]
    walk_at "rd_6"
    exact q M sM

def sp__law_told (K : PySem.W.Frag) : Sp := fun vs H Q _ => ∃ (l : Addr) (es : List Ent) (u : Int) (i n G : Nat), vs = [.ref l, .int u, .int (i : Int), .int (n : Int), .int (G : Int)] ∧ Led H l es G ∧ ∀ J, Same H J → Q (.int (toldN G es u i n)) J
theorem ar__law_told (K : PySem.W.Frag) : ∀ vs H Q E, sp__law_told K vs H Q E → vs.length = 5 := by
  intro vs H Q E h
  obtain ⟨l, es, u, i, n, G, rfl, _⟩ := h
  rfl
abbrev N__law_told : List Str := ["_law_entries_here", "_law_unit", "_law_first", "_law_many", "_law_grain_here", "_law_low", "_law_high"]
theorem sc__law_told : FnScope N__law_told ["_law_entries_here", "_law_unit", "_law_first", "_law_many", "_law_grain_here"] (defScope S__law_told) := ⟨rfl, rfl, rfl, by decide +kernel, rfl, by decide +kernel, by decide +kernel⟩
theorem ok__law_told {P : Program} {w : World} {K : PySem.W.Frag} {mg : Str → Option Value} {base : Heap} {f : Addr} {fd : FuncData} (F : Fun K "_law_told" "_law_told" S__law_told f fd) {f__law_before : Addr} {fd__law_before : FuncData} (C__law_before : Cal P w K mg base "_law_before" 1 f__law_before fd__law_before ["_law_entries_here", "_law_day", "_law_grain_here"] (sp__law_before K)) :
    FnG P w K mg base CX0 2 f fd ["_law_entries_here", "_law_unit", "_law_first", "_law_many", "_law_grain_here"] (sp__law_told K) := by
  refine Fun_okG F sc__law_told (ar__law_told K) (fun cdv A outer s H vs Q E hg hr h => ?_)
  obtain ⟨l, es, u, i, n, G, rfl, L, q⟩ := h
  refine ⟨_, (pss_cons (ps_par (i := 5) (j := 6) rfl sc__law_told.nd rfl rfl (by decide) rfl rfl (pa_cons (pe_c C__law_before hg (hr.mono (by decide)) rfl (pa_cons (pv 0) (pa_cons (pv 2) (pa_cons (pv 4) pa_nil)))) (pa_cons (pe_c C__law_before hg (hr.mono (by decide)) rfl (pa_cons (pv 0) (pa_cons (pe_op op_add (pv 2) (pv 3)) (pa_cons (pv 4) pa_nil)))) pa_nil)) (by rfl))
    (pss_one (ps_ret (pe_op op_sub (pe_op op_dv (pe_op op_add (pv 6) (pv 1)) (pv 4)) (pe_op op_dv (pe_op op_add (pv 5) (pv 1)) (pv 4)))))), ?_⟩
  have g0 := L.pos
  have g1 := L.lt
  have bG : Bd 500 (G : Int) := g1
  have gz : (G : Int) ≠ 0 := by omega
  walk_at "rd_6"
  refine ⟨l, es, i, G, rfl, L, fun J s => ?_⟩
  walk_at "rd_6"
  rw [show (i : Int) + (n : Int) = ((i + n : Nat) : Int) by omega]
  refine ⟨l, es, i + n, G, rfl, L.same s, fun J2 s2 => ?_⟩
  walk_at "rd_6"
  refine rd_I (rd_dvB _ gz bG) ?_
  walk_at "rd_6"
  refine rd_I (rd_dvB _ gz bG) ?_
  walk_at "rd_6"
  exact q J2 (Same.trans s s2)

def sp__law_stretch (K : PySem.W.Frag) : Sp := fun vs H Q _ => ∃ (b : Addr) (last : Nat), vs = [.ref b, .int (last : Int)] ∧ Bag b H ∧ last ≤ 1000 ∧ ∀ (p : Addr) (i n : Nat) J, H p = none → J p = some (.tup [.int (i : Int), .int (n : Int)]) → 1 ≤ n → i + n ≤ last + 1 → Kp b H J → Bag b J → Q (.ref p) J
theorem ar__law_stretch (K : PySem.W.Frag) : ∀ vs H Q E, sp__law_stretch K vs H Q E → vs.length = 2 := by
  intro vs H Q E h
  obtain ⟨b, last, rfl, _⟩ := h
  rfl
abbrev N__law_stretch : List Str := ["_law_bag_here", "_law_last", "_law_first"]
theorem sc__law_stretch : FnScope N__law_stretch ["_law_bag_here", "_law_last"] (defScope S__law_stretch) := ⟨rfl, rfl, rfl, by decide +kernel, rfl, by decide +kernel, by decide +kernel⟩
theorem ok__law_stretch {P : Program} {w : World} {K : PySem.W.Frag} {mg : Str → Option Value} {base : Heap} {f : Addr} {fd : FuncData} (F : Fun K "_law_stretch" "_law_stretch" S__law_stretch f fd) {f__law_take : Addr} {fd__law_take : FuncData} (C__law_take : Cal P w K mg base "_law_take" 1 f__law_take fd__law_take ["_law_bag_here", "_law_size"] (sp__law_take K)) :
    FnG P w K mg base CX0 2 f fd ["_law_bag_here", "_law_last"] (sp__law_stretch K) := by
  refine Fun_okG F sc__law_stretch (ar__law_stretch K) (fun cdv A outer s H vs Q E hg hr h => ?_)
  obtain ⟨b, last, rfl, hb, lb, q⟩ := h
  refine ⟨_, (pss_cons (ps_set (i := 2) sc__law_stretch.nd rfl (Or.inl rfl) (pe_c C__law_take hg (hr.mono (by decide)) rfl (pa_cons (pv 0) (pa_cons (pe_op op_add (pv 1) pe_int) pa_nil))))
    (pss_one (ps_ret (pe_tup (pa_cons (pv 2) (pa_cons (pe_ix (ixK (K := K) rfl) (pe_lst (pa_cons (pe_op op_add pe_int (pe_c C__law_take hg (hr.mono (by decide)) rfl (pa_cons (pv 0) (pa_cons (pe_op op_sub (pe_op op_add (pv 1) pe_int) (pv 2)) pa_nil)))) (pa_cons pe_int (pa_cons (pe_op op_sub (pe_op op_add (pv 1) pe_int) (pv 2)) pa_nil)))) (pe_c C__law_take hg (hr.mono (by decide)) rfl (pa_cons (pv 0) (pa_cons pe_int pa_nil))) (fun _ _ => rfl)) pa_nil)))))), ?_⟩
  walk_at "rd_6"
  refine ⟨b, last + 1, rfl, hb, by omega, by omega, fun r1 J1 r1a r1b k1 g1 => ?_⟩
  obtain ⟨i, rfl⟩ := Int.eq_ofNat_of_zero_le r1a
  walk_at "rd_6"
  refine ⟨b, last + 1 - i, rfl, g1, by omega, by omega, fun r4 J4 r4a r4b k4 g4 => ?_⟩
  walk_at "rd_6"
  rename_i p5 J5 n5 s5 e5
  have m5 : p5 ≠ b := g4.ne n5
  have g5 := g4.same s5
  refine ⟨b, 3, rfl, g5, by decide, by decide, fun r6 J6 r6a r6b k6 g6 => ?_⟩
  have K6 : Kp b H J6 := k1.trans (k4.trans ((Kp.of s5).trans k6))
  refine rd_pick (k6 _ _ m5 e5) r6a r6b fun v hv => ?_
  obtain ⟨n, rfl, n1, nl⟩ : ∃ f : Nat, v = .int (f : Int) ∧ 1 ≤ f ∧ i + f ≤ last + 1 := by
    simp only [List.mem_cons, List.not_mem_nil, or_false] at hv
    rcases hv with rfl | rfl | rfl
    · exact ⟨(1 + r4).toNat, by rw [Int.toNat_of_nonneg (by omega)], by omega, by omega⟩
    · exact ⟨1, rfl, by omega, by omega⟩
    · exact ⟨last + 1 - i, by congr 1; omega, by omega, by omega⟩
  clear hv k1 k4 s5 k6 g1 g4 g5 e5 m5 n5
  walk_at "rd_6"
  rename_i p7 J7 n7 s7 e7
  exact q p7 i n J7 (K6.free g6 n7) e7 n1 nl (K6.trans (Kp.of s7)) (g6.same s7)

/-! ### the points, the ends of stretches -/
/-- ptU of the days -/
def ptL (G : Nat) (es : List Ent) (ds : List Nat) : List Int := ds.map fun d => ((ptU G (bS G es d) : Nat) : Int)
def sp__law_points (K : PySem.W.Frag) : Sp := fun vs H Q _ => ∃ (l m : Addr) (es : List Ent) (ds : List Nat) (G : Nat), vs = [.ref l, .ref m, .int (G : Int)] ∧ Led H l es G ∧ H m = some (.lst (ds.map nV)) ∧ ds.length ≤ 72 ∧
  ∀ (ps : List Nat) z J, Same H J → H z = none → J z = some (.lst (ps.map nV)) → ps.Pairwise (· < ·) → (∀ p, p ∈ ps ↔ p = 0 ∨ ∃ d ∈ ds, p = ptU G (bS G es d)) → ps.length ≤ 73 → Q (.ref z) J
theorem ar__law_points (K : PySem.W.Frag) : ∀ vs H Q E, sp__law_points K vs H Q E → vs.length = 3 := by
  intro vs H Q E h
  obtain ⟨l, m, es, ds, G, rfl, _⟩ := h
  rfl
abbrev N__law_points : List Str := ["_law_entries_here", "_law_days", "_law_grain_here", "_law_day"]
theorem sc__law_points : FnScope N__law_points ["_law_entries_here", "_law_days", "_law_grain_here"] (defScope S__law_points) := ⟨rfl, rfl, rfl, by decide +kernel, rfl, by decide +kernel, by decide +kernel⟩
theorem ok__law_points {P : Program} {w : World} {K : PySem.W.Frag} {mg : Str → Option Value} {base : Heap} {f : Addr} {fd : FuncData} (F : Fun K "_law_points" "_law_points" S__law_points f fd) {f__law_before : Addr} {fd__law_before : FuncData} (C__law_before : Cal P w K mg base "_law_before" 1 f__law_before fd__law_before ["_law_entries_here", "_law_day", "_law_grain_here"] (sp__law_before K)) (m_set : mg "set" = none) (m_sorted : mg "sorted" = none) :
    FnG P w K mg base CX0 2 f fd ["_law_entries_here", "_law_days", "_law_grain_here"] (sp__law_points K) := by
  refine Fun_okG F sc__law_points (ar__law_points K) (fun cdv A outer s H vs Q E hg hr h => ?_)
  obtain ⟨l, m, es, ds, G, rfl, L, hm, ld, q⟩ := h
  refine ⟨_, (pss_one (ps_ret (pe_callB (id := "sorted") (sortAK (w := w) rfl rfl) (by rfl) m_sorted (by decide +kernel) (pa_cons (pe_callTy (T := "set") (setIK (w := w) (K := K) rfl rfl rfl) (by rfl) m_set (by decide +kernel) (pa_cons (pe_op op_cat (pe_lst (pa_cons pe_int pa_nil)) (pe_lc (own := [("_law_day", 3)]) rfl sc__law_points.nd (piL (K := K) rfl (pv 1)) (blkOk_by (own := [("_law_day", 3)]) (N := N__law_points) (sc := defScope S__law_points) (by decide +kernel)) (fun _ _ _ _ _ => (pg_name (i := 3) sc__law_points.nd rfl (Or.inl rfl))) (fun _ _ _ _ _ => pts_nil) (fun _ _ _ _ _ => (pe_op op_modN (pe_un un_neg (pe_c C__law_before hg (hr.mono (by decide)) rfl (pa_cons (pv 0) (pa_cons (pv 3) (pa_cons (pv 2) pa_nil))))) (pv 2))))) pa_nil)) pa_nil)))), ?_⟩
  have g0 := L.pos
  have g1 := L.lt
  have bG : Bd 500 (G : Int) := g1
  have gz : (G : Int) ≠ 0 := by omega
  walk_at "rd_6"
  rename_i p1 J1 n1 s1 e1
  intro D nD
  have nm : m ≠ D := ne_of_none (s1 _ _ hm) nD
  refine lc_growL (fun ys J => ys = ((ptL G es ds).take ys.length).map V.int) (s1 _ _ hm) (by rw [List.length_map]; omega) nD (fun J k => by simp) (fun i v ys J hx i5 ly k hD hP => ?_) fun ys J ly k hD hP => ?_
  · rw [List.getElem?_map] at hx
    obtain ⟨d, ed, rfl⟩ := Option.map_eq_some_iff.mp hx
    have LJ : Led J l es G := (L.same s1).same fun a o h => k a o (ne_of_none h nD) h
    walk_at "rd_6"
    refine ⟨rfl, ?_⟩
    walk_at "rd_6"
    refine ⟨l, es, d, G, rfl, LJ, fun J2 s2 => ?_⟩
    walk_at "rd_6"
    rw [← (ptU_eq g0 _).1]
    refine lcEnd_mk (s2 _ _ hD) ly i5 (k.trans (Kp.of s2)) fun J4 p4 e4 => ?_
    have e : (ptL G es ds)[i]? = some ((ptU G (bS G es d) : Nat) : Int) := by
      unfold ptL
      rw [List.getElem?_map, ed]
      rfl
    rw [List.length_append, List.length_singleton, ly, List.take_add_one, e, List.map_append]
    rw [ly] at hP
    rw [← hP]
    rfl
  · rw [List.length_map] at ly
    have lp : (ptL G es ds).length = ds.length := by
      unfold ptL
      rw [List.length_map]
    rw [ly, ← lp, List.take_length] at hP
    have sJ : Same J1 J := fun a o h => k a o (ne_of_none h nD) h
    refine rd_catK (sJ _ _ e1) hD (by rw [List.length_singleton]; omega) fun p2 J2 n2 s2 e2 => ?_
    walk_at "rd_6"
    refine rd_setI (ns := 0 :: ptL G es ds) (SqL.of e2) (by rw [hP]; rfl) (by rw [List.length_cons]; omega) fun p3 J3 S n ln hS n3 s3 e3 => ?_
    rw [List.length_cons] at ln
    walk_at "rd_6"
    refine rd_sortA e3 (by omega) fun ns z J4 pw mem len n4 s4 e4 => ?_
    have h2 : Same H J2 := Same.trans s1 (Same.trans sJ s2)
    have pos : ∀ x ∈ ns, ∃ u : Nat, x = (u : Int) := fun x hx => by
      rcases List.mem_cons.mp ((hS x).mp ((mem x).mp hx)) with rfl | hx
      · exact ⟨0, rfl⟩
      · obtain ⟨d, _, rfl⟩ := List.mem_map.mp hx
        exact ⟨_, rfl⟩
    have en : ns = (ns.map Int.toNat).map fun u : Nat => (u : Int) := by
      rw [List.map_map]
      refine (List.map_id ns).symm.trans (List.map_congr_left fun x hx => ?_)
      obtain ⟨u, rfl⟩ := pos x hx
      rfl
    have memN : ∀ p : Nat, p ∈ ns.map Int.toNat ↔ (p : Int) ∈ ns := fun p => by
      constructor
      · intro h
        obtain ⟨x, hx, rfl⟩ := List.mem_map.mp h
        obtain ⟨u, rfl⟩ := pos x hx
        exact hx
      · intro h
        exact List.mem_map.mpr ⟨_, h, rfl⟩
    refine q (ns.map Int.toNat) z J4 (Same.trans h2 (Same.trans s3 s4)) (Same.free (Same.trans h2 s3) n4) ?_ ?_ (fun p => ?_) (by rw [List.length_map]; omega)
    · rw [e4]
      congr 2
      conv => lhs; rw [en]
      simp only [List.map_map]
      rfl
    · rw [en, List.pairwise_map] at pw
      exact pw.imp fun h => by omega
    · rw [memN, mem, hS, List.mem_cons]
      refine or_congr (by omega) ⟨fun h => ?_, fun h => ?_⟩
      · obtain ⟨d, hd, e⟩ := List.mem_map.mp h
        exact ⟨d, hd, by omega⟩
      · obtain ⟨d, hd, rfl⟩ := h
        exact List.mem_map.mpr ⟨d, hd, rfl⟩
def endsL (ps : List (Nat × Nat)) : List Nat := ps.flatMap fun r => [r.1, r.1 + r.2]
theorem endsL_take {ps : List (Nat × Nat)} {i : Nat} {r : Nat × Nat} (e : ps[i]? = some r) : endsL (ps.take (i + 1)) = endsL (ps.take i) ++ [r.1, r.1 + r.2] := by
  unfold endsL
  rw [List.take_add_one, e, List.flatMap_append]
  simp
theorem endsL_len (ps : List (Nat × Nat)) : (endsL ps).length = 2 * ps.length := by
  induction ps with
  | nil => rfl
  | cons r t ih =>
    unfold endsL at ih ⊢
    rw [List.flatMap_cons, List.length_append, ih]
    simp
    omega
def sp__law_ends (K : PySem.W.Frag) : Sp := fun vs H Q _ => ∃ (l : Addr) (rs : List V) (ps : List (Nat × Nat)), vs = [.ref l] ∧ H l = some (.lst rs) ∧ PrsAt H rs ps ∧ rs.length ≤ 30 ∧
  ∀ z J, Same H J → H z = none → J z = some (.lst ((endsL ps).map nV)) → Q (.ref z) J
theorem ar__law_ends (K : PySem.W.Frag) : ∀ vs H Q E, sp__law_ends K vs H Q E → vs.length = 1 := by
  intro vs H Q E h
  obtain ⟨l, rs, ps, rfl, _⟩ := h
  rfl
abbrev N__law_ends : List Str := ["_law_stretches", "_law_found", "_law_first", "_law_many"]
theorem sc__law_ends : FnScope N__law_ends ["_law_stretches"] (defScope S__law_ends) := ⟨rfl, rfl, rfl, by decide +kernel, rfl, by decide +kernel, by decide +kernel⟩
theorem ok__law_ends {P : Program} {w : World} {K : PySem.W.Frag} {mg : Str → Option Value} {base : Heap} {f : Addr} {fd : FuncData} (F : Fun K "_law_ends" "_law_ends" S__law_ends f fd) :
    FnG P w K mg base CX0 1 f fd ["_law_stretches"] (sp__law_ends K) := by
  refine Fun_okG F sc__law_ends (ar__law_ends K) (fun cdv A outer s H vs Q E hg hr h => ?_)
  obtain ⟨l, rs, ps, rfl, hl, pr, lr, q⟩ := h
  refine ⟨_, (pss_cons (ps_set (i := 1) sc__law_ends.nd rfl (Or.inl rfl) (pe_lst pa_nil))
    (pss_cons (ps_for PassesOwn.never rfl (piL (K := K) rfl (pv 0)) (pgT (K := K) rfl rfl (pgs_cons (pg_name (i := 2) sc__law_ends.nd rfl (Or.inl rfl)) (pgs_cons (pg_name (i := 3) sc__law_ends.nd rfl (Or.inl rfl)) pgs_nil))) (pss_one (ps_expr (pe_bm PySem.F.plainAttrs_list PySem.F.slot_list_extend PySem.F.type_list_extend mt_extend (pv 1) (pa_cons (pe_lst (pa_cons (pv 2) (pa_cons (pe_op op_add (pv 2) (pv 3)) pa_nil))) pa_nil)))))
    (pss_one (ps_ret (pv 1))))), ?_⟩
  have ln := pr.len
  walk_at "rd_6"
  rename_i p1 J1 n1 s1 e1
  refine lp_lst (xs := rs) (fun i σ' M => (∃ (o2 o3 : Option V), σ' = [some (.ref l), some (.ref p1), o2, o3]) ∧ Same H M ∧ M p1 = some (.lst ((endsL (ps.take i)).map nV)))
    ⟨⟨none, none, rfl⟩, s1, e1⟩ (fun i σ M _ w => ?_) (fun i r σ M hr w => ?_) (fun σ M w => ?_)
  · obtain ⟨⟨o2, o3, rfl⟩, s, e⟩ := w
    exact SqL.of (s _ _ hl)
  · obtain ⟨⟨o2, o3, rfl⟩, s, e⟩ := w
    obtain ⟨c, lo, hi, rfl, er, hc⟩ := pr.get hr
    have hc := s _ _ hc
    have l1 : ((endsL (ps.take i)).map nV).length ≤ 60 := by
      rw [List.length_map, endsL_len]
      have := List.length_take_le i ps
      have := List.length_take_le' i ps
      omega
    walk_at "rd_6"
    rename_i p2 J2 n2 s2 e2
    refine rd_extK (s2 _ _ e) e2 (Nat.le_trans (Nat.add_le_add_right l1 2) (by decide)) fun J3 p3 e3 => ?_
    walk_at "rd_6"
    refine ⟨⟨_, _, rfl⟩, fun a o h => p3.1 _ _ (ne_of_none h n1) (s2 _ _ (s _ _ h)), ?_⟩
    rw [e3, endsL_take er, List.map_append, ← Int.natCast_add]
    rfl
  · obtain ⟨⟨o2, o3, rfl⟩, s, e⟩ := w
    rw [ln, List.take_length] at e
    walk_at "rd_6"
    exact q p1 M s n1 e

/-! ### lists of ints compared -/
theorem dp_ints {K : PySem.W.Frag} {H : Hp} : ∀ ns : List Int, DpAll K H (ns.map V.int) (ns.map PyData.int)
  | [] => .nil
  | n :: ns => .cons (.int n) (dp_ints ns)
theorem eqv_ints : ∀ ns ms : List Int, PyData.eqvAll (ns.map PyData.int) (ms.map PyData.int) = decide (ns = ms)
  | [], [] => by simp [PyData.eqvAll]
  | [], t :: ts => by simp [PyData.eqvAll]
  | s :: ss, [] => by simp [PyData.eqvAll]
  | s :: ss, t :: ts => by
    rw [List.map_cons, List.map_cons, PyData.eqvAll, eqv_ints ss ts]
    by_cases h1 : s = t <;> by_cases h2 : ss = ts <;> simp [PyData.eqv, h1, h2]
theorem lay_ints : ∀ ns : List Int, PyData.canLayAll0 (ns.map PyData.int) = true ∧ PyData.depthAll (ns.map PyData.int) ≤ 1
  | [] => by simp [PyData.canLayAll0, PyData.depthAll]
  | n :: ns => by
    obtain ⟨a, b⟩ := lay_ints ns
    simp [PyData.canLayAll0, PyData.canLay0, PyData.depthAll, PyData.depth, a]
    try omega
theorem rd_eqIs {K : PySem.W.Frag} {H : Hp} {Q : VK} {a b : Addr} {ns ms : List Int} (h : SqL K H a (ns.map V.int)) (k : SqL K H b (ms.map V.int)) (q : Q (.bl (decide (ns = ms))) H) : rEqD K (.ref a) (.ref b) H Q := by
  obtain ⟨a1, a2⟩ := lay_ints ns
  obtain ⟨b1, b2⟩ := lay_ints ms
  refine ⟨_, _, Dp.lst h (dp_ints ns), Dp.lst k (dp_ints ms), ?_, ?_, ?_⟩
  · have z : PyData.depthAll (ns.map PyData.int) + 1 ≤ 64 := by omega
    simp [SeqAt.shaped, PyData.canLay0, PyData.depth, a1, z]
  · have z : PyData.depthAll (ms.map PyData.int) + 1 ≤ 64 := by omega
    simp [SeqAt.shaped, PyData.canLay0, PyData.depth, b1, z]
  · have e : PyData.eqv (.list (ns.map PyData.int)) (.list (ms.map PyData.int)) = decide (ns = ms) := by
      rw [PyData.eqv, eqv_ints]
    rw [e]
    exact q
def stP (s : Stm) : Nat × Nat := (s.first, s.many)
def Pts (G : Nat) (es : List Ent) (ds : List Nat) (ps : List Nat) : Prop := ps.Pairwise (· < ·) ∧ (∀ p, p ∈ ps ↔ p = 0 ∨ ∃ d ∈ ds, p = ptU G (bS G es d)) ∧ ps.length ≤ 73
def sp__law_left (K : PySem.W.Frag) : Sp := fun vs H Q _ => ∃ (l sl dl : Addr) (es : List Ent) (sws : List V) (ss : List Stm) (ds : List Nat) (G : Nat), vs = [.ref l, .ref sl, .ref dl, .int (G : Int)] ∧ Led H l es G ∧ H sl = some (.lst sws) ∧ StmsAt H sws ss ∧ sws.length ≤ 24 ∧ H dl = some (.lst (ds.map nV)) ∧ ds.length ≤ 24 ∧
  ∀ (ps : List Nat) z J, Same H J → H z = none → Pts G es (ds ++ endsL (ss.map stP)) ps → J z = some (.lst ((ps.filter (okU G es ss)).map nV)) → Q (.ref z) J
theorem ar__law_left (K : PySem.W.Frag) : ∀ vs H Q E, sp__law_left K vs H Q E → vs.length = 4 := by
  intro vs H Q E h
  obtain ⟨l, sl, dl, es, sws, ss, ds, G, rfl, _⟩ := h
  rfl
abbrev N__law_left : List Str := ["_law_entries_here", "_law_statements", "_law_days", "_law_grain_here", "_law_stretches", "_law_word", "_law_first", "_law_many", "_law_number", "_law_found", "_law_unit", "_law_said_here", "_law_statement"]
theorem sc__law_left : FnScope N__law_left ["_law_entries_here", "_law_statements", "_law_days", "_law_grain_here"] (defScope S__law_left) := ⟨rfl, rfl, rfl, by decide +kernel, rfl, by decide +kernel, by decide +kernel⟩
theorem ok__law_left {P : Program} {w : World} {K : PySem.W.Frag} {mg : Str → Option Value} {base : Heap} {f : Addr} {fd : FuncData} (F : Fun K "_law_left" "_law_left" S__law_left f fd) {f__law_points : Addr} {fd__law_points : FuncData} (C__law_points : Cal P w K mg base "_law_points" 2 f__law_points fd__law_points ["_law_entries_here", "_law_days", "_law_grain_here"] (sp__law_points K)) {f__law_ends : Addr} {fd__law_ends : FuncData} (C__law_ends : Cal P w K mg base "_law_ends" 1 f__law_ends fd__law_ends ["_law_stretches"] (sp__law_ends K)) {f__law_told : Addr} {fd__law_told : FuncData} (C__law_told : Cal P w K mg base "_law_told" 2 f__law_told fd__law_told ["_law_entries_here", "_law_unit", "_law_first", "_law_many", "_law_grain_here"] (sp__law_told K)) (m_list : mg "list" = none) :
    FnG P w K mg base CX0 3 f fd ["_law_entries_here", "_law_statements", "_law_days", "_law_grain_here"] (sp__law_left K) := by
  refine Fun_okG F sc__law_left (ar__law_left K) (fun cdv A outer s H vs Q E hg hr h => ?_)
  obtain ⟨l, sl, dl, es, sws, ss, ds, G, rfl, L, hs, st, lw, hd, ld, q⟩ := h
  refine ⟨_, (pss_cons (ps_setLc (i := 4) (own := [("_law_word", 5), ("_law_first", 6), ("_law_many", 7), ("_law_number", 8)]) (g := (gTup K 4 (gCons (gName 5) (gCons (gName 6) (gCons (gName 7) (gCons (gName 8) gNil)))))) rfl sc__law_left.nd rfl rfl (sw_true rfl rfl rfl (by decide +kernel)) (piL (K := K) rfl (pv 1)) (blkOk_by (own := [("_law_word", 5), ("_law_first", 6), ("_law_many", 7), ("_law_number", 8)]) (N := N__law_left) (sc := defScope S__law_left) (by decide +kernel)) (fun _ _ _ _ _ => (pgT rfl rfl (pgs_cons (pg_name (i := 5) sc__law_left.nd rfl (Or.inl rfl)) (pgs_cons (pg_name (i := 6) sc__law_left.nd rfl (Or.inl rfl)) (pgs_cons (pg_name (i := 7) sc__law_left.nd rfl (Or.inl rfl)) (pgs_cons (pg_name (i := 8) sc__law_left.nd rfl (Or.inl rfl)) pgs_nil)))))) (fun _ _ _ _ _ => pts_nil) (fun _ _ _ _ _ => (pe_tup (pa_cons (pv 6) (pa_cons (pv 7) pa_nil)))))
    (pss_cons (ps_set (i := 9) sc__law_left.nd rfl (Or.inl rfl) (pe_lst pa_nil))
    (pss_cons (ps_for PassesOwn.never rfl (piL (K := K) rfl (pe_c C__law_points hg (hr.mono (by decide)) rfl (pa_cons (pv 0) (pa_cons (pe_op op_cat (pe_callTy (T := "list") (lstK (K := K) rfl) (by rfl) m_list (by decide +kernel) (pa_cons (pv 2) pa_nil)) (pe_c C__law_ends hg (hr.mono (by decide)) rfl (pa_cons (pv 4) pa_nil))) (pa_cons (pv 3) pa_nil))))) (pg_name (i := 10) sc__law_left.nd rfl (Or.inr rfl)) (pss_cons (ps_setLc (i := 11) (own := [("_law_word", 5), ("_law_first", 6), ("_law_many", 7), ("_law_number", 8)]) (g := (gTup K 4 (gCons (gName 5) (gCons (gName 6) (gCons (gName 7) (gCons (gName 8) gNil)))))) rfl sc__law_left.nd rfl rfl (sw_true rfl rfl rfl (by decide +kernel)) (piL (K := K) rfl (pv 1)) (blkOk_by (own := [("_law_word", 5), ("_law_first", 6), ("_law_many", 7), ("_law_number", 8)]) (N := N__law_left) (sc := defScope S__law_left) (by decide +kernel)) (fun _ _ _ _ _ => (pgT rfl rfl (pgs_cons (pg_name (i := 5) sc__law_left.nd rfl (Or.inl rfl)) (pgs_cons (pg_name (i := 6) sc__law_left.nd rfl (Or.inl rfl)) (pgs_cons (pg_name (i := 7) sc__law_left.nd rfl (Or.inl rfl)) (pgs_cons (pg_name (i := 8) sc__law_left.nd rfl (Or.inl rfl)) pgs_nil)))))) (fun _ _ _ _ _ => pts_nil) (fun _ _ _ _ _ => (pe_c C__law_told hg (hr.mono (by decide)) rfl (pa_cons (pv 0) (pa_cons (pv 10) (pa_cons (pv 6) (pa_cons (pv 7) (pa_cons (pv 3) pa_nil))))))))
    (pss_one (ps_if (pt_cmpR (eqK (K := K) rfl (room_u hr)) (pv 11) (pe_lc (own := [("_law_statement", 12)]) rfl sc__law_left.nd (piL (K := K) rfl (pv 1)) (blkOk_by (own := [("_law_statement", 12)]) (N := N__law_left) (sc := defScope S__law_left) (by decide +kernel)) (fun _ _ _ _ _ => (pg_name (i := 12) sc__law_left.nd rfl (Or.inl rfl))) (fun _ _ _ _ _ => pts_nil) (fun _ _ _ _ _ => (pe_ix (ixK (K := K) rfl) (pv 12) pe_int (fun _ _ => rfl)))) (nomark _)) (pss_one (ps_expr (pe_bm PySem.F.plainAttrs_list PySem.F.slot_list_append PySem.F.type_list_append mt_append (pv 9) (pa_cons (pv 10) pa_nil)))) pss_nil))))
    (pss_one (ps_ret (pv 9)))))), ?_⟩
  have ln := st.len
  walk_at "rd_6"
  intro D nD
  refine lc_growL (fun ys J => PrsAt J ys ((ss.map stP).take ys.length)) hs (by omega) nD (fun J k => by simp; exact .nil) (fun i v ys J hx i5 ly k hD hP => ?_) fun ys J ly k hD hP => ?_
  · obtain ⟨s, es', c, rfl, hc⟩ := st.get hx
    have hc := k _ _ (ne_of_none hc nD) hc
    walk_at "rd_6"
    refine ⟨rfl, ?_⟩
    walk_at "rd_6"
    rename_i p2 J2 n2 s2 e2
    refine lcEnd_mk (s2 _ _ hD) ly i5 (k.trans (Kp.of s2)) fun J4 p4 e4 => ?_
    have e : (ss.map stP)[i]? = some (s.first, s.many) := by
      rw [List.getElem?_map, es']
      rfl
    rw [List.length_append, List.length_singleton, ly, List.take_add_one, e]
    rw [ly] at hP
    exact (hP.mono fun p xs h => p4.tup (s2 _ _ h)).app (.cons (p4.tup e2) .nil)
  have s1 : Same H J := fun a o h => k a o (ne_of_none h nD) h
  rw [ly, ln, ← List.length_map (f := stP) (as := ss), List.take_length] at hP
  walk_at "rd_6"
  rename_i p1 J1 n1 sJ1 e1
  have nf : H p1 = none := Same.free s1 n1
  refine rd_lstOf (SqL.of (sJ1 _ _ (s1 _ _ hd))) fun p3 J3 n3 s3 e3 => ?_
  walk_at "rd_6"
  have hP3 : PrsAt J3 ys (ss.map stP) := hP.mono fun p xs h => s3 _ _ (sJ1 _ _ h)
  refine ⟨D, ys, ss.map stP, rfl, s3 _ _ (sJ1 _ _ hD), hP3, by omega, fun z4 J4 s4 n4 e4 => ?_⟩
  have le4 : (endsL (ss.map stP)).length ≤ 48 := by
    rw [endsL_len, List.length_map]
    omega
  refine rd_catK (s4 _ _ e3) e4 (by rw [List.length_map, List.length_map]; omega) fun p5 J5 n5 s5 e5 => ?_
  walk_at "rd_6"
  have t5 : Same J1 J5 := Same.trans s3 (Same.trans s4 s5)
  have h5 : Same H J5 := Same.trans s1 (Same.trans sJ1 t5)
  rw [← List.map_append] at e5
  refine ⟨l, p5, es, ds ++ endsL (ss.map stP), G, rfl, L.same h5, e5, by rw [List.length_append]; omega, fun ps zp J6 s6 n6 e6 pw mem len => ?_⟩
  have e16 := s6 _ _ (t5 _ _ e1)
  have h6 : Same H J6 := Same.trans h5 s6
  have np : zp ≠ p1 := fun z => by
    subst z
    rw [t5 _ _ e1] at n6
    cases n6
  clear s1 k hD hP nD sJ1 s3 e3 hP3 s4 e4 n4 n5 s5 e5 t5 h5 n6 n3
  refine ⟨zp, rfl, ⟨_, SqL.of e6⟩, ?_⟩
  refine lp_lst (xs := ps.map nV) (fun i σ' M => (∃ (o5 o6 o7 o8 o10 o11 o12 : Option V), σ' = [some (.ref l), some (.ref sl), some (.ref dl), some (.int (G : Int)), some (.ref D), o5, o6, o7, o8, some (.ref p1), o10, o11, o12]) ∧ Same H M ∧ M zp = some (.lst (ps.map nV)) ∧ M p1 = some (.lst (((ps.take i).filter (okU G es ss)).map nV)))
    ⟨⟨none, none, none, none, none, none, none, rfl⟩, h6, e6, e16⟩ (fun i σ M _ w => ?_) (fun i r σ M hr w => ?_) (fun σ M w => ?_)
  · exact SqL.of w.2.2.1
  · obtain ⟨⟨o5, o6, o7, o8, o10, o11, o12, rfl⟩, sM, eM, fM⟩ := w
    rw [List.getElem?_map] at hr
    obtain ⟨u, eu, rfl⟩ := Option.map_eq_some_iff.mp hr
    have LM := L.same sM
    have hsM := sM _ _ hs
    have lf : (((ps.take i).filter (okU G es ss)).map nV).length ≤ 1000 := by
      rw [List.length_map]
      have h1 := List.length_filter_le (okU G es ss) (ps.take i)
      have h2 := List.length_take_le' i ps
      omega
    have nx : ∀ J, Same M J → (∀ o8 o10 o11 : Option V, True) → True := fun _ _ _ => trivial
    clear nx
    walk_at "rd_6"
    intro D7 nD7
    refine lc_sig (τ := [some (.ref l), some (.ref sl), some (.ref dl), some (.int (G : Int)), some (.ref D), o5, o6, o7, o8, some (.ref p1), some (nV u), o11, o12]) rfl ?_
    refine lc_growL (fun ys _ => ys = ((saidL G es ss u).take ys.length).map V.int) hsM (by omega) nD7 (fun J k => by simp) (fun j v ys J hx i5 ly k hD hP => ?_) fun ys J7 ly7 k7 hD7 hP7 => ?_
    · obtain ⟨s, es', c, rfl, hc⟩ := st.get hx
      have hc := k _ _ (ne_of_none (sM _ _ hc) nD7) (sM _ _ hc)
      have LJ : Led J l es G := LM.same fun a o h => k a o (ne_of_none h nD7) h
      walk_at "rd_6"
      refine ⟨rfl, ?_⟩
      walk_at "rd_6"
      refine ⟨l, es, (u : Int), s.first, s.many, G, rfl, LJ, fun J8 s8 => ?_⟩
      refine lcEnd_mk (s8 _ _ hD) ly i5 (k.trans (Kp.of s8)) fun J4 p4 e4 => ?_
      have e : (saidL G es ss u)[j]? = some (toldN G es (u : Int) s.first s.many) := by
        unfold saidL
        rw [List.getElem?_map, es']
        rfl
      rw [List.length_append, List.length_singleton, ly, List.take_add_one, e, List.map_append]
      rw [ly] at hP
      rw [← hP]
      rfl
    have lsd : (saidL G es ss u).length = ss.length := by
      unfold saidL
      rw [List.length_map]
    rw [ly7, ln, ← lsd, List.take_length] at hP7
    have s7 : Same M J7 := fun a o h => k7 a o (ne_of_none h nD7) h
    walk_at "rd_6"
    intro D9 nD9
    refine lc_sig (τ := [some (.ref l), some (.ref sl), some (.ref dl), some (.int (G : Int)), some (.ref D), o5, o6, o7, o8, some (.ref p1), some (nV u), some (.ref D7), o12]) rfl ?_
    refine lc_growL (fun ys _ => ys = ((ss.map Stm.num).take ys.length).map V.int) (s7 _ _ hsM) (by omega) nD9 (fun J k => by simp) (fun j v ys J hx i5 ly k hD hP => ?_) fun ys9 J9 ly9 k9 hD9 hP9 => ?_
    · obtain ⟨s, es', c, rfl, hc⟩ := st.get hx
      have hc := s7 _ _ (sM _ _ hc)
      have hc := k _ _ (ne_of_none hc nD9) hc
      walk_at "rd_6"
      refine ⟨rfl, ?_⟩
      walk_at "rd_6"
      refine lcEnd_mk hD ly i5 k fun J4 p4 e4 => ?_
      have e : (ss.map Stm.num)[j]? = some s.num := by
        rw [List.getElem?_map, es']
        rfl
      rw [List.length_append, List.length_singleton, ly, List.take_add_one, e, List.map_append]
      rw [ly] at hP
      rw [← hP]
      rfl
    rw [ly9, ln, ← List.length_map (f := Stm.num) (as := ss), List.take_length] at hP9
    have s9 : Same J7 J9 := fun a o h => k9 a o (ne_of_none h nD9) h
    rw [hP7] at hD7
    rw [hP9] at hD9
    have h9 : Same H J9 := Same.trans sM (Same.trans s7 s9)
    have eM9 := s9 _ _ (s7 _ _ eM)
    have fM9 := s9 _ _ (s7 _ _ fM)
    walk_at "rd_6"
    refine rd_eqIs (SqL.of (s9 _ _ hD7)) (SqL.of hD9) ?_
    walk_at "rd_6"
    refine rd_if (fun c => ?_) (fun c => ?_)
    · walk_at "rd_6"
      refine rd_appK fM9 lf fun JA pA eA => ?_
      walk_at "rd_6"
      refine ⟨⟨_, _, _, _, _, _, _, rfl⟩, fun a o h => pA.1 _ _ (ne_of_none h nf) (h9 _ _ h), pA.1 _ _ np eM9, ?_⟩
      rw [eA, List.take_add_one, eu, List.filter_append, List.map_append]
      have ok : okU G es ss u = true := decide_eq_true c
      simp [ok]
    · walk_at "rd_6"
      refine ⟨⟨_, _, _, _, _, _, _, rfl⟩, h9, eM9, ?_⟩
      rw [fM9, List.take_add_one, eu, List.filter_append, List.map_append]
      have ok : okU G es ss u = false := decide_eq_false c
      simp [ok]
  · obtain ⟨⟨o5, o6, o7, o8, o10, o11, o12, rfl⟩, sM, eM, fM⟩ := w
    rw [List.length_map, List.take_length] at fM
    walk_at "rd_6"
    exact q ps p1 M sM nf ⟨pw, mem, len⟩ fM

def sp__law_any_statements (K : PySem.W.Frag) : Sp := fun vs H Q _ => ∃ (b l : Addr) (es : List Ent) (last most : Nat), vs = [.ref b, .ref l, .int (last : Int), .int (most : Int)] ∧ Bag b H ∧ l ≠ b ∧ (∃ ws, H l = some (.lst ws) ∧ EntsAt H ws es ∧ ws.length ≤ 4) ∧ last ≤ 100 ∧ most ≤ 100 ∧
  ∀ (s : Addr) (ws : List V) (ss : List Stm) J, s ≠ b → H s = none → J s = some (.lst ws) → StmsAt J ws ss → ws.length ≤ most → (∀ x ∈ ss, 1 ≤ x.many ∧ x.first + x.many ≤ last + 1 ∧ Bd 700 x.num) → 0 < grN es → grN es < 2 ^ 500 → (∀ e ∈ es, Fits (grN es) e.am) → Kp b H J → Bag b J → Q (.ref s) J
theorem ar__law_any_statements (K : PySem.W.Frag) : ∀ vs H Q E, sp__law_any_statements K vs H Q E → vs.length = 4 := by
  intro vs H Q E h
  obtain ⟨b, l, es, last, most, rfl, _⟩ := h
  rfl
abbrev N__law_any_statements : List Str := ["_law_bag_here", "_law_entries_here", "_law_last", "_law_most", "_law_grain_here", "_law_found", "_law_k", "_law_first", "_law_many", "_law_number"]
theorem sc__law_any_statements : FnScope N__law_any_statements ["_law_bag_here", "_law_entries_here", "_law_last", "_law_most"] (defScope S__law_any_statements) := ⟨rfl, rfl, rfl, by decide +kernel, rfl, by decide +kernel, by decide +kernel⟩
theorem ok__law_any_statements {P : Program} {w : World} {K : PySem.W.Frag} {mg : Str → Option Value} {base : Heap} {f : Addr} {fd : FuncData} (F : Fun K "_law_any_statements" "_law_any_statements" S__law_any_statements f fd) {f__law_take : Addr} {fd__law_take : FuncData} (C__law_take : Cal P w K mg base "_law_take" 1 f__law_take fd__law_take ["_law_bag_here", "_law_size"] (sp__law_take K)) {f__law_told : Addr} {fd__law_told : FuncData} (C__law_told : Cal P w K mg base "_law_told" 2 f__law_told fd__law_told ["_law_entries_here", "_law_unit", "_law_first", "_law_many", "_law_grain_here"] (sp__law_told K)) {f__law_stretch : Addr} {fd__law_stretch : FuncData} (C__law_stretch : Cal P w K mg base "_law_stretch" 2 f__law_stretch fd__law_stretch ["_law_bag_here", "_law_last"] (sp__law_stretch K)) {f__law_grain : Addr} {fd__law_grain : FuncData} (C__law_grain : Cal P w K mg base "_law_grain" 2 f__law_grain fd__law_grain ["_law_entries_here"] (sp__law_grain K)) (m_range : mg "range" = none) :
    FnG P w K mg base CX0 3 f fd ["_law_bag_here", "_law_entries_here", "_law_last", "_law_most"] (sp__law_any_statements K) := by
  refine Fun_okG F sc__law_any_statements (ar__law_any_statements K) (fun cdv A outer s H vs Q E hg hr h => ?_)
  obtain ⟨b, l, es, last, most, rfl, hb, nl, ⟨ws, hl, t, lw⟩, l100, m100, q⟩ := h
  refine ⟨_, (pss_cons (ps_par (i := 4) (j := 5) rfl sc__law_any_statements.nd rfl rfl (by decide) rfl rfl (pa_cons (pe_c C__law_grain hg (hr.mono (by decide)) rfl (pa_cons (pv 1) pa_nil)) (pa_cons (pe_lst pa_nil) pa_nil)) (by rfl))
    (pss_cons (ps_for PassesOwn.never rfl (pi_range1 rfl m_range (pa_cons (pe_c C__law_take hg (hr.mono (by decide)) rfl (pa_cons (pv 0) (pa_cons (pe_op op_add (pv 3) pe_int) pa_nil))) pa_nil)) (pg_name (i := 6) sc__law_any_statements.nd rfl (Or.inl rfl)) (pss_cons (ps_asg (pe_c C__law_stretch hg (hr.mono (by decide)) rfl (pa_cons (pv 0) (pa_cons (pv 2) pa_nil))) (pg_tup rfl (pgs_cons (pg_name (i := 7) sc__law_any_statements.nd rfl (Or.inl rfl)) (pgs_cons (pg_name (i := 8) sc__law_any_statements.nd rfl (Or.inl rfl)) pgs_nil))))
    (pss_cons (ps_set (i := 9) sc__law_any_statements.nd rfl (Or.inl rfl) (pe_c C__law_told hg (hr.mono (by decide)) rfl (pa_cons (pv 1) (pa_cons (pe_c C__law_take hg (hr.mono (by decide)) rfl (pa_cons (pv 0) (pa_cons (pv 4) pa_nil))) (pa_cons (pv 7) (pa_cons (pv 8) (pa_cons (pv 4) pa_nil)))))))
    (pss_cons (ps_if (pt_cmpR op_eq (pe_c C__law_take hg (hr.mono (by decide)) rfl (pa_cons (pv 0) (pa_cons pe_int pa_nil))) pe_int (nomark _)) (pss_one (ps_set (i := 9) sc__law_any_statements.nd rfl (Or.inl rfl) (pe_op op_add (pv 9) (pe_ix (ixK (K := K) rfl) (pe_lst (pa_cons (pe_un un_neg pe_int) (pa_cons pe_int pa_nil))) (pe_c C__law_take hg (hr.mono (by decide)) rfl (pa_cons (pv 0) (pa_cons pe_int pa_nil))) (fun _ _ => rfl))))) pss_nil)
    (pss_one (ps_expr (pe_bm PySem.F.plainAttrs_list PySem.F.slot_list_append PySem.F.type_list_append mt_append (pv 5) (pa_cons (pe_tup (pa_cons pe_str (pa_cons (pv 7) (pa_cons (pv 8) (pa_cons (pv 9) pa_nil))))) pa_nil))))))))
    (pss_one (ps_ret (pv 5))))), ?_⟩
  walk_at "rd_6"
  refine ⟨l, ws, es, rfl, hl, t, by omega, fun G g0 gb gf gn => ?_⟩
  rw [← gn] at q
  have G320 : G ≤ 2 ^ 320 := Nat.le_trans gb (Nat.pow_le_pow_right (by decide) (by omega))
  have G400 : G < 2 ^ 400 := Nat.lt_of_le_of_lt G320 (Nat.pow_lt_pow_right (by decide) (by decide))
  have L : Led H l es G := ⟨ws, hl, t, gf, g0, Nat.lt_of_le_of_lt G320 (Nat.pow_lt_pow_right (by decide) (by decide)), by omega⟩
  have G500 : G < 2 ^ 500 := Nat.lt_of_le_of_lt G320 (Nat.pow_lt_pow_right (by decide) (by decide))
  clear hl t gb lw
  walk_at "rd_6"
  rename_i p1 J1 n1 s1 e1
  have m1 : p1 ≠ b := hb.ne n1
  have g1 := hb.same s1
  refine ⟨b, most + 1, rfl, g1, by omega, by omega, fun r4 J4 r4a r4b k4 g4 => ?_⟩
  have K4 : Kp b H J4 := (Kp.of s1).trans k4
  have e4 := k4 _ _ m1 e1
  have hn : r4.toNat ≤ most := by omega
  generalize hN : r4.toNat = N at hn
  clear k4 s1 e1 g1
  walk_at "rd_6"
  rw [hN]
  refine lp_rng (fun i σ' M => ∃ (zs : List V) (ss : List Stm) (o6 o7 o8 o9 : Option V), σ' = [some (.ref b), some (.ref l), some (.int (last : Int)), some (.int (most : Int)), some (.int (G : Int)), some (.ref p1), o6, o7, o8, o9] ∧ M p1 = some (.lst zs) ∧ StmsAt M zs ss ∧ zs.length ≤ i ∧ (∀ x ∈ ss, 1 ≤ x.many ∧ x.first + x.many ≤ last + 1 ∧ Bd 700 x.num) ∧ Kp b H M ∧ Bag b M)
    ⟨[], [], none, none, none, none, rfl, e4, .nil, Nat.le_refl _, (fun x hx => by cases hx), K4, g4⟩ (fun i σ M hi w => ?_) (fun σ M w => ?_)
  · obtain ⟨zs, ss, o6, o7, o8, o9, rfl, hz, sz', le, ok, kM, gM⟩ := w
    walk_at "rd_6"
    refine ⟨b, last, rfl, gM, by omega, fun p i' n' J5 np e5 n1' nle k5 g5 => ?_⟩
    have hz5 := k5 _ _ m1 hz
    have sz5 := sz'.mono fun p xs h => k5.tup gM h
    have kM5 := kM.trans k5
    clear hz sz' kM k5 gM
    walk_at "rd_6"
    refine ⟨b, G, rfl, g5, by omega, by omega, fun u J5' ua ub k5' g5' => ?_⟩
    have hz5 := k5' _ _ m1 hz5
    have sz5 := sz5.mono fun p xs h => k5'.tup g5 h
    have kM5 := kM5.trans k5'
    have g5 := g5'
    have L5 := L.kp kM5 hb nl
    clear k5' g5'
    walk_at "rd_6"
    refine ⟨l, es, u, i', n', G, rfl, L5, fun J6 s6 => ?_⟩
    have hz6 := s6 _ _ hz5
    have sz6 := sz5.mono fun p xs h => s6 _ _ h
    have kM6 := kM5.trans (Kp.of s6)
    have g6 := g5.same s6
    have bu : Bd 400 u := by unfold Bd; omega
    have bt : Bd 660 (toldN G es u i' n') := by
      have h1 : Bd 652 ((bS G es (i' + n') + u).fdiv (G : Int)) := Bd.mono (m := 651) (((L.bd (i' + n')).add (bu.mono (by decide))).le (natAbs_fdiv_le _ (by omega))) (by decide)
      have h2 : Bd 652 ((bS G es i' + u).fdiv (G : Int)) := Bd.mono (m := 651) (((L.bd i').add (bu.mono (by decide))).le (natAbs_fdiv_le _ (by omega))) (by decide)
      exact (h1.sub h2).mono (by decide)
    clear hz5 sz5 kM5 g5 L5 s6
    have fin : ∀ (num : Int) (J : Hp), Bd 700 num → Kp b H J → Bag b J → J p1 = some (.lst zs) → StmsAt J zs ss → ∀ c J7, Same J J7 → J7 c = some (.tup [.str "statement", .int (i' : Int), .int (n' : Int), .int num]) → ∀ J8, Pu p1 J7 J8 → J8 p1 = some (.lst (zs ++ [.ref c])) →
        StmsAt J8 (zs ++ [.ref c]) (ss ++ [⟨i', n', num⟩]) ∧ (zs ++ [V.ref c]).length ≤ i + 1 ∧ (∀ x ∈ ss ++ [⟨i', n', num⟩], 1 ≤ x.many ∧ x.first + x.many ≤ last + 1 ∧ Bd 700 x.num) ∧ Kp b H J8 ∧ Bag b J8 := fun num J bn kJ gJ hJ sJ c J7 s7 e7 J8 p8 e8 => by
      refine ⟨(sJ.mono fun p xs h => p8.tup (s7 _ _ h)).snoc ⟨c, rfl, p8.tup e7⟩, by rw [List.length_append, List.length_singleton]; omega, fun x hx => ?_, ?_, p8.bag m1 (gJ.same s7)⟩
      · rcases List.mem_append.mp hx with hx | hx
        · exact ok x hx
        · obtain rfl := List.mem_singleton.mp hx
          exact ⟨n1', nle, bn⟩
      · exact (kJ.trans (Kp.of s7)).pu p8 n1
    walk_at "rd_6"
    refine ⟨b, 12, rfl, g6, by decide, by decide, fun r7 J7 r7a r7b k7 g7 => ?_⟩
    have hz7 := k7 _ _ m1 hz6
    have sz7 := sz6.mono fun p xs h => k7.tup g6 h
    have kM7 := kM6.trans k7
    walk_at "rd_6"
    refine rd_if (fun c2 => ?_) (fun c2 => ?_)
    · walk_at "rd_6"
      rename_i pq Jq nq sq eq
      have mq : pq ≠ b := g7.ne nq
      have gq := g7.same sq
      refine ⟨b, 2, rfl, gq, by decide, by decide, fun r8 J8 r8a r8b k8 g8 => ?_⟩
      have hz8 := k8 _ _ m1 (sq _ _ hz7)
      have sz8 := (sz7.mono fun p xs h => sq _ _ h).mono fun p xs h => k8.tup gq h
      have kM8 := (kM7.trans (Kp.of sq)).trans k8
      refine rd_pick (k8 _ _ mq eq) r8a r8b fun v hv => ?_
      obtain ⟨w, rfl, w1⟩ : ∃ w : Int, v = .int w ∧ w.natAbs ≤ 2 := by
        simp only [List.mem_cons, List.not_mem_nil, or_false] at hv
        rcases hv with rfl | rfl
        · exact ⟨_, rfl, by decide⟩
        · exact ⟨_, rfl, by decide⟩
      clear hv
      have bn : Bd 700 (toldN G es u i' n' + w) := by
        have h1 : Bd 661 (toldN G es u i' n' + w) := bt.add (by unfold Bd; omega)
        exact h1.mono (by decide)
      walk_at "rd_6"
      rename_i c9 J9 n9 s9 e9
      refine rd_appK (s9 _ _ hz8) (by omega) fun JA pA eA => ?_
      obtain ⟨f1, f2, f3, f4, f5⟩ := fin _ _ bn kM8 g8 hz8 sz8 c9 J9 s9 e9 JA pA eA
      walk_at "rd_6"
      exact ⟨_, _, _, _, _, _, rfl, eA, f1, f2, f3, f4, f5⟩
    · walk_at "rd_6"
      rename_i c9 J9 n9 s9 e9
      refine rd_appK (s9 _ _ hz7) (by omega) fun JA pA eA => ?_
      obtain ⟨f1, f2, f3, f4, f5⟩ := fin _ _ (bt.mono (by decide)) kM7 g7 hz7 sz7 c9 J9 s9 e9 JA pA eA
      walk_at "rd_6"
      exact ⟨_, _, _, _, _, _, rfl, eA, f1, f2, f3, f4, f5⟩
  · obtain ⟨zs, ss, o6, o7, o8, o9, rfl, hz, sz', le, ok, kM, gM⟩ := w
    walk_at "rd_6"
    exact q p1 zs ss M m1 n1 hz sz' (by omega) ok g0 G500 gf kM gM

def sp__law_true_statements (K : PySem.W.Frag) : Sp := fun vs H Q _ => ∃ (b l : Addr) (es : List Ent) (last most : Nat), vs = [.ref b, .ref l, .int (last : Int), .int (most : Int)] ∧ Bag b H ∧ l ≠ b ∧ (∃ ws, H l = some (.lst ws) ∧ EntsAt H ws es ∧ ws.length ≤ 4) ∧ last ≤ 100 ∧ most ≤ 100 ∧
  ∀ (s : Addr) (ws : List V) (ss : List Stm) (u : Nat) J, s ≠ b → H s = none → J s = some (.lst ws) → StmsAt J ws ss → ws.length ≤ most → (∀ x ∈ ss, 1 ≤ x.many ∧ x.first + x.many ≤ last + 1 ∧ Bd 700 x.num) → 0 < grN es → grN es < 2 ^ 500 → (∀ e ∈ es, Fits (grN es) e.am) → u < grN es → (∀ x ∈ ss, tellF (grN es) es x.first x.many x.num u = true) → Kp b H J → Bag b J → Q (.ref s) J
theorem ar__law_true_statements (K : PySem.W.Frag) : ∀ vs H Q E, sp__law_true_statements K vs H Q E → vs.length = 4 := by
  intro vs H Q E h
  obtain ⟨b, l, es, last, most, rfl, _⟩ := h
  rfl
abbrev N__law_true_statements : List Str := ["_law_bag_here", "_law_entries_here", "_law_last", "_law_most", "_law_grain_here", "_law_found", "_law_unit", "_law_k", "_law_first", "_law_many"]
theorem sc__law_true_statements : FnScope N__law_true_statements ["_law_bag_here", "_law_entries_here", "_law_last", "_law_most"] (defScope S__law_true_statements) := ⟨rfl, rfl, rfl, by decide +kernel, rfl, by decide +kernel, by decide +kernel⟩
theorem ok__law_true_statements {P : Program} {w : World} {K : PySem.W.Frag} {mg : Str → Option Value} {base : Heap} {f : Addr} {fd : FuncData} (F : Fun K "_law_true_statements" "_law_true_statements" S__law_true_statements f fd) {f__law_take : Addr} {fd__law_take : FuncData} (C__law_take : Cal P w K mg base "_law_take" 1 f__law_take fd__law_take ["_law_bag_here", "_law_size"] (sp__law_take K)) {f__law_told : Addr} {fd__law_told : FuncData} (C__law_told : Cal P w K mg base "_law_told" 2 f__law_told fd__law_told ["_law_entries_here", "_law_unit", "_law_first", "_law_many", "_law_grain_here"] (sp__law_told K)) {f__law_stretch : Addr} {fd__law_stretch : FuncData} (C__law_stretch : Cal P w K mg base "_law_stretch" 2 f__law_stretch fd__law_stretch ["_law_bag_here", "_law_last"] (sp__law_stretch K)) {f__law_grain : Addr} {fd__law_grain : FuncData} (C__law_grain : Cal P w K mg base "_law_grain" 2 f__law_grain fd__law_grain ["_law_entries_here"] (sp__law_grain K)) (m_range : mg "range" = none) :
    FnG P w K mg base CX0 3 f fd ["_law_bag_here", "_law_entries_here", "_law_last", "_law_most"] (sp__law_true_statements K) := by
  refine Fun_okG F sc__law_true_statements (ar__law_true_statements K) (fun cdv A outer s H vs Q E hg hr h => ?_)
  obtain ⟨b, l, es, last, most, rfl, hb, nl, ⟨ws, hl, t, lw⟩, l100, m100, q⟩ := h
  refine ⟨_, (pss_cons (ps_par (i := 4) (j := 5) rfl sc__law_true_statements.nd rfl rfl (by decide) rfl rfl (pa_cons (pe_c C__law_grain hg (hr.mono (by decide)) rfl (pa_cons (pv 1) pa_nil)) (pa_cons (pe_lst pa_nil) pa_nil)) (by rfl))
    (pss_cons (ps_set (i := 6) sc__law_true_statements.nd rfl (Or.inl rfl) (pe_c C__law_take hg (hr.mono (by decide)) rfl (pa_cons (pv 0) (pa_cons (pv 4) pa_nil))))
    (pss_cons (ps_for PassesOwn.never rfl (pi_range1 rfl m_range (pa_cons (pe_c C__law_take hg (hr.mono (by decide)) rfl (pa_cons (pv 0) (pa_cons (pe_op op_add (pv 3) pe_int) pa_nil))) pa_nil)) (pg_name (i := 7) sc__law_true_statements.nd rfl (Or.inl rfl)) (pss_cons (ps_asg (pe_c C__law_stretch hg (hr.mono (by decide)) rfl (pa_cons (pv 0) (pa_cons (pv 2) pa_nil))) (pg_tup rfl (pgs_cons (pg_name (i := 8) sc__law_true_statements.nd rfl (Or.inl rfl)) (pgs_cons (pg_name (i := 9) sc__law_true_statements.nd rfl (Or.inl rfl)) pgs_nil))))
    (pss_one (ps_expr (pe_bm PySem.F.plainAttrs_list PySem.F.slot_list_append PySem.F.type_list_append mt_append (pv 5) (pa_cons (pe_tup (pa_cons pe_str (pa_cons (pv 8) (pa_cons (pv 9) (pa_cons (pe_c C__law_told hg (hr.mono (by decide)) rfl (pa_cons (pv 1) (pa_cons (pv 6) (pa_cons (pv 8) (pa_cons (pv 9) (pa_cons (pv 4) pa_nil)))))) pa_nil))))) pa_nil))))))
    (pss_one (ps_ret (pv 5)))))), ?_⟩
  walk_at "rd_6"
  refine ⟨l, ws, es, rfl, hl, t, by omega, fun G g0 gb gf gn => ?_⟩
  rw [← gn] at q
  have G320 : G ≤ 2 ^ 320 := Nat.le_trans gb (Nat.pow_le_pow_right (by decide) (by omega))
  have G400 : G < 2 ^ 400 := Nat.lt_of_le_of_lt G320 (Nat.pow_lt_pow_right (by decide) (by decide))
  have G500 : G < 2 ^ 500 := Nat.lt_of_le_of_lt G320 (Nat.pow_lt_pow_right (by decide) (by decide))
  have L : Led H l es G := ⟨ws, hl, t, gf, g0, G500, by omega⟩
  clear hl t gb lw
  walk_at "rd_6"
  rename_i p1 J1 n1 s1 e1
  have m1 : p1 ≠ b := hb.ne n1
  have g1 := hb.same s1
  refine ⟨b, G, rfl, g1, by omega, by omega, fun u J2 ua ub k2 g2 => ?_⟩
  obtain ⟨u, rfl⟩ := Int.eq_ofNat_of_zero_le ua
  have K2 := (Kp.of s1).trans k2
  have e2 := k2 _ _ m1 e1
  have L2 := L.kp K2 hb nl
  walk_at "rd_6"
  refine ⟨b, most + 1, rfl, g2, by omega, by omega, fun r4 J4 r4a r4b k4 g4 => ?_⟩
  have K4 := K2.trans k4
  have e4 := k4 _ _ m1 e2
  have hn : r4.toNat ≤ most := by omega
  generalize hN : r4.toNat = N at hn
  clear k4 s1 e1 g1 k2 e2 L2 g2
  walk_at "rd_6"
  rw [hN]
  refine lp_rng (fun i σ' M => ∃ (zs : List V) (ss : List Stm) (o7 o8 o9 : Option V), σ' = [some (.ref b), some (.ref l), some (.int (last : Int)), some (.int (most : Int)), some (.int (G : Int)), some (.ref p1), some (.int (u : Int)), o7, o8, o9] ∧ M p1 = some (.lst zs) ∧ StmsAt M zs ss ∧ zs.length ≤ i ∧ (∀ x ∈ ss, 1 ≤ x.many ∧ x.first + x.many ≤ last + 1 ∧ Bd 700 x.num) ∧ (∀ x ∈ ss, tellF G es x.first x.many x.num u = true) ∧ Kp b H M ∧ Bag b M)
    ⟨[], [], none, none, none, rfl, e4, .nil, Nat.le_refl _, (fun x hx => by cases hx), (fun x hx => by cases hx), K4, g4⟩ (fun i σ M hi w => ?_) (fun σ M w => ?_)
  · obtain ⟨zs, ss, o7, o8, o9, rfl, hz, sz', le, ok, tl, kM, gM⟩ := w
    walk_at "rd_6"
    refine ⟨b, last, rfl, gM, by omega, fun p i' n' J5 np e5 n1' nle k5 g5 => ?_⟩
    have hz5 := k5 _ _ m1 hz
    have sz5 := sz'.mono fun p xs h => k5.tup gM h
    have kM5 := kM.trans k5
    have L5 := L.kp kM5 hb nl
    clear hz sz' kM k5 gM
    walk_at "rd_6"
    refine ⟨l, es, (u : Int), i', n', G, rfl, L5, fun J6 s6 => ?_⟩
    have hz6 := s6 _ _ hz5
    have sz6 := sz5.mono fun p xs h => s6 _ _ h
    have kM6 := kM5.trans (Kp.of s6)
    have g6 := g5.same s6
    have bu : Bd 400 (u : Int) := by unfold Bd; omega
    have bt : Bd 700 (toldN G es u i' n') := by
      have h1 : Bd 652 ((bS G es (i' + n') + u).fdiv (G : Int)) := Bd.mono (m := 651) (((L5.bd (i' + n')).add (bu.mono (by decide))).le (natAbs_fdiv_le _ (by omega))) (by decide)
      have h2 : Bd 652 ((bS G es i' + u).fdiv (G : Int)) := Bd.mono (m := 651) (((L5.bd i').add (bu.mono (by decide))).le (natAbs_fdiv_le _ (by omega))) (by decide)
      exact (h1.sub h2).mono (by decide)
    clear hz5 sz5 kM5 g5 L5
    walk_at "rd_6"
    rename_i c9 J9 n9 s9 e9
    refine rd_appK (s9 _ _ hz6) (by omega) fun JA pA eA => ?_
    walk_at "rd_6"
    refine ⟨_, ss ++ [⟨i', n', toldN G es u i' n'⟩], _, _, _, rfl, eA, (sz6.mono fun p xs h => pA.tup (s9 _ _ h)).snoc ⟨c9, rfl, pA.tup e9⟩, by rw [List.length_append, List.length_singleton]; omega, fun x hx => ?_, fun x hx => ?_, (kM6.trans (Kp.of s9)).pu pA n1, pA.bag m1 (g6.same s9)⟩
    · rcases List.mem_append.mp hx with hx | hx
      · exact ok x hx
      · obtain rfl := List.mem_singleton.mp hx
        exact ⟨n1', nle, bt⟩
    · rcases List.mem_append.mp hx with hx | hx
      · exact tl x hx
      · obtain rfl := List.mem_singleton.mp hx
        exact decide_eq_true rfl
  · obtain ⟨zs, ss, o7, o8, o9, rfl, hz, sz', le, ok, tl, kM, gM⟩ := w
    walk_at "rd_6"
    exact q p1 zs ss u M m1 n1 hz sz' (by omega) ok g0 G500 gf (by omega) tl kM gM
def sp__law_whole (K : PySem.W.Frag) : Sp := fun vs H Q _ => ∃ i : Int, vs = [.int i] ∧ Q (.bl true) H
theorem ar__law_whole (K : PySem.W.Frag) : ∀ vs H Q E, sp__law_whole K vs H Q E → vs.length = 1 := by
  intro vs H Q E h
  obtain ⟨i, rfl, _⟩ := h
  rfl
abbrev N__law_whole : List Str := ["_law_thing"]
theorem sc__law_whole : FnScope N__law_whole ["_law_thing"] (defScope S__law_whole) := ⟨rfl, rfl, rfl, by decide +kernel, rfl, by decide +kernel, by decide +kernel⟩
theorem ok__law_whole {P : Program} {w : World} {K : PySem.W.Frag} {mg : Str → Option Value} {base : Heap} {f : Addr} {fd : FuncData} (F : Fun K "_law_whole" "_law_whole" S__law_whole f fd) (m_isinstance : mg "isinstance" = none) (m_bool : mg "bool" = none) (m_int : mg "int" = none) :
    FnG P w K mg base CX0 1 f fd ["_law_thing"] (sp__law_whole K) := by
  refine Fun_okG F sc__law_whole (ar__law_whole K) (fun cdv A outer s H vs Q E hg hr h => ?_)
  obtain ⟨i, rfl, q⟩ := h
  refine ⟨_, (pss_one (ps_ret (pe_and (pe_callB (id := "isinstance") (isiK (K := K) rfl) (by rfl) m_isinstance (by decide +kernel) (pa_cons (pv 0) (pa_cons (pe_bltn (v := V.ty "int") (u := Value.type "int") (by rfl) m_int (by decide +kernel) rfl) pa_nil))) (pe_one (pe_not (pe_callB (id := "isinstance") (isiK (K := K) rfl) (by rfl) m_isinstance (by decide +kernel) (pa_cons (pv 0) (pa_cons (pe_bltn (v := V.ty "bool") (u := Value.type "bool") (by rfl) m_bool (by decide +kernel) rfl) pa_nil)))))))), ?_⟩
  walk_at "rd_6"
  refine iteT ?_
  walk_at "rd_6"
  exact q

--@DCP plan
/-! ### places -/
/-- tuples that are units of G in lowest terms -/
def PlsAt (K : PySem.W.Frag) (H : Hp) (G : Nat) (rs : List V) (us : List Nat) : Prop := rs.length = us.length ∧ ∀ (i : Nat) (r : V), rs[i]? = some r → ∃ (p : Addr) (x y : Int) (u : Nat), r = .ref p ∧ SqT K H p [.int x, .int y] ∧ us[i]? = some u ∧ IsLow (u : Int) (G : Int) x y ∧ u < G
section
variable {K : PySem.W.Frag} {H J : Hp} {G : Nat} {rs : List V} {us : List Nat} {D : Addr}
theorem PlsAt.mono (m : ∀ p xs, SqT K H p xs → SqT K J p xs) (h : PlsAt K H G rs us) : PlsAt K J G rs us := ⟨h.1, fun i r e => by
  obtain ⟨p, x, y, u, a, b, c⟩ := h.2 i r e
  exact ⟨p, x, y, u, a, m _ _ b, c⟩⟩
theorem PlsAt.same (s : Same H J) (h : PlsAt K H G rs us) : PlsAt K J G rs us := h.mono fun _ _ e => sqt_same s e
theorem PlsAt.nil : PlsAt K H G [] [] := ⟨rfl, fun i r e => by cases e⟩
theorem PlsAt.snoc (h : PlsAt K H G rs us) {p : Addr} {x y : Int} {u : Nat} (e : SqT K H p [.int x, .int y]) (l : IsLow (u : Int) (G : Int) x y) (lt : u < G) : PlsAt K H G (rs ++ [.ref p]) (us ++ [u]) := by
  refine ⟨by rw [List.length_append, List.length_append, h.1]; rfl, fun i r hr => ?_⟩
  rcases Nat.lt_or_ge i rs.length with c | c
  · rw [List.getElem?_append_left c] at hr
    obtain ⟨p, x, y, u, a, b, d, e⟩ := h.2 i r hr
    exact ⟨p, x, y, u, a, b, by rw [List.getElem?_append_left (by rw [← h.1]; exact c)]; exact d, e⟩
  · have ei : i = rs.length := by
      have := (List.getElem?_eq_some_iff.mp hr).1
      rw [List.length_append, List.length_singleton] at this
      omega
    subst ei
    rw [List.getElem?_append_right (Nat.le_refl _), Nat.sub_self] at hr
    obtain rfl : V.ref p = r := by simpa using hr
    exact ⟨p, x, y, u, rfl, e, by rw [h.1, List.getElem?_append_right (Nat.le_refl _), Nat.sub_self]; rfl, l, lt⟩

end
def sp_is_last (K : PySem.W.Frag) : Sp := fun vs H Q _ => ∃ (v : V) (t : String), vs = [v] ∧ IsTy K H v t ∧ ((t ≠ "int" ∧ Q (.bl false) H) ∨ ∃ n : Int, v = .int n ∧ t = "int" ∧ Q (.bl (decide (0 ≤ n ∧ n ≤ 200))) H)
theorem ar_is_last (K : PySem.W.Frag) : ∀ vs H Q E, sp_is_last K vs H Q E → vs.length = 1 := by
  intro vs H Q E h
  obtain ⟨v, t, rfl, _⟩ := h
  rfl
abbrev N_is_last : List Str := ["thing"]
theorem sc_is_last : FnScope N_is_last ["thing"] (defScope S_is_last) := ⟨rfl, rfl, rfl, by decide +kernel, rfl, by decide +kernel, by decide +kernel⟩
theorem ok_is_last {P : Program} {w : World} {K : PySem.W.Frag} {mg : Str → Option Value} {base : Heap} {f : Addr} {fd : FuncData} (F : Fun K "is_last" "is_last" S_is_last f fd) {f_is_int : Addr} {fd_is_int : FuncData} (C_is_int : Cal P w K mg base "is_int" 1 f_is_int fd_is_int ["thing"] (sp_is_int K)) {t_MOST_DAYS : Nat} (c_MOST_DAYS : mg "MOST_DAYS" = some (.int 200 t_MOST_DAYS)) :
    FnG P w K mg base CX0 2 f fd ["thing"] (sp_is_last K) := by
  refine Fun_okG F sc_is_last (ar_is_last K) (fun cdv A outer s H vs Q E hg hr h => ?_)
  obtain ⟨v, t, rfl, ty, q⟩ := h
  refine ⟨_, (pss_one (ps_ret (pe_and (pe_c C_is_int hg (hr.mono (by decide)) rfl (pa_cons (pv 0) pa_nil)) (pe_one (pe_chain op_le op_le pe_int (pv 0) (pe_glob (v := V.int 200) rfl c_MOST_DAYS ⟨_, rfl⟩)))))), ?_⟩
  walk_at "rd_6"
  refine ⟨v, t, rfl, ty, ?_⟩
  rcases q with ⟨ne, q⟩ | ⟨n, rfl, rfl, q⟩
  · rw [decide_eq_false ne]
    refine ⟨_, rfl, ?_⟩
    refine iteF ?_
    exact q
  · refine ⟨_, rfl, ?_⟩
    rw [decide_eq_true rfl]
    refine iteT ?_
    walk_at "rd_6"
    refine rd_if (fun c => ?_) (fun c => ?_)
    · walk_at "rd_6"
      rw [show decide (n ≤ 200) = decide (0 ≤ n ∧ n ≤ 200) by simp [of_decide_eq_true (decide_eq_true c)]]
      exact q
    · rw [show false = decide (0 ≤ n ∧ n ≤ 200) by rw [decide_eq_false fun z => c z.1]]
      exact q
/-- the same, each tuple laid -/
def TupsAt (J : Hp) (G : Nat) (rs : List V) (us : List Nat) : Prop := rs.length = us.length ∧ ∀ (i : Nat) r, rs[i]? = some r → ∃ (p : Addr) (x y : Int) (u : Nat), r = .ref p ∧ J p = some (.tup [.int x, .int y]) ∧ us[i]? = some u ∧ IsLow (u : Int) (G : Int) x y
theorem TupsAt.mono {H J : Hp} {G : Nat} {rs : List V} {us : List Nat} (m : ∀ p xs, H p = some (.tup xs) → J p = some (.tup xs)) (h : TupsAt H G rs us) : TupsAt J G rs us := ⟨h.1, fun i r hr => by
  obtain ⟨p, x, y, u, e, a, b⟩ := h.2 i r hr
  exact ⟨p, x, y, u, e, m _ _ a, b⟩⟩
theorem TupsAt.snoc {J : Hp} {G : Nat} {rs : List V} {us : List Nat} (h : TupsAt J G rs us) {p : Addr} {x y : Int} {u : Nat} (e : J p = some (.tup [.int x, .int y])) (l : IsLow (u : Int) (G : Int) x y) : TupsAt J G (rs ++ [.ref p]) (us ++ [u]) := by
  refine ⟨by rw [List.length_append, List.length_append, h.1]; rfl, fun i r hr => ?_⟩
  rcases Nat.lt_or_ge i rs.length with c | c
  · rw [List.getElem?_append_left c] at hr
    obtain ⟨p, x, y, u, a, b, d, e⟩ := h.2 i r hr
    exact ⟨p, x, y, u, a, b, by rw [List.getElem?_append_left (by rw [← h.1]; exact c)]; exact d, e⟩
  · have ei : i = rs.length := by
      have := (List.getElem?_eq_some_iff.mp hr).1
      rw [List.length_append, List.length_singleton] at this
      omega
    subst ei
    rw [List.getElem?_append_right (Nat.le_refl _), Nat.sub_self] at hr
    obtain rfl : V.ref p = r := by simpa using hr
    exact ⟨p, x, y, u, rfl, e, by rw [h.1, List.getElem?_append_right (Nat.le_refl _), Nat.sub_self]; rfl, l⟩
def sp_points_up_to (K : PySem.W.Frag) : Sp := fun vs H Q _ => ∃ (l : Addr) (es : List Ent) (last G : Nat), vs = [.ref l, .int (last : Int)] ∧ Led H l es G ∧ last ≤ 200 ∧
  ∀ z rs J, Same H J → H z = none → J z = some (.lst rs) → PlsAt K J G rs ((List.range (last + 1)).map fun d => ptU G (bS G es d)) → TupsAt J G rs ((List.range (last + 1)).map fun d => ptU G (bS G es d)) → Q (.ref z) J
theorem ar_points_up_to (K : PySem.W.Frag) : ∀ vs H Q E, sp_points_up_to K vs H Q E → vs.length = 2 := by
  intro vs H Q E h
  obtain ⟨l, es, last, G, rfl, _⟩ := h
  rfl
abbrev N_points_up_to : List Str := ["entries", "last", "day"]
theorem sc_points_up_to : FnScope N_points_up_to ["entries", "last"] (defScope S_points_up_to) := ⟨rfl, rfl, rfl, by decide +kernel, rfl, by decide +kernel, by decide +kernel⟩
theorem ok_points_up_to {P : Program} {w : World} {K : PySem.W.Frag} {mg : Str → Option Value} {base : Heap} {f : Addr} {fd : FuncData} (F : Fun K "points_up_to" "points_up_to" S_points_up_to f fd) {f_point : Addr} {fd_point : FuncData} (C_point : Cal P w K mg base "point" 6 f_point fd_point ["entries", "day"] (sp_point K)) (m_range : mg "range" = none) :
    FnG P w K mg base CX0 7 f fd ["entries", "last"] (sp_points_up_to K) := by
  refine Fun_okG F sc_points_up_to (ar_points_up_to K) (fun cdv A outer s H vs Q E hg hr h => ?_)
  obtain ⟨l, es, last, G, rfl, L, l200, q⟩ := h
  refine ⟨_, (pss_one (ps_ret (pe_lc (own := [("day", 2)]) rfl sc_points_up_to.nd (pi_range1 rfl m_range (pa_cons (pe_op op_add (pv 1) pe_int) pa_nil)) (blkOk_by (own := [("day", 2)]) (N := N_points_up_to) (sc := defScope S_points_up_to) (by decide +kernel)) (fun _ _ _ _ _ => (pg_name (i := 2) sc_points_up_to.nd rfl (Or.inl rfl))) (fun _ _ _ _ _ => pts_nil) (fun _ _ _ _ _ => (pe_c C_point hg (hr.mono (by decide)) rfl (pa_cons (pv 0) (pa_cons (pv 2) pa_nil))))))), ?_⟩
  have g0 := L.pos
  walk_at "rd_6"
  intro D nD
  rw [show ((last : Int) + 1).toNat = last + 1 by omega]
  refine lc_growR (fun ys J => PlsAt K J G ys ((List.range ys.length).map fun d => ptU G (bS G es d)) ∧ TupsAt J G ys ((List.range ys.length).map fun d => ptU G (bS G es d))) (n := last + 1) (by omega) nD (fun J k => ⟨.nil, rfl, fun i r hr => by cases hr⟩) (fun i ys J hi ly k hD ⟨w, tw⟩ => ?_) fun ys J ly k hD ⟨w, tw⟩ => ?_
  · have sJ : Same H J := fun a o h => k a o (ne_of_none h nD) h
    have i30 : i ≤ 10 ^ 30 := Nat.le_trans (show i ≤ 1000 by omega) (by decide)
    walk_at "rd_6"
    refine ⟨rfl, ?_⟩
    rw [show (0 : Int) + (i : Int) = (i : Int) by omega]
    walk_at "rd_6"
    refine ⟨l, es, i, G, rfl, L.same sJ, i30, fun z m n J4 low s4 n4 e4 => ?_⟩
    obtain ⟨pe, pl⟩ := ptU_eq g0 (bS G es i)
    rw [← pe] at low
    refine lcEnd_mk (s4 _ _ hD) ly (by omega) (k.trans (Kp.of s4)) fun J5 p5 e5 => ?_
    rw [List.length_append, List.length_singleton, List.range_succ, List.map_append, ly]
    rw [ly] at w
    rw [ly] at tw
    exact ⟨(w.mono fun p xs h => sqt_pu p5 (sqt_same s4 h)).snoc (SqT.of (p5.tup e4)) low pl, (tw.mono fun p xs h => p5.tup (s4 _ _ h)).snoc (p5.tup e4) low⟩
  · walk_at "rd_6"
    rw [ly] at w tw
    exact q D ys J (fun a o h => k a o (ne_of_none h nD) h) nD hD w tw
/-! ### in ascending order -/
theorem low_dvd {t u x y : Int} (h : IsLow t u x y) : y ∣ u := by
  obtain ⟨y0, g, e, _⟩ := h
  have h1 : y.natAbs ∣ x.natAbs * u.natAbs := by
    rw [← Int.natAbs_mul, e, Int.natAbs_mul]
    exact Nat.dvd_mul_left _ _
  have g1 : Nat.Coprime y.natAbs x.natAbs := Nat.coprime_comm.mp g
  exact Int.natAbs_dvd_natAbs.mp (g1.dvd_of_dvd_mul_left h1)
theorem keys_put {kvs : List (Key × V)} {k : Key} {v : V} : (putK kvs k v).map (·.1) = if (valV kvs k).isSome = true then kvs.map (·.1) else kvs.map (·.1) ++ [k] := by
  unfold putK
  rw [valV_any]
  split
  · rw [List.map_map]
    refine List.map_congr_left fun kv _ => ?_
    show (if kv.1 = k then (kv.1, v) else kv).1 = kv.1
    split <;> rfl
  · rw [List.map_append]
    rfl
theorem valV_mem {kvs : List (Key × V)} {k : Key} : (valV kvs k).isSome = true ↔ k ∈ kvs.map (·.1) := by
  rw [← valV_any, List.any_eq_true, List.mem_map]
  exact ⟨fun ⟨x, hx, e⟩ => ⟨x, hx, of_decide_eq_true e⟩, fun ⟨x, hx, e⟩ => ⟨x, hx, decide_eq_true e⟩⟩
/-- the steps of the units vs of G, W steps to one -/
structure StepD (K : PySem.W.Frag) (J : Hp) (G W : Nat) (vs : List Nat) (kvs : List (Key × V)) : Prop where
  ks : ∃ ks : List Int, kvs.map (·.1) = ks.map Sum.inl ∧ ks.Nodup ∧ ks.length ≤ vs.length ∧ (∀ k ∈ ks, ∃ u ∈ vs, k * (G : Int) = (u : Int) * (W : Int)) ∧ ∀ u ∈ vs, ∃ k ∈ ks, k * (G : Int) = (u : Int) * (W : Int)
  at_ : ∀ (k : Int) v, valV kvs (.inl k) = some v → ∃ (p : Addr) (x y : Int) (u : Nat), v = .ref p ∧ SqT K J p [.int x, .int y] ∧ IsLow (u : Int) (G : Int) x y ∧ u < G ∧ k * (G : Int) = (u : Int) * (W : Int)
theorem StepD.nil {K : PySem.W.Frag} {J : Hp} {G W : Nat} : StepD K J G W [] [] := ⟨⟨[], rfl, List.nodup_nil, Nat.le_refl _, (fun k h => by cases h), (fun u h => by cases h)⟩, (fun k v h => by cases h)⟩
theorem StepD.mono {K : PySem.W.Frag} {J M : Hp} {G W : Nat} {vs : List Nat} {kvs : List (Key × V)} (m : ∀ p xs, SqT K J p xs → SqT K M p xs) (h : StepD K J G W vs kvs) : StepD K M G W vs kvs := ⟨h.ks, fun k v e => by
  obtain ⟨p, x, y, u, a, b, c⟩ := h.at_ k v e
  exact ⟨p, x, y, u, a, m _ _ b, c⟩⟩
theorem StepD.put {K : PySem.W.Frag} {J : Hp} {G W : Nat} {vs : List Nat} {kvs : List (Key × V)} (g0 : 0 < G) (h : StepD K J G W vs kvs) {p : Addr} {x y k : Int} {u : Nat} (e : SqT K J p [.int x, .int y]) (low : IsLow (u : Int) (G : Int) x y) (lt : u < G) (ek : k * (G : Int) = (u : Int) * (W : Int)) : StepD K J G W (vs ++ [u]) (putK kvs (.inl k) (.ref p)) := by
  obtain ⟨ks, e1, nd, ln, k1, k2⟩ := h.ks
  refine ⟨?_, fun j v hv => ?_⟩
  · by_cases c : k ∈ ks
    · refine ⟨ks, ?_, nd, by rw [List.length_append]; omega, fun j hj => ?_, fun v hv => ?_⟩
      · rw [keys_put, if_pos (valV_mem.mpr (by rw [e1]; exact List.mem_map_of_mem c)), e1]
      · obtain ⟨v, hv, r⟩ := k1 j hj
        exact ⟨v, List.mem_append_left _ hv, r⟩
      · rcases List.mem_append.mp hv with hv | hv
        · exact k2 v hv
        · obtain rfl := List.mem_singleton.mp hv
          exact ⟨k, c, ek⟩
    · refine ⟨ks ++ [k], ?_, ?_, by rw [List.length_append, List.length_append, List.length_singleton, List.length_singleton]; omega, fun j hj => ?_, fun v hv => ?_⟩
      · rw [keys_put, if_neg fun z => c (by
          have := valV_mem.mp z
          rw [e1] at this
          obtain ⟨j, hj, e⟩ := List.mem_map.mp this
          cases e
          exact hj), e1, List.map_append]
        rfl
      · rw [List.nodup_append]
        exact ⟨nd, by simp, fun a ha b hb => by
          obtain rfl := List.mem_singleton.mp hb
          exact fun z => c (z ▸ ha)⟩
      · rcases List.mem_append.mp hj with hj | hj
        · obtain ⟨v, hv, r⟩ := k1 j hj
          exact ⟨v, List.mem_append_left _ hv, r⟩
        · obtain rfl := List.mem_singleton.mp hj
          exact ⟨u, List.mem_append_right _ List.mem_cons_self, ek⟩
      · rcases List.mem_append.mp hv with hv | hv
        · obtain ⟨j, hj, r⟩ := k2 v hv
          exact ⟨j, List.mem_append_left _ hj, r⟩
        · obtain rfl := List.mem_singleton.mp hv
          exact ⟨k, List.mem_append_right _ List.mem_cons_self, ek⟩
  · rw [valV_put] at hv
    by_cases c : (Sum.inl j : Key) = .inl k
    · rw [if_pos c] at hv
      cases c
      cases hv
      exact ⟨p, x, y, u, rfl, e, low, lt, ek⟩
    · rw [if_neg c] at hv
      exact h.at_ j v hv
theorem choose_pt {α β : Type} [Inhabited β] {R : α → β → Prop} : ∀ {xs : List α}, (∀ x ∈ xs, ∃ y, R x y) → ∃ ys : List β, ys.length = xs.length ∧ ∀ (i : Nat) x y, xs[i]? = some x → ys[i]? = some y → R x y
  | [], _ => ⟨[], rfl, fun i x y h => by cases h⟩
  | x :: xs, h => by
    obtain ⟨y, hy⟩ := h x List.mem_cons_self
    obtain ⟨ys, l, r⟩ := choose_pt (xs := xs) fun z hz => h z (List.mem_cons_of_mem _ hz)
    refine ⟨y :: ys, by rw [List.length_cons, List.length_cons, l], fun i a b ha hb => ?_⟩
    cases i with
    | zero =>
      obtain rfl : x = a := by simpa using ha
      obtain rfl : y = b := by simpa using hb
      exact hy
    | succ i => exact r i a b (by simpa using ha) (by simpa using hb)
theorem step_lt76 {G W : Nat} (w0 : 0 < W) (g0 : 0 < G) {k j : Int} {u v : Nat} (e : k * (G : Int) = (u : Int) * (W : Int)) (f : j * (G : Int) = (v : Int) * (W : Int)) (lt : k < j) : u < v := by
  have h1 : k * (G : Int) < j * (G : Int) := Int.mul_lt_mul_of_pos_right lt (by omega)
  rw [e, f] at h1
  have := Int.lt_of_mul_lt_mul_right h1 (by omega)
  omega
theorem step_eq76 {G W : Nat} (w0 : 0 < W) {k : Int} {u v : Nat} (e : k * (G : Int) = (u : Int) * (W : Int)) (f : k * (G : Int) = (v : Int) * (W : Int)) : u = v := by
  have h := e.symm.trans f
  have := Int.eq_of_mul_eq_mul_right (by omega) h
  omega
theorem rd_dget76 {td ty : TE} {σ : L2.St} {H : Hp} {Q : VK} (q : td σ H fun x H1 => ty σ H1 fun y H2 => ∃ a v, x = .ref a ∧ DGet H2 a y (some v) ∧ Q v H2) : tDGet td ty σ H Q := q
theorem sqt_kd76 {K : PySem.W.Frag} {H : Hp} {D p : Addr} {xs : List V} {o : HO} {kvs : List (Key × V)} (h : SqT K H p xs) (hD : H D = some (.dK kvs)) : SqT K (upd H D o) p xs := by
  have c : ∀ {u : HO}, (∀ v, u ≠ .dK v) → H p = some u → upd H D o p = some u := fun n e => by
    rw [upd_ne (fun z => by subst z; exact n _ (Option.some.inj (e.symm.trans hD)))]
    exact e
  rcases h with (h | ⟨ob, h⟩) | h
  · exact .inl (.inl (c (fun v z => by cases z) h))
  · exact .inl (.inr ⟨ob, c (fun v z => by cases z) h⟩)
  · exact .inr h
def sp__ascending (K : PySem.W.Frag) : Sp := fun vs H Q _ => ∃ (a : Addr) (rs : List V) (us : List Nat) (G : Nat), vs = [.ref a] ∧ H a = some (.lst rs) ∧ PlsAt K H G rs us ∧ 0 < G ∧ G < 2 ^ 500 ∧ rs.length ≤ 60 ∧
  ∀ z ws ts J, Same H J → H z = none → J z = some (.lst ws) → PlsAt K J G ws ts → ts.Pairwise (· < ·) → (∀ u, u ∈ ts ↔ u ∈ us) → ws.length ≤ rs.length → Q (.ref z) J
theorem ar__ascending (K : PySem.W.Frag) : ∀ vs H Q E, sp__ascending K vs H Q E → vs.length = 1 := by
  intro vs H Q E h
  obtain ⟨a, rs, us, G, rfl, _⟩ := h
  rfl
abbrev N__ascending : List Str := ["points", "whole", "_", "under", "steps", "top", "step"]
theorem sc__ascending : FnScope N__ascending ["points"] (defScope S__ascending) := ⟨rfl, rfl, rfl, by decide +kernel, rfl, by decide +kernel, by decide +kernel⟩
theorem ok__ascending {P : Program} {w : World} {K : PySem.W.Frag} {mg : Str → Option Value} {base : Heap} {f : Addr} {fd : FuncData} (F : Fun K "_ascending" "_ascending" S__ascending f fd) (c_lcm : mg "lcm" = some (.builtin "math.lcm")) (m_sorted : mg "sorted" = none) :
    FnG P w K mg base CX0 1 f fd ["points"] (sp__ascending K) := by
  refine Fun_okG F sc__ascending (ar__ascending K) (fun cdv A outer s H vs Q E hg hr h => ?_)
  obtain ⟨a, rs, us, G, rfl, ha, P, g0, g5, l60, q⟩ := h
  refine ⟨_, (pss_cons (ps_set (i := 1) sc__ascending.nd rfl (Or.inr rfl) pe_int)
    (pss_cons (ps_for PassesOwn.never rfl (piL (K := K) rfl (pv 0)) (pgT (K := K) rfl rfl (pgs_cons (pg_name (i := 2) sc__ascending.nd rfl (Or.inl rfl)) (pgs_cons (pg_name (i := 3) sc__ascending.nd rfl (Or.inl rfl)) pgs_nil))) (pss_one (ps_set (i := 1) sc__ascending.nd rfl (Or.inr rfl) (pe_callBfun cr_lcm rfl c_lcm (pa_cons (pv 1) (pa_cons (pv 3) pa_nil))))))
    (pss_cons (ps_set (i := 4) sc__ascending.nd rfl (Or.inr rfl) (pe_dc (own := [("top", 5), ("under", 3)]) (g := (gTup K 2 (gCons (gName 5) (gCons (gName 3) gNil)))) rfl sc__ascending.nd (piL (K := K) rfl (pv 0)) (blkOk_by (own := [("top", 5), ("under", 3)]) (N := N__ascending) (sc := defScope S__ascending) (by decide +kernel)) (fun _ _ _ _ _ => (pgT rfl rfl (pgs_cons (pg_name (i := 5) sc__ascending.nd rfl (Or.inl rfl)) (pgs_cons (pg_name (i := 3) sc__ascending.nd rfl (Or.inl rfl)) pgs_nil)))) (fun _ _ _ _ _ => pts_nil) (fun _ _ _ _ _ => (pe_op op_ml (pv 5) (pe_op op_dv (pv 1) (pv 3)))) (fun _ _ _ _ _ => (pe_tup (pa_cons (pv 5) (pa_cons (pv 3) pa_nil))))))
    (pss_one (ps_ret (pe_lc (own := [("step", 6)]) rfl sc__ascending.nd (piL (K := K) rfl (pe_callB (id := "sorted") (sortDI rfl) (by rfl) m_sorted (by decide +kernel) (pa_cons (pv 4) pa_nil))) (blkOk_by (own := [("step", 6)]) (N := N__ascending) (sc := defScope S__ascending) (by decide +kernel)) (fun _ _ _ _ _ => (pg_name (i := 6) sc__ascending.nd rfl (Or.inl rfl))) (fun _ _ _ _ _ => pts_nil) (fun _ _ _ _ _ => (pe_dget (hu_of hr) (pv 4) (pv 6) (fun _ _ => rfl))))))))), ?_⟩
  walk_at "rd_6"
  refine lp_lst (xs := rs) (fun i σ' M => ∃ (W : Nat) (o2 o3 : Option V), σ' = [some (.ref a), some (.int (W : Int)), o2, o3, none, none, none] ∧ M = H ∧ 0 < W ∧ W ∣ G ∧ ∀ u ∈ us.take i, ∀ x y, IsLow (u : Int) (G : Int) x y → y ∣ (W : Int)) ⟨1, none, none, rfl, rfl, by decide, Nat.one_dvd _, fun u h => by cases h⟩ (fun i σ M _ w => ?_) (fun i r σ M hr w => ?_) (fun σ M w => ?_)
  · obtain ⟨W, o2, o3, rfl, rfl, _⟩ := w
    exact SqL.of ha
  · obtain ⟨W, o2, o3, rfl, rfl, w0, wG, wy⟩ := w
    obtain ⟨p, x, y, u, rfl, ep, eu, low, lt⟩ := P.2 i r hr
    have y0 := low.1
    have yG := low_dvd low
    refine rd_gtup ep rfl ?_
    walk_at "rd_6"
    have gb : G < 2 ^ 4000 := Nat.lt_of_lt_of_le g5 (Nat.pow_le_pow_right (by decide) (by decide))
    have yn : y.natAbs ∣ G := by
      have := Int.natAbs_dvd_natAbs.mpr yG
      rwa [Int.natAbs_natCast] at this
    have wl := Nat.le_of_dvd g0 wG
    have yl := Nat.le_of_dvd g0 yn
    refine .inl ⟨_, _, rfl, by rw [Int.natAbs_natCast]; omega, by omega, ?_⟩
    walk_at "rd_6"
    rw [Int.natAbs_natCast]
    refine ⟨Nat.lcm W y.natAbs, _, _, rfl, rfl, Nat.lcm_pos w0 (by omega), Nat.lcm_dvd wG yn, fun v hv x' y' l' => ?_⟩
    have c1 : (W : Int) ∣ ((Nat.lcm W y.natAbs : Nat) : Int) := Int.natCast_dvd_natCast.mpr (Nat.dvd_lcm_left _ _)
    rw [List.take_add_one, eu] at hv
    rcases List.mem_append.mp hv with hv | hv
    · exact Int.dvd_trans (wy v hv x' y' l') c1
    · obtain rfl := List.mem_singleton.mp (show v ∈ [u] from hv)
      obtain ⟨rfl, rfl⟩ := low_uniq low l' (by omega) (by omega) rfl
      rw [show y = (y.natAbs : Int) by omega]
      exact Int.natCast_dvd_natCast.mpr (Nat.dvd_lcm_right _ _)
  · obtain ⟨W, o2, o3, rfl, rfl, w0, wG, wy⟩ := w
    rw [P.1, List.take_length] at wy
    walk_at "rd_6"
    refine rd_dcI ?_
    walk_at "rd_6"
    intro D nD
    have wl := Nat.le_of_dvd g0 wG
    refine dcI_lst (fun i kvs J => StepD K J G W (us.take i) kvs) ha (by omega) nD (fun J k => by rw [List.take_zero]; exact .nil) (fun i r kvs J hr i5 lk k hD w => ?_) fun kvs J lk k hD w => ?_
    · obtain ⟨p, x, y, u, rfl, ep, eu, low, lt⟩ := P.2 i r hr
      have epJ : SqT K J p [.int x, .int y] := sqt_same (fun a o h => k a o (ne_of_none h nD) h) ep
      have y0 := low.1
      have yW := wy u (List.mem_of_getElem? eu) x y low
      refine rd_gtup epJ rfl ?_
      walk_at "rd_6"
      refine ⟨rfl, ?_⟩
      walk_at "rd_6"
      refine rd_I ⟨by omega, ?_⟩ ?_
      · have : y.natAbs ≤ G := by
          have := low.2.2.2.2
          rwa [Int.natAbs_natCast] at this
        exact Nat.lt_of_le_of_lt this (Nat.lt_of_lt_of_le g5 (Nat.pow_le_pow_right (by decide) (by decide)))
      have fd : (W : Int).fdiv y * y = (W : Int) := by
        rw [Int.fdiv_eq_ediv_of_nonneg _ (by omega)]
        exact Int.ediv_mul_cancel yW
      have q0 : 0 ≤ (W : Int).fdiv y := Int.fdiv_nonneg (by omega) (by omega)
      have qW : (W : Int).fdiv y ≤ (W : Int) := by
        rw [Int.fdiv_eq_ediv_of_nonneg _ (by omega)]
        exact Int.ediv_le_self _ (by omega)
      have bq : Bd 500 ((W : Int).fdiv y) := by unfold Bd; omega
      have bx : Bd 500 x := by
        unfold Bd
        have := low.2.2.2.1
        rw [Int.natAbs_natCast] at this
        omega
      refine rd_I (rd_mulB bx bq) ?_
      have ek : x * (W : Int).fdiv y * (G : Int) = (u : Int) * (W : Int) := by
        have e := low.2.2.1
        calc x * (W : Int).fdiv y * (G : Int) = (x * (G : Int)) * (W : Int).fdiv y := by rw [Int.mul_assoc, Int.mul_comm _ (G : Int), ← Int.mul_assoc]
          _ = (u : Int) * y * (W : Int).fdiv y := by rw [e]
          _ = (u : Int) * (W : Int) := by rw [Int.mul_assoc, Int.mul_comm y, fd]
      generalize x * (W : Int).fdiv y = kk at ek
      walk_at "rd_6"
      rename_i t2 J2 n2 s2 e2
      have hD2 := s2 _ _ hD
      have tD : t2 ≠ D := (ne_of_none hD n2).symm
      refine diEnd_mk (k := .inl kk) hD2 lk i5 (k.trans (Kp.of s2)) ?_
      have mv : ∀ p xs, SqT K J2 p xs → SqT K (upd J2 D (.dK (putK kvs (.inl kk) (.ref t2)))) p xs := fun p xs h => sqt_kd76 h hD2
      rw [List.take_add_one, eu]
      exact ((w.mono fun p xs h => mv _ _ (sqt_same s2 h)).put g0 (mv _ _ (SqT.of e2)) low lt ek)
    · rw [P.1, List.take_length] at w
      obtain ⟨ks, e1, nd, ln, k1, k2⟩ := w.ks
      have sJ : Same M J := fun a o h => k a o (ne_of_none h nD) h
      have lu := P.1
      walk_at "rd_6"
      refine rd_sortDI hD e1 (by omega) fun ys z1 J1 pm pw n1 s1 h1 => ?_
      have hD1 := s1 _ _ hD
      have w1 : StepD K J1 G W us kvs := w.mono fun p xs h => sqt_same s1 h
      have lys := pm.length_eq
      obtain ⟨ts, lts, rts⟩ := choose_pt (R := fun (k : Int) (u : Nat) => u ∈ us ∧ k * (G : Int) = (u : Int) * (W : Int)) fun k hk => k1 k (pm.mem_iff.mp hk)
      walk_at "rd_6"
      intro D2 nD2
      refine lc_growL (fun qs J => PlsAt K J G qs (ts.take qs.length)) h1 (by rw [List.length_map]; omega) nD2 (fun J k => .nil) (fun i v qs J2 hv i5 lq k2_ hq w2 => ?_) fun qs J2 lq k2_ hq w2 => ?_
      · rw [List.getElem?_map] at hv
        obtain ⟨kk, ekk, rfl⟩ := Option.map_eq_some_iff.mp hv
        have hkk := pm.mem_iff.mp (List.mem_of_getElem? ekk)
        have iy : i < ys.length := (List.getElem?_eq_some_iff.mp ekk).1
        obtain ⟨u', eu'⟩ : ∃ u', ts[i]? = some u' := ⟨_, List.getElem?_eq_getElem (by omega)⟩
        obtain ⟨_, ru⟩ := rts i kk u' ekk eu'
        obtain ⟨v0, hv0⟩ : ∃ v0, valV kvs (.inl kk) = some v0 := Option.isSome_iff_exists.mp (valV_mem.mpr (by rw [e1]; exact List.mem_map_of_mem hkk))
        obtain ⟨p, x, y, u, rfl, ep, low, lt, ek⟩ := w1.at_ kk v0 hv0
        obtain rfl : u = u' := step_eq76 w0 ek ru
        have s2 : Same J1 J2 := fun a o h => k2_ a o (ne_of_none h nD2) h
        walk_at "rd_6"
        refine ⟨rfl, ?_⟩
        walk_at "rd_6"
        refine rd_dget76 ?_
        walk_at "rd_6"
        refine ⟨D, .ref p, rfl, (by rw [← hv0]; exact DGet.k (k := Sum.inl kk) (s2 _ _ hD1)), ?_⟩
        refine lcEnd_mk hq lq i5 k2_ fun J3 p3 e3 => ?_
        rw [List.length_append, List.length_singleton, lq, List.take_add_one, eu']
        rw [lq] at w2
        exact (w2.mono fun p xs h => sqt_pu p3 h).snoc (sqt_pu p3 (sqt_same s2 ep)) low lt
      · rw [List.length_map] at lq
        rw [lq, ← lts, List.take_length] at w2
        have s2 : Same J1 J2 := fun a o h => k2_ a o (ne_of_none h nD2) h
        have sHJ := Same.trans sJ (Same.trans s1 s2)
        have asc : ys.Pairwise (· < ·) := ((pw.and (pm.nodup_iff.mpr nd)).imp fun h => by omega)
        walk_at "rd_6"
        refine q D2 qs ts J2 sHJ (Same.free (Same.trans sJ s1) nD2) hq w2 ?_ (fun u => ?_) (by omega)
        · rw [List.pairwise_iff_getElem]
          intro i j hi hj ij
          have a1 : ys[i]? = some (ys[i]'(by omega)) := List.getElem?_eq_getElem (by omega)
          have a2 : ys[j]? = some (ys[j]'(by omega)) := List.getElem?_eq_getElem (by omega)
          exact step_lt76 w0 g0 (rts i _ _ a1 (List.getElem?_eq_getElem hi)).2 (rts j _ _ a2 (List.getElem?_eq_getElem hj)).2 (List.pairwise_iff_getElem.mp asc i j (by omega) (by omega) ij)
        · constructor
          · intro h
            obtain ⟨i, hi, rfl⟩ := List.mem_iff_getElem.mp h
            exact (rts i _ _ (List.getElem?_eq_getElem (by omega)) (List.getElem?_eq_getElem hi)).1
          · intro h
            obtain ⟨kk, hk, ek⟩ := k2 u h
            obtain ⟨i, hi, ei⟩ := List.mem_iff_getElem.mp (pm.mem_iff.mpr hk)
            have a1 : ys[i]? = some kk := by rw [List.getElem?_eq_getElem hi, ei]
            have a2 : ts[i]? = some (ts[i]'(by omega)) := List.getElem?_eq_getElem (by omega)
            have := (rts i _ _ a1 a2).2
            rw [step_eq76 w0 ek this]
            exact List.getElem_mem _

def tTr (K : PySem.W.Frag) (ta : TE) : TT := fun σ H Q => ta σ H fun x H' => ∃ k, TruV K x H' k ∧ Q k H'
theorem pt_tr {X : Cx} {K : PySem.W.Frag} {a : Expr} {ta : TE} (h : X.K = K) (ha : PE X a ta) (he : ∀ whole, isTrue a X.env whole = (do let v ← whole; standAt a.pos; holding [v] (truthy v)) := by intro _; rfl) : PT X a (tTr K ta) := h ▸ pt_truth ha he
theorem rd_tr {K : PySem.W.Frag} {ta : TE} {σ : L2.St} {H : Hp} {Q : Bool → Hp → Prop} (q : ta σ H fun x H' => ∃ k, TruV K x H' k ∧ Q k H') : tTr K ta σ H Q := q
theorem tru_lst {K : PySem.W.Frag} {H : Hp} {a : Addr} {xs : List V} {F : Bool → Prop} (h : SqL K H a xs) (q : F (!xs.isEmpty)) : ∃ k, TruV K (.ref a) H k ∧ F k := ⟨_, .inl ⟨xs, h, rfl⟩, q⟩

def ZEnd (D : Addr) (H : Hp) (P : Nat → List V → Hp → Prop) (i : Nat) (J : Hp) : Prop := ∃ zs, zs.length ≤ i ∧ Kp D H J ∧ J D = some (.lst zs) ∧ P i zs J
theorem lc_zipF {K : PySem.W.Frag} {H : Hp} {σ : L2.St} {a b D : Addr} {xs ys : List V} {g : TG} {tt : TT} {te : TE} {vs : List Nat} (P : Nat → List V → Hp → Prop) {Qd : Hp → Prop} (ha : H a = some (.lst xs)) (hb : H b = some (.lst ys)) (hxy : xs.length = ys.length) (hl : xs.length ≤ 500) (hD : H D = none) (h0 : ∀ J, Kp D H J → P 0 [] J)
    (hP : ∀ i zs J J', Same J J' → P i zs J → P i zs J')
    (he : ∀ (i : Nat) x y zs J T, xs[i]? = some x → ys[i]? = some y → i ≤ 500 → zs.length ≤ i → Kp D H J → J D = some (.lst zs) → P i zs J → J T = some (.tup [x, y]) → g (.ref T) (wipe σ vs) J fun σ2 J2 => wipe σ2 vs = wipe σ vs ∧ tt σ2 J2 fun b J3 => if b = true then te σ2 J3 fun y J4 => ∃ acc, J4 D = some (.lst acc) ∧ acc.length < sizeLine ∧ ZEnd D H P (i + 1) (upd J4 D (.lst (acc ++ [y]))) else ZEnd D H P (i + 1) J3)
    (hd : ∀ zs J, zs.length ≤ xs.length → Kp D H J → J D = some (.lst zs) → P xs.length zs J → Qd J) : Lc (Itz K a b) g tt te vs σ Qd H D := by
  have na : a ≠ D := ne_of_none ha hD
  have nb : b ≠ D := ne_of_none hb hD
  refine ⟨fun i m J => m = xs.length - i ∧ i ≤ xs.length ∧ ZEnd D H P i J, ⟨_, rfl, Nat.zero_le _, [], Nat.le_refl _, Kp.new hD, upd_same, h0 _ (Kp.new hD)⟩, ?_⟩
  rintro i m J ⟨rfl, le, zs, e, k, hJ, p⟩
  have qa : SqL K J a xs := SqL.of (k a _ na ha)
  have qb : SqL K J b ys := SqL.of (k b _ nb hb)
  by_cases lt : i < xs.length
  · have hx : xs[i]? = some xs[i] := List.getElem?_eq_getElem lt
    have hy : ys[i]? = some ys[i] := List.getElem?_eq_getElem (by omega)
    refine .inr ⟨⟨xs, ys, _, _, qa, qb, hx, hy⟩, ZEnd D H P (i + 1), fun J' w => ⟨xs.length - (i + 1), by omega, rfl, by omega, w⟩, fun v J' y => ?_⟩
    obtain ⟨T, x', y', rfl, nT, rfl, fx, fy⟩ := y
    have kT : Kp D H (upd J T (.tup [x', y'])) := k.trans (Kp.new nT)
    exact he i x' y' zs _ T (fx xs qa) (fy ys qb) (by omega) e kT (new_any nT hJ) (hP _ _ _ _ (same_new nT) p) upd_same
  · have ei : i = xs.length := by omega
    subst ei
    exact .inl ⟨⟨xs, ys, qa, qb, by omega⟩, hd zs J e k hJ p⟩
theorem zEnd_mk {D : Addr} {H J : Hp} {P : Nat → List V → Hp → Prop} {i : Nat} {y : V} {ys : List V} (h : J D = some (.lst ys)) (hl : ys.length ≤ i) (hz : i ≤ 500) (k : Kp D H J) (q : ∀ J4, Pu D J J4 → J4 D = some (.lst (ys ++ [y])) → P (i + 1) (ys ++ [y]) J4) : ∃ acc, J D = some (.lst acc) ∧ acc.length < sizeLine ∧ ZEnd D H P (i + 1) (upd J D (.lst (acc ++ [y]))) :=
  ⟨ys, h, small1000 (by omega), ys ++ [y], by rw [List.length_append, List.length_singleton]; omega, k.trans Kp.at, upd_same, q _ ⟨Kp.at, ⟨_, h⟩, ⟨_, upd_same⟩⟩ upd_same⟩
/-! ### the cells in which there are cuts -/
def cellB (G : Nat) (f : Nat → Bool) (us : List Nat) (u : Nat) : Bool := (List.range G).any fun v => decide (u ≤ v) && (f v && us.all fun w => decide (w ≤ v → w ≤ u))
theorem cellB_iff {G : Nat} {f : Nat → Bool} {us : List Nat} {u : Nat} : cellB G f us u = true ↔ ∃ v, v < G ∧ u ≤ v ∧ f v = true ∧ ∀ w ∈ us, w ≤ v → w ≤ u := by
  unfold cellB
  rw [List.any_eq_true]
  constructor
  · rintro ⟨v, hv, h⟩
    rw [Bool.and_eq_true, Bool.and_eq_true, List.all_eq_true] at h
    exact ⟨v, List.mem_range.mp hv, of_decide_eq_true h.1, h.2.1, fun w hw => of_decide_eq_true (h.2.2 w hw)⟩
  · rintro ⟨v, hv, h1, h2, h3⟩
    refine ⟨v, List.mem_range.mpr hv, ?_⟩
    rw [Bool.and_eq_true, Bool.and_eq_true, List.all_eq_true]
    exact ⟨decide_eq_true h1, h2, fun w hw => decide_eq_true (h3 w hw)⟩
theorem ra_low76 {K : PySem.W.Frag} {H : Hp} {p : Addr} {a G : Nat} {x y : Int} (low : IsLow (a : Int) (G : Int) x y) (ha : a ≤ G) (g5 : G < 2 ^ 500) (h : SqT K H p [.int x, .int y]) : Ra K H p x y := by
  have bx : Bd 500 x := Nat.lt_of_le_of_lt low.2.2.2.1 (by omega)
  have bu : Bd 500 y := Nat.lt_of_le_of_lt low.2.2.2.2 (by omega)
  exact ⟨h, low.1, low.2.1, bx.mono (by decide), bu.mono (by decide)⟩
def sp_cells (K : PySem.W.Frag) : Sp := fun vs H Q _ => ∃ (a c : Addr) (rs qs : List V) (us : List Nat) (zs : List Sn) (G : Nat) (f : Nat → Bool), vs = [.ref a, .ref c] ∧ H a = some (.lst rs) ∧ PlsAt K H G rs us ∧ H c = some (.lst qs) ∧ SnsAt K H qs zs ∧ Frm G f zs ∧ 0 < G ∧ G < 2 ^ 500 ∧ rs.length ≤ 60 ∧ qs.length ≤ 60 ∧ 0 ∈ us ∧
  ∀ (z : Addr) (ws : List V) (ts0 : List Nat) (J : Hp), Same H J → H z = none → J z = some (.lst ws) → ts0.Pairwise (· < ·) → (∀ u, u ∈ ts0 ↔ u ∈ us) → PlsAt K J G ws (ts0.filter (cellB G f us)) → ws.length ≤ rs.length → Q (.ref z) J
theorem ar_cells (K : PySem.W.Frag) : ∀ vs H Q E, sp_cells K vs H Q E → vs.length = 2 := by
  intro vs H Q E h
  obtain ⟨a, c, rs, qs, us, zs, G, f, rfl, _⟩ := h
  rfl
abbrev N_cells : List Str := ["points", "cuts", "lows", "highs", "low", "high"]
theorem sc_cells : FnScope N_cells ["points", "cuts"] (defScope S_cells) := ⟨rfl, rfl, rfl, by decide +kernel, rfl, by decide +kernel, by decide +kernel⟩
theorem ok_cells {P : Program} {w : World} {K : PySem.W.Frag} {mg : Str → Option Value} {base : Heap} {f : Addr} {fd : FuncData} (F : Fun K "cells" "cells" S_cells f fd) {f_both : Addr} {fd_both : FuncData} (C_both : Cal P w K mg base "both" 2 f_both fd_both ["one", "other"] (sp_both K)) {f__ascending : Addr} {fd__ascending : FuncData} (C__ascending : Cal P w K mg base "_ascending" 1 f__ascending fd__ascending ["points"] (sp__ascending K)) {z_ONE : Addr} (c_ONE : TupC K mg "ONE" z_ONE [V.int 1, V.int 1]) (m_zip : mg "zip" = none) :
    FnG P w K mg base CX0 3 f fd ["points", "cuts"] (sp_cells K) := by
  refine Fun_okG F sc_cells (ar_cells K) (fun cdv A outer s H vs Q E hg hr h => ?_)
  obtain ⟨a, c, rs, qs, us, zs, G, f, rfl, ha, P, hc, S, F, g0, g5, l60, lq, z0, q⟩ := h
  refine ⟨_, (pss_cons (ps_set (i := 2) sc_cells.nd rfl (Or.inl rfl) (pe_c C__ascending hg (hr.mono (by decide)) rfl (pa_cons (pv 0) pa_nil)))
    (pss_cons (ps_set (i := 3) sc_cells.nd rfl (Or.inl rfl) (pe_op op_cat (pe_slice (slK (K := K) rfl) (pv 2) (po_some pe_int) po_none) (pe_lst (pa_cons (pe_glob (v := V.ref z_ONE) (u := Value.ref z_ONE) rfl c_ONE.m rfl) pa_nil))))
    (pss_one (ps_ret (pe_lc (own := [("low", 4), ("high", 5)]) (g := (gTup K 2 (gCons (gName 4) (gCons (gName 5) gNil)))) rfl sc_cells.nd (piZ (K := K) rfl (by rfl) m_zip (pa_cons (pv 2) (pa_cons (pv 3) pa_nil))) (blkOk_by (own := [("low", 4), ("high", 5)]) (N := N_cells) (sc := defScope S_cells) (by decide +kernel)) (fun _ _ _ _ _ => (pgT rfl rfl (pgs_cons (pg_name (i := 4) sc_cells.nd rfl (Or.inl rfl)) (pgs_cons (pg_name (i := 5) sc_cells.nd rfl (Or.inl rfl)) pgs_nil)))) (fun _ _ _ _ _ => (pts_one (pt_tr (K := K) rfl (pe_c C_both hg (hr.mono (by decide)) rfl (pa_cons (pe_lst (pa_cons (pe_tup (pa_cons (pv 4) (pa_cons (pv 5) pa_nil))) pa_nil)) (pa_cons (pv 1) pa_nil)))))) (fun _ _ _ _ _ => (pv 4))))))), ?_⟩
  walk_at "rd_6"
  refine ⟨a, rs, us, G, rfl, ha, P, g0, g5, l60, fun z1 ws ts0 J1 s1 n1 e1 P1 asc mem lw => ?_⟩
  walk_at "rd_6"
  rename_i z2 J2 n2 s2 e2 z3 J3 n3 s3 e3
  rw [cut_tail] at e2
  have lw0 := P1.1
  refine rd_catK (s3 _ _ e2) e3 (by rw [List.length_tail, List.length_singleton]; omega) fun z4 J4 n4 s4 e4 => ?_
  have s14 := Same.trans s2 (Same.trans s3 s4)
  have sH4 := Same.trans s1 s14
  have e1 := s14 _ _ e1
  have P4 := P1.same s14
  have hc4 := sH4 _ _ hc
  have S4 := S.mono (J := J4) fun p xs h => sqt_same sH4 h
  have ne : ts0 ≠ [] := List.ne_nil_of_mem ((mem 0).mpr z0)
  have n0 : 0 < ts0.length := List.length_pos_iff.mpr ne
  have lz : ws.length = (ws.tail ++ [V.ref z_ONE]).length := by rw [List.length_append, List.length_tail, List.length_singleton]; omega
  have one : IsLow ((G : Nat) : Int) (G : Int) 1 1 := ⟨by decide, by decide, by omega, by omega, by omega⟩
  have high : ∀ (i : Nat) (y : V) (a : Nat), ts0[i]? = some a → (ws.tail ++ [V.ref z_ONE])[i]? = some y → ∃ (q' : Addr) (xb yb : Int) (b : Nat), y = .ref q' ∧ SqT K J4 q' [.int xb, .int yb] ∧ IsLow (b : Int) (G : Int) xb yb ∧ b ≤ G ∧ a < b ∧ (∀ w ∈ ts0, ¬ (a < w ∧ w < b)) ∧ (b = G ∨ b ∈ ts0) := fun i y a ea ey => by
    have il : i < ts0.length := (List.getElem?_eq_some_iff.mp ea).1
    have pa := List.pairwise_iff_getElem.mp asc
    have ga : ts0[i]'il = a := (List.getElem?_eq_some_iff.mp ea).2
    by_cases c : i + 1 < ts0.length
    · rw [List.getElem?_append_left (by rw [List.length_tail]; omega), List.getElem?_tail] at ey
      obtain ⟨q', xb, yb, b, rfl, sq, eb, lb, bl⟩ := P4.2 (i + 1) y ey
      have gb : ts0[i + 1]'c = b := (List.getElem?_eq_some_iff.mp eb).2
      refine ⟨q', xb, yb, b, rfl, sq, lb, by omega, by rw [← ga, ← gb]; exact pa i (i + 1) il c (by omega), fun w hw z => ?_, .inr (List.mem_of_getElem? eb)⟩
      obtain ⟨j, hj, ej⟩ := List.mem_iff_getElem.mp hw
      rcases Nat.lt_trichotomy j i with h | h | h
      · have := pa j i hj il h
        omega
      · subst h
        omega
      · rcases Nat.lt_or_eq_of_le (show i + 1 ≤ j by omega) with h2 | h2
        · have := pa (i + 1) j c hj h2
          omega
        · subst h2
          omega
    · rw [List.getElem?_append_right (by rw [List.length_tail]; omega), List.length_tail, show i - (ws.length - 1) = 0 by omega] at ey
      obtain rfl : V.ref z_ONE = y := by simpa using ey
      have lt : a < G := by
        obtain ⟨_, _, _, a', _, _, ea', _, lt⟩ := P4.2 i (ws[i]'(by omega)) (List.getElem?_eq_getElem (by omega))
        rw [ea] at ea'
        cases ea'
        exact lt
      refine ⟨z_ONE, 1, 1, G, rfl, c_ONE.sq J4, one, Nat.le_refl _, lt, fun w hw z => ?_, .inl rfl⟩
      obtain ⟨j, hj, ej⟩ := List.mem_iff_getElem.mp hw
      rcases Nat.lt_or_ge j i with h | h
      · have := pa j i hj il h
        omega
      · have : j = i := by omega
        subst this
        omega
  clear s1 s2 s3 s4 n1 n2 n3 n4 s14 e2 e3 P1 S hc ha P
  walk_at "rd_6"
  intro D nD
  refine lc_zipF (fun i zs J => PlsAt K J G zs ((ts0.take i).filter (cellB G f us))) e1 e4 lz (by omega) nD (fun J k => by rw [List.take_zero]; exact .nil) (fun i zs J J' s p => p.same s) (fun i x y qs' J T hx hy i5 lzs k hD hP hT => ?_) fun qs' J lzs k hD hP => ?_
  · have sJ : Same J4 J := fun a o h => k a o (ne_of_none h nD) h
    obtain ⟨p, xa, ya, a', rfl, sq, ea, la, al⟩ := P4.2 i x hx
    obtain ⟨q', xb, yb, b, rfl, sq2, lb, bl, ab, gap, bm⟩ := high i y a' ea hy
    have tk : (ts0.take (i + 1)).filter (cellB G f us) = (ts0.take i).filter (cellB G f us) ++ if cellB G f us a' = true then [a'] else [] := by
      rw [List.take_add_one, ea, List.filter_append]
      cases c : cellB G f us a' <;> simp [c]
    refine rd_gtup (SqT.of hT) rfl ?_
    walk_at "rd_6"
    refine ⟨rfl, ?_⟩
    walk_at "rd_6"
    refine rd_tr ?_
    walk_at "rd_6"
    rename_i t5 J5 n5 s5 e5 t6 J6 n6 s6 e6
    have sJ6 := Same.trans sJ (Same.trans s5 s6)
    refine ⟨t6, c, _, qs, [⟨xa, ya, xb, yb⟩], zs, rfl, e6, sJ6 _ _ hc4, .cons ⟨t5, p, q', rfl, SqT.of (s6 _ _ e5), ra_low76 la (by omega) g5 (sqt_same sJ6 sq), ra_low76 lb bl g5 (sqt_same sJ6 sq2)⟩ .nil, S4.mono (fun p xs h => sqt_same sJ6 h), by simp, by omega, fun w J7 ws7 n7 s7 e7 S7 l7 => ?_⟩
    have F1 : Frm G (inB [(a', b)]) [⟨xa, ya, xb, yb⟩] := frm_of g0 (.cons (Nat.zero_le _) ab .nil) (fun x hx => by obtain rfl := List.mem_singleton.mp hx; exact bl) (.cons la lb .nil)
    have F2 := F1.both F
    have em : (!ws7.isEmpty) = cellB G f us a' := by
      rw [Bool.eq_iff_iff, cellB_iff]
      have inb : ∀ v, inB [(a', b)] v = (decide (a' ≤ v) && decide (v < b)) := fun v => by simp [inB]
      constructor
      · intro h
        refine Classical.byContradiction fun no => ?_
        have : bothS [⟨xa, ya, xb, yb⟩] zs = [] := F2.empty.mpr fun v hv => by
          cases c : (inB [(a', b)] v && f v) with
          | false => rfl
          | true =>
            rw [Bool.and_eq_true, inb, Bool.and_eq_true] at c
            exact absurd ⟨v, hv, of_decide_eq_true c.1.1, c.2, fun w hw wv => Nat.le_of_not_lt fun z => gap w ((mem w).mpr hw) ⟨z, Nat.lt_of_le_of_lt wv (of_decide_eq_true c.1.2)⟩⟩ no
        rw [this] at S7
        cases S7
        cases h
      · rintro ⟨v, hv, h1, h2, h3⟩
        cases hw : ws7 with
        | cons x t => rfl
        | nil =>
          rw [hw] at S7
          have e0 : bothS [⟨xa, ya, xb, yb⟩] zs = [] := by
            generalize bothS [⟨xa, ya, xb, yb⟩] zs = tt at S7
            cases S7
            rfl
          have := F2.empty.mp e0 v hv
          have vb : v < b := by
            rcases bm with rfl | bm
            · exact hv
            · exact Nat.lt_of_not_le fun z => by
                have := h3 b ((mem b).mp bm) z
                omega
          rw [inb, decide_eq_true h1, decide_eq_true vb, h2] at this
          cases this
    refine tru_lst (SqL.of e7) ?_
    rw [em]
    have s57 := Same.trans s5 (Same.trans s6 s7)
    have hD7 := s57 _ _ hD
    have k7 := k.trans (Kp.of s57)
    cases c : cellB G f us a' with
    | true =>
      rw [c, if_pos rfl] at tk
      rw [if_pos rfl]
      walk_at "rd_6"
      refine zEnd_mk hD7 lzs i5 k7 fun J8 p8 e8 => ?_
      rw [tk]
      exact (hP.mono fun p xs h => sqt_pu p8 (sqt_same s57 h)).snoc (sqt_pu p8 (sqt_same s57 (sqt_same sJ sq))) la al
    | false =>
      rw [c, if_neg Bool.false_ne_true, List.append_nil] at tk
      rw [if_neg Bool.false_ne_true]
      exact ⟨qs', by omega, k7, hD7, by
        show PlsAt K J7 G qs' ((ts0.take (i + 1)).filter (cellB G f us))
        rw [tk]
        exact hP.same s57⟩
  · have sJ : Same J4 J := fun a o h => k a o (ne_of_none h nD) h
    rw [lw0, List.take_length] at hP
    walk_at "rd_6"
    exact q D qs' ts0 J (Same.trans sH4 sJ) (Same.free sH4 nD) hD asc mem hP (by omega)

/-! ### an own class of errors without __init__: made with a text, raised, caught -/
structure ExcN (K : PySem.W.Frag) (mg : Str → Option Value) (x : Str) (C : Addr) : Prop where
  q : PySem.W.excIn K C [.type "RuntimeError", .type "Exception", .type "BaseException", .type "object"] "RuntimeError.__new__" = true
  gC : mg x = some (.ref C)
  kC : PySem.W.keepIn K (.ref C) = true
  b : PySem.W.subIn K (.ref C) (.type "BaseException") = some true
  t : PySem.W.typeIn K (.ref C) = some (.type "type")
  at_ : PySem.W.nsIn K mainGlobals x = some (some (.ref C))
theorem ps_rn {X : Cx} {W : WX} {C : Addr} {x m : Str} {j : Nat} {p p2 pos pos2 : PySem.Pos} (hc : X.calm = true) (tk : Takes X W) (R : ExcN X.K X.mg x C) (gl : Gl X x) (hdb : (x == ("__debug__" : Str)) = false := by decide) :
    PS X (.Raise (some (.Call (.Name x p) [.Constant (.str m) j p2] [] pos)) none pos2) (fun _ σ H => W (.ref C) none σ H) := ps_raise hc tk (pmk_own PySem.F.excBase_RuntimeError R.q R.gC R.kC (raises_own R.b R.t) gl hdb)

/-! ### own classes of errors without __init__ over CutError: made with a text, raised, caught -/
structure ExcV (K : PySem.W.Frag) (mg : Str → Option Value) (x : Str) (C : Addr) : Prop where
  q : PySem.W.excIn K C [.type "ValueError", .type "Exception", .type "BaseException", .type "object"] "ValueError.__new__" = true
  gC : mg x = some (.ref C)
  kC : PySem.W.keepIn K (.ref C) = true
  b : PySem.W.subIn K (.ref C) (.type "BaseException") = some true
  t : PySem.W.typeIn K (.ref C) = some (.type "type")
  at_ : PySem.W.nsIn K mainGlobals x = some (some (.ref C))
theorem ps_rv {X : Cx} {W : WX} {C : Addr} {x m : Str} {j : Nat} {p p2 pos pos2 : PySem.Pos} (hc : X.calm = true) (tk : Takes X W) (R : ExcV X.K X.mg x C) (gl : Gl X x) (hdb : (x == ("__debug__" : Str)) = false := by decide) :
    PS X (.Raise (some (.Call (.Name x p) [.Constant (.str m) j p2] [] pos)) none pos2) (fun _ σ H => W (.ref C) none σ H) := ps_raise hc tk (pmk_own PySem.F.excBase_ValueError R.q R.gC R.kC (raises_own R.b R.t) gl hdb)

def sp__some_left (K : PySem.W.Frag) : Sp := fun vs H Q E => ∃ (p d : Addr) (its : List (Nat × Itm)) (nx G : Nat), vs = [.ref p] ∧ LgAt K H p d its nx ∧ 0 < G ∧ G < 2 ^ 500 ∧ (∀ e ∈ entsOf (its.map (·.2)), Fits G e.am) ∧ (entsOf (its.map (·.2))).length ≤ 10 ∧ (stmsOf (its.map (·.2))).length ≤ 24 ∧
  ((∃ u, u < G ∧ okU G (entsOf (its.map (·.2))) (stmsOf (its.map (·.2))) u = true) → ∀ rs zs z J, Same H J → H z = none → J z = some (.lst rs) → SnsAt K J rs zs → Frm G (okU G (entsOf (its.map (·.2))) (stmsOf (its.map (·.2)))) zs → rs.length ≤ 60 → Q (.ref z) J) ∧
  ((∀ u, u < G → okU G (entsOf (its.map (·.2))) (stmsOf (its.map (·.2))) u = false) → ∀ J C, Same H J → PySem.W.nsIn K mainGlobals "NothingLeft" = some (some (.ref C)) → E (.ref C) none J)
theorem ar__some_left (K : PySem.W.Frag) : ∀ vs H Q E, sp__some_left K vs H Q E → vs.length = 1 := by
  intro vs H Q E h
  obtain ⟨p, d, its, nx, G, rfl, _⟩ := h
  rfl
abbrev N__some_left : List Str := ["ledger", "cuts"]
theorem sc__some_left : FnScope N__some_left ["ledger"] (defScope S__some_left) := ⟨rfl, rfl, rfl, by decide +kernel, rfl, by decide +kernel, by decide +kernel⟩
theorem ok__some_left {P : Program} {w : World} {K : PySem.W.Frag} {mg : Str → Option Value} {base : Heap} {f : Addr} {fd : FuncData} (F : Fun K "_some_left" "_some_left" S__some_left f fd) {f_left : Addr} {fd_left : FuncData} (C_left : Cal P w K mg base "left" 11 f_left fd_left ["ledger"] (sp_left K)) {X_NothingLeft : Addr} (R_NothingLeft : ExcN K mg "NothingLeft" X_NothingLeft) :
    FnG P w K mg base (L2.CX P w) 12 f fd ["ledger"] (sp__some_left K) := by
  refine Fun_okGX F sc__some_left (ar__some_left K) (fun cdv A outer s H vs Q E hg hr h => ?_)
  obtain ⟨p, d, its, nx, G, rfl, L, g0, g1, fit, l10, l24, q, qe⟩ := h
  refine ⟨_, (pss_cons (ps_set (i := 1) sc__some_left.nd rfl (Or.inl rfl) (pe_c C_left hg (hr.mono (by decide)) rfl (pa_cons (pv 0) pa_nil)))
    (pss_cons (ps_if (pt_not (pt_tr (K := K) rfl (pv 1))) (pss_one (ps_rn rfl (takes_of rfl rfl rfl rfl) R_NothingLeft rfl)) pss_nil)
    (pss_one (ps_ret (pv 1))))), ?_⟩
  walk_at "rd_6"
  refine ⟨p, d, its, nx, G, rfl, L, g0, g1, fit, l10, l24, fun rs zs z J s nz ez sn fr ll => ?_⟩
  walk_at "rd_6"
  refine rd_tr ?_
  walk_at "rd_6"
  refine tru_lst (SqL.of ez) ?_
  by_cases some_ : ∃ u, u < G ∧ okU G (entsOf (its.map (·.2))) (stmsOf (its.map (·.2))) u = true
  · have ne : rs ≠ [] := fun c => by
      subst c
      cases sn
      obtain ⟨u, hu, ou⟩ := some_
      rw [fr.empty.mp rfl u hu] at ou
      cases ou
    have e : (!rs.isEmpty) = true := by
      cases rs with
      | nil => exact absurd rfl ne
      | cons _ _ => rfl
    rw [e]
    refine iteF ?_
    walk_at "rd_6"
    exact q some_ rs zs z J s nz ez sn fr ll
  · have no : ∀ u, u < G → okU G (entsOf (its.map (·.2))) (stmsOf (its.map (·.2))) u = false := fun u hu => by
      cases o : okU G (entsOf (its.map (·.2))) (stmsOf (its.map (·.2))) u with
      | false => rfl
      | true => exact absurd ⟨u, hu, o⟩ some_
    have ez0 := fr.empty.mpr no
    subst ez0
    cases sn
    refine iteT ?_
    walk_at "rd_6"
    exact qe no J _ s R_NothingLeft.at_

/-! ### question trees -/
inductive Tr where
  | sure
  | ask (d n : Nat) (a b : Tr)
inductive TrAt (J : Hp) : V → Tr → Prop
  | sure {p : Addr} (h : J p = some (.tup [.str "sure"])) : TrAt J (.ref p) .sure
  | ask {p : Addr} {d n : Nat} {x y : V} {a b : Tr} (h : J p = some (.tup [.str "ask", .int (d : Int), .int (n : Int), x, y])) (ha : TrAt J x a) (hb : TrAt J y b) : TrAt J (.ref p) (.ask d n a b)
theorem TrAt.mono {H J : Hp} (m : ∀ p xs, H p = some (.tup xs) → J p = some (.tup xs)) : ∀ {v : V} {t : Tr}, TrAt H v t → TrAt J v t
  | _, _, .sure h => .sure (m _ _ h)
  | _, _, .ask h a b => .ask (m _ _ h) (a.mono m) (b.mono m)
theorem TrAt.same {H J : Hp} (s : Same H J) {v : V} {t : Tr} (h : TrAt H v t) : TrAt J v t := h.mono fun _ _ e => s _ _ e
/-- the tree of these units, dof telling a day of each -/
def treeN (dof : Nat → Nat) : Nat → List Nat → Tr
  | 0, _ => .sure
  | n + 1, us => if us.length ≤ 1 then .sure else
    if dof (us.getD 0 0) < dof (us.getD (us.length / 2) 0) then .ask (dof (us.getD 0 0)) (dof (us.getD (us.length / 2) 0) - dof (us.getD 0 0)) (treeN dof n (us.take (us.length / 2))) (treeN dof n (us.drop (us.length / 2)))
    else .ask (dof (us.getD (us.length / 2) 0)) (dof (us.getD 0 0) - dof (us.getD (us.length / 2) 0)) (treeN dof n (us.drop (us.length / 2))) (treeN dof n (us.take (us.length / 2)))
theorem PlsAt.take {K : PySem.W.Frag} {H : Hp} {G : Nat} {rs : List V} {us : List Nat} (h : PlsAt K H G rs us) (k : Nat) : PlsAt K H G (rs.take k) (us.take k) := by
  refine ⟨by rw [List.length_take, List.length_take, h.1], fun i r hr => ?_⟩
  rw [List.getElem?_take] at hr
  by_cases c : i < k
  · rw [if_pos c] at hr
    obtain ⟨p, x, y, u, a, b, d, e⟩ := h.2 i r hr
    exact ⟨p, x, y, u, a, b, by rw [List.getElem?_take, if_pos c]; exact d, e⟩
  · rw [if_neg c] at hr
    cases hr
theorem PlsAt.drop {K : PySem.W.Frag} {H : Hp} {G : Nat} {rs : List V} {us : List Nat} (h : PlsAt K H G rs us) (k : Nat) : PlsAt K H G (rs.drop k) (us.drop k) := by
  refine ⟨by rw [List.length_drop, List.length_drop, h.1], fun i r hr => ?_⟩
  rw [List.getElem?_drop] at hr
  obtain ⟨p, x, y, u, a, b, d, e⟩ := h.2 _ r hr
  exact ⟨p, x, y, u, a, b, by rw [List.getElem?_drop]; exact d, e⟩
/-- the dict tells dof of each of these units -/
def DofD (G : Nat) (us : List Nat) (kvs : List (List Key × V)) (dof : Nat → Nat) : Prop := ∀ u ∈ us, ∀ x y, IsLow (u : Int) (G : Int) x y → valV kvs [.inl x, .inl y] = some (nV (dof u))
def spr__tree : Nat → PySem.W.Frag → Sp
  | 0, _ => fun _ _ _ _ => False
  | n + 1, K => fun vs H Q _ => ∃ (D l : Addr) (kvs : List (List Key × V)) (rs : List V) (us : List Nat) (G : Nat) (dof : Nat → Nat), vs = [.ref D, .ref l] ∧ H D = some (.dT kvs) ∧ H l = some (.lst rs) ∧ PlsAt K H G rs us ∧ us ≠ [] ∧ us.length ≤ 2 ^ n ∧ us.length ≤ 64 ∧ DofD G us kvs dof ∧
    ∀ v J, Same H J → TrAt J v (treeN dof (n + 1) us) → Q v J
abbrev sp__tree (K : PySem.W.Frag) : Sp := spr__tree 7 K
theorem arr__tree : ∀ (n : Nat) (K : PySem.W.Frag), ∀ vs H Q E, spr__tree n K vs H Q E → vs.length = 2
  | 0, _, _, _, _, _, h => h.elim
  | n + 1, K, vs, H, Q, E, h => by
    obtain ⟨D, l, kvs, rs, us, G, dof, rfl, _⟩ := h
    rfl
abbrev N__tree : List Str := ["days", "lows", "half", "start", "end", "before", "behind"]
theorem sc__tree : FnScope N__tree ["days", "lows"] (defScope S__tree) := ⟨rfl, rfl, rfl, by decide +kernel, rfl, by decide +kernel, by decide +kernel⟩
theorem st__tree {P : Program} {w : World} {K : PySem.W.Frag} {mg : Str → Option Value} {base : Heap} {f : Addr} {fd : FuncData} (F : Fun K "_tree" "_tree" S__tree f fd) (m_len : mg "len" = none) {lv n : Nat} (C__tree : Cal P w K mg base "_tree" lv f fd ["days", "lows"] (spr__tree n K)) :
    FnG P w K mg base CX0 (lv + 1) f fd ["days", "lows"] (spr__tree (n + 1) K) := by
  refine Fun_okG F sc__tree (arr__tree (n + 1) K) (fun cdv A outer s H vs Q E hg hr h => ?_)
  obtain ⟨D, l, kvs, rs, us, G, dof, rfl, hD, hl, P, ne, l2, l64, dd, q⟩ := h
  refine ⟨_, (pss_cons (ps_if (pt_cmpR op_eq (pe_callB (id := "len") (lenK (K := K) rfl) (by rfl) m_len (by decide +kernel) (pa_cons (pv 1) pa_nil)) pe_int (nomark _)) (pss_one (ps_ret (pe_tup (pa_cons pe_str pa_nil)))) pss_nil)
    (pss_cons (ps_set (i := 2) sc__tree.nd rfl (Or.inl rfl) (pe_op op_dv (pe_callB (id := "len") (lenK (K := K) rfl) (by rfl) m_len (by decide +kernel) (pa_cons (pv 1) pa_nil)) pe_int))
    (pss_cons (ps_set (i := 3) sc__tree.nd rfl (Or.inl rfl) (pe_dgetA (K := K) rfl (hu_of hr) (pv 0) (pe_ix (ixK (K := K) rfl) (pv 1) pe_int (fun _ _ => rfl)) (fun _ _ => rfl)))
    (pss_cons (ps_set (i := 4) sc__tree.nd rfl (Or.inl rfl) (pe_dgetA (K := K) rfl (hu_of hr) (pv 0) (pe_ix (ixK (K := K) rfl) (pv 1) (pv 2) (fun _ _ => rfl)) (fun _ _ => rfl)))
    (pss_cons (ps_set (i := 5) sc__tree.nd rfl (Or.inl rfl) (pe_c C__tree hg (hr.mono (Nat.le_refl _)) rfl (pa_cons (pv 0) (pa_cons (pe_slice (slK (K := K) rfl) (pv 1) po_none (po_some (pv 2))) pa_nil))))
    (pss_cons (ps_set (i := 6) sc__tree.nd rfl (Or.inl rfl) (pe_c C__tree hg (hr.mono (Nat.le_refl _)) rfl (pa_cons (pv 0) (pa_cons (pe_slice (slK (K := K) rfl) (pv 1) (po_some (pv 2)) po_none) pa_nil))))
    (pss_cons (ps_if (pt_cmpR op_lt (pv 3) (pv 4) (nomark _)) (pss_one (ps_ret (pe_tup (pa_cons pe_str (pa_cons (pv 3) (pa_cons (pe_op op_sub (pv 4) (pv 3)) (pa_cons (pv 5) (pa_cons (pv 6) pa_nil)))))))) pss_nil)
    (pss_one (ps_ret (pe_tup (pa_cons pe_str (pa_cons (pv 4) (pa_cons (pe_op op_sub (pv 3) (pv 4)) (pa_cons (pv 6) (pa_cons (pv 5) pa_nil))))))))))))))), ?_⟩
  have n0 : 0 < us.length := List.length_pos_iff.mpr ne
  have lP := P.1
  walk_at "rd_6"
  refine rd_if (fun c => ?_) (fun c => ?_)
  · walk_at "rd_6"
    rename_i p1 J1 n1 s1 e1
    refine q _ J1 s1 ?_
    unfold treeN
    rw [if_pos (by omega)]
    exact .sure e1
  · have le2 : 2 ≤ us.length := by omega
    obtain ⟨n', rfl⟩ : ∃ n', n = n' + 1 := ⟨n - 1, by
      rcases Nat.eq_zero_or_pos n with rfl | h
      · simp at l2
        omega
      · omega⟩
    have h0 : 0 < us.length / 2 := by omega
    have h1 : us.length / 2 < us.length := by omega
    have pw : 2 ^ (n' + 1) = 2 * 2 ^ n' := by rw [Nat.pow_succ]; omega
    have e2 : ((rs.length : Int)).fdiv 2 = ((us.length / 2 : Nat) : Int) := by
      rw [Int.fdiv_eq_ediv_of_nonneg _ (by decide), lP]
      omega
    walk_at "rd_6"
    rw [e2]
    generalize hh : us.length / 2 = h at *
    walk_at "rd_6"
    refine rd_dgetA ?_
    walk_at "rd_6"
    obtain ⟨r0, er0⟩ : ∃ r0, rs[0]? = some r0 := ⟨_, List.getElem?_eq_getElem (by omega)⟩
    obtain ⟨rh, erh⟩ : ∃ rh, rs[h]? = some rh := ⟨_, List.getElem?_eq_getElem (by omega)⟩
    obtain ⟨p0, x0, y0, u0, rfl, sq0, eu0, low0, _⟩ := P.2 0 r0 er0
    obtain ⟨ph, xh, yh, uh, rfl, sqh, euh, lowh, _⟩ := P.2 h rh erh
    have v0 := dd u0 (List.mem_of_getElem? eu0) x0 y0 low0
    have vh := dd uh (List.mem_of_getElem? euh) xh yh lowh
    have g0 : us.getD 0 0 = u0 := by rw [List.getD, eu0]; rfl
    have gh : us.getD h 0 = uh := by rw [List.getD, euh]; rfl
    refine rd_sxL (SqL.of hl) (atI_nat er0) ?_
    refine ⟨D, p0, kvs, [.inl x0, .inl y0], _, rfl, rfl, hD, sq0, v0, ?_⟩
    walk_at "rd_6"
    refine rd_dgetA ?_
    walk_at "rd_6"
    refine rd_sxL (SqL.of hl) (atI_nat erh) ?_
    refine ⟨D, ph, kvs, [.inl xh, .inl yh], _, rfl, rfl, hD, sqh, vh, ?_⟩
    walk_at "rd_6"
    rename_i l1 J1 n1 s1 e1
    rw [cutV_to _ _ (by omega)] at e1
    walk_at "rd_6"
    refine ⟨D, l1, kvs, rs.take h, us.take h, G, dof, rfl, s1 _ _ hD, e1, (P.take h).same s1, fun z => ?_, by rw [List.length_take]; omega, by rw [List.length_take]; omega, fun u hu => dd u (List.mem_of_mem_take hu), fun va J2 s2 ta => ?_⟩
    · have := congrArg List.length z
      rw [List.length_take, List.length_nil] at this
      omega
    have s12 := Same.trans s1 s2
    walk_at "rd_6"
    rename_i l3 J3 n3 s3 e3
    rw [cutV_from _ _ (by omega)] at e3
    have s13 := Same.trans s12 s3
    walk_at "rd_6"
    refine ⟨D, l3, kvs, rs.drop h, us.drop h, G, dof, rfl, s13 _ _ hD, e3, (P.drop h).same s13, fun z => ?_, by rw [List.length_drop]; omega, by rw [List.length_drop]; omega, fun u hu => dd u (List.mem_of_mem_drop hu), fun vb J4 s4 tb => ?_⟩
    · have := congrArg List.length z
      rw [List.length_drop, List.length_nil] at this
      omega
    have s14 := Same.trans s13 s4
    have ta4 := ta.same (Same.trans s3 s4)
    simp only [nV]
    walk_at "rd_6"
    refine rd_if (fun c2 => ?_) (fun c2 => ?_)
    · walk_at "rd_6"
      rename_i p5 J5 n5 s5 e5
      refine q _ J5 (Same.trans s14 s5) ?_
      unfold treeN
      rw [if_neg (by omega), hh, g0, gh, if_pos (by omega)]
      rw [show (dof uh : Int) - (dof u0 : Int) = ((dof uh - dof u0 : Nat) : Int) by omega] at e5
      exact .ask e5 (ta4.same s5) (tb.same s5)
    · walk_at "rd_6"
      rename_i p5 J5 n5 s5 e5
      refine q _ J5 (Same.trans s14 s5) ?_
      unfold treeN
      rw [if_neg (by omega), hh, g0, gh, if_neg (by omega)]
      rw [show (dof u0 : Int) - (dof uh : Int) = ((dof u0 - dof uh : Nat) : Int) by omega] at e5
      exact .ask e5 (tb.same s5) (ta4.same s5)
theorem ok__tree {P : Program} {w : World} {K : PySem.W.Frag} {mg : Str → Option Value} {base : Heap} {f : Addr} {fd : FuncData} (F : Fun K "_tree" "_tree" S__tree f fd) (m_len : mg "len" = none) (b : Binds K fd ["days", "lows"] []) (kp : PySem.W.keepIn K (.ref f) = true) (mm : mg "_tree" = some (.ref f)) :
    FnG P w K mg base CX0 7 f fd ["days", "lows"] (sp__tree K) := by
  have all : ∀ n, FnG P w K mg base CX0 n f fd ["days", "lows"] (spr__tree n K) := fun n => by
    induction n with
    | zero => exact ⟨fun _ _ _ _ h => h.elim, fun _ _ _ _ _ _ _ _ _ _ _ _ _ _ h => h.elim⟩
    | succ n ih => exact st__tree F m_len ⟨ih, b, kp, mm⟩
  exact all 7

/-! ### a plan -/
def lastD (pt : Nat → Nat) : Nat → Nat → Nat
  | 0, _ => 0
  | i + 1, u => if pt i = u then i else lastD pt i u
theorem lastD_of {pt : Nat → Nat} : ∀ {i d : Nat}, d < i → lastD pt i (pt d) < i ∧ pt (lastD pt i (pt d)) = pt d
  | 0, d, h => absurd h (Nat.not_lt_zero _)
  | i + 1, d, h => by
    unfold lastD
    by_cases c : pt i = pt d
    · rw [if_pos c]
      exact ⟨Nat.lt_succ_self _, c⟩
    · rw [if_neg c]
      have : d < i := by
        rcases Nat.lt_or_eq_of_le (Nat.le_of_lt_succ h) with h | h
        · exact h
        · subst h
          exact absurd rfl c
      obtain ⟨a, b⟩ := lastD_of (pt := pt) this
      exact ⟨by omega, b⟩
/-- the dict after so many days -/
def LastK (G : Nat) (pt : Nat → Nat) (i : Nat) (kvs : List (List Key × V)) : Prop := ∀ d, d < i → ∀ x y, IsLow ((pt d : Nat) : Int) (G : Int) x y → valV kvs [.inl x, .inl y] = some (nV (lastD pt i (pt d)))
theorem LastK.put {G : Nat} {pt : Nat → Nat} {i : Nat} {kvs : List (List Key × V)} (g0 : 0 < G) (h : LastK G pt i kvs) {x y : Int} (low : IsLow ((pt i : Nat) : Int) (G : Int) x y) : LastK G pt (i + 1) (putK kvs [.inl x, .inl y] (nV i)) := fun d hd x' y' low' => by
  rw [valV_put]
  unfold lastD
  by_cases c : pt i = pt d
  · rw [if_pos c]
    rw [← c] at low'
    obtain ⟨rfl, rfl⟩ := low_uniq low' low (by omega) (by omega) rfl
    rw [if_pos rfl]
  · rw [if_neg c]
    have : d < i := by
      rcases Nat.lt_or_eq_of_le (Nat.le_of_lt_succ hd) with h | h
      · exact h
      · subst h
        exact absurd rfl c
    rw [if_neg fun z => by
      simp only [List.cons.injEq, Sum.inl.injEq, and_true] at z
      obtain ⟨rfl, rfl⟩ := z
      have e1 := low.2.2.1
      have e2 := low'.2.2.1
      have y0 := low.1
      have := Int.eq_of_mul_eq_mul_right (by omega) (e1.symm.trans e2)
      omega]
    exact h d this x' y' low'
def ptE (G : Nat) (es : List Ent) (d : Nat) : Nat := ptU G (bS G es d)
/-- the least cuts of the cells, of these days, in which there are cuts left -/
def CellsE (G : Nat) (es : List Ent) (f : Nat → Bool) (last : Nat) (ts : List Nat) : Prop := ts.Pairwise (· < ·) ∧ (∀ u, u ∈ ts ↔ (∃ d, d ≤ last ∧ u = ptE G es d) ∧ cellB G f ((List.range (last + 1)).map (ptE G es)) u = true) ∧ ts.length ≤ last + 1
theorem cell_of : ∀ {ts : List Nat} (v : Nat), 0 ∈ ts → ∃ c, c ∈ ts ∧ c ≤ v ∧ ∀ w ∈ ts, w ≤ v → w ≤ c
  | ts, 0, h => ⟨0, h, Nat.le_refl _, fun w _ hw => hw⟩
  | ts, v + 1, h => by
    by_cases c : v + 1 ∈ ts
    · exact ⟨v + 1, c, Nat.le_refl _, fun w _ hw => hw⟩
    · obtain ⟨u, hu, le, most⟩ := cell_of (ts := ts) v h
      exact ⟨u, hu, by omega, fun w hw lw => most w hw (by
        rcases Nat.lt_or_eq_of_le lw with h | h
        · omega
        · subst h
          exact absurd hw c)⟩
theorem ptU_zero {G : Nat} (g0 : 0 < G) : ptU G 0 = 0 := by
  unfold ptU
  simp
theorem lk_at {G : Nat} {pt : Nat → Nat} {i : Nat} {kvs : List (List Key × V)} (h : LastK G pt i kvs) {d : Nat} (hd : d < i) {x y : Int} (low : IsLow ((pt d : Nat) : Int) (G : Int) x y) : valV kvs [.inl x, .inl y] = some (nV (lastD pt i (pt d))) := h d hd x y low
def sp_plan (K : PySem.W.Frag) : Sp := fun vs H Q E => ∃ (p d : Addr) (its : List (Nat × Itm)) (nx G : Nat) (v : V) (t : String), vs = [.ref p, v] ∧ LgAt K H p d its nx ∧ 0 < G ∧ G < 2 ^ 500 ∧ (∀ e ∈ entsOf (its.map (·.2)), Fits G e.am) ∧ (entsOf (its.map (·.2))).length ≤ 6 ∧ (stmsOf (its.map (·.2))).length ≤ 24 ∧ IsTy K H v t ∧
  (((t ≠ "int" ∨ ∃ n : Int, v = .int n ∧ t = "int" ∧ ¬ (0 ≤ n ∧ n ≤ 200)) ∧ ∀ J C, Same H J → PySem.W.nsIn K mainGlobals "BadDay" = some (some (.ref C)) → E (.ref C) none J) ∨
  ∃ last : Nat, v = .int (last : Int) ∧ t = "int" ∧ last ≤ 50 ∧
    ((∃ u, u < G ∧ okU G (entsOf (its.map (·.2))) (stmsOf (its.map (·.2))) u = true) → ∀ w J ts, Same H J → TrAt J w (treeN (lastD (ptE G (entsOf (its.map (·.2)))) (last + 1)) 7 ts) → CellsE G (entsOf (its.map (·.2))) (okU G (entsOf (its.map (·.2))) (stmsOf (its.map (·.2)))) last ts → Q w J) ∧
    ((∀ u, u < G → okU G (entsOf (its.map (·.2))) (stmsOf (its.map (·.2))) u = false) → ∀ J C, Same H J → PySem.W.nsIn K mainGlobals "NothingLeft" = some (some (.ref C)) → E (.ref C) none J))
theorem ar_plan (K : PySem.W.Frag) : ∀ vs H Q E, sp_plan K vs H Q E → vs.length = 2 := by
  intro vs H Q E h
  obtain ⟨p, d, its, nx, G, v, t, rfl, _⟩ := h
  rfl
abbrev N_plan : List Str := ["ledger", "last", "cuts", "points", "days", "day", "place"]
theorem sc_plan : FnScope N_plan ["ledger", "last"] (defScope S_plan) := ⟨rfl, rfl, rfl, by decide +kernel, rfl, by decide +kernel, by decide +kernel⟩
theorem ok_plan {P : Program} {w : World} {K : PySem.W.Frag} {mg : Str → Option Value} {base : Heap} {f : Addr} {fd : FuncData} (F : Fun K "plan" "plan" S_plan f fd) {f__tree : Addr} {fd__tree : FuncData} (C__tree : Cal P w K mg base "_tree" 7 f__tree fd__tree ["days", "lows"] (sp__tree K)) {f_cells : Addr} {fd_cells : FuncData} (C_cells : Cal P w K mg base "cells" 3 f_cells fd_cells ["points", "cuts"] (sp_cells K)) {f_points_up_to : Addr} {fd_points_up_to : FuncData} (C_points_up_to : Cal P w K mg base "points_up_to" 7 f_points_up_to fd_points_up_to ["entries", "last"] (sp_points_up_to K)) {f__some_left : Addr} {fd__some_left : FuncData} (C__some_left : CalX P w K mg base "_some_left" 12 f__some_left fd__some_left ["ledger"] (sp__some_left K)) {f_is_last : Addr} {fd_is_last : FuncData} (C_is_last : Cal P w K mg base "is_last" 2 f_is_last fd_is_last ["thing"] (sp_is_last K)) {C_L : Addr} (T : LgC K mg C_L) {f_Ledger_entries : Addr} {fd_Ledger_entries : FuncData} (C_Ledger_entries : CalM P w K mg base C_L "entries" 2 f_Ledger_entries fd_Ledger_entries ["self"] (sp_Ledger_entries K)) {X_BadDay : Addr} (R_BadDay : ExcV K mg "BadDay" X_BadDay) (m_enumerate : mg "enumerate" = none) :
    FnG P w K mg base (L2.CX P w) 13 f fd ["ledger", "last"] (sp_plan K) := by
  refine Fun_okGX F sc_plan (ar_plan K) (fun cdv A outer s H vs Q E hg hr h => ?_)
  obtain ⟨p, d, its, nx, G, v, t, rfl, L, g0, g5, fit, l6, l24, ty, q⟩ := h
  refine ⟨_, (pss_cons (ps_if (pt_not (pt_val (pe_c C_is_last hg (hr.mono (by decide)) rfl (pa_cons (pv 1) pa_nil)))) (pss_one (ps_rv rfl (takes_of rfl rfl rfl rfl) R_BadDay rfl)) pss_nil)
    (pss_cons (ps_set (i := 2) sc_plan.nd rfl (Or.inl rfl) (pe_cx (takes_of rfl rfl rfl rfl) C__some_left hg (hr.mono (by decide)) rfl (pa_cons (pv 0) pa_nil)))
    (pss_cons (ps_set (i := 3) sc_plan.nd rfl (Or.inl rfl) (pe_c C_points_up_to hg (hr.mono (by decide)) rfl (pa_cons (pm_c0 T.cl C_Ledger_entries hg (hr.mono (by decide)) (pv 0)) (pa_cons (pv 1) pa_nil))))
    (pss_cons (ps_setDcP (i := 4) rfl rfl (sw_trueD rfl rfl rfl (by decide +kernel)) (own := [("day", 5), ("place", 6)]) (g := (gTup K 2 (gCons (gName 5) (gCons (gName 6) gNil)))) rfl sc_plan.nd (Nat.lt_of_succ_lt (hu_of hr)) (piE (K := K) rfl (by rfl) m_enumerate (pa_cons (pv 3) pa_nil)) (blkOk_by (own := [("day", 5), ("place", 6)]) (N := N_plan) (sc := defScope S_plan) (by decide +kernel)) (fun _ _ _ _ _ => (pgT rfl rfl (pgs_cons (pg_name (i := 5) sc_plan.nd rfl (Or.inl rfl)) (pgs_cons (pg_name (i := 6) sc_plan.nd rfl (Or.inl rfl)) pgs_nil)))) (fun _ _ _ _ _ => pts_nil) (fun _ _ _ _ _ => (pv 6)) (fun _ _ _ _ _ => (pv 5)))
    (pss_one (ps_ret (pe_c C__tree hg (hr.mono (by decide)) rfl (pa_cons (pv 4) (pa_cons (pe_c C_cells hg (hr.mono (by decide)) rfl (pa_cons (pv 3) (pa_cons (pv 2) pa_nil))) pa_nil))))))))), ?_⟩
  walk_at "rd_6"
  refine ⟨v, t, rfl, ty, ?_⟩
  rcases q with ⟨bad, qb⟩ | ⟨last, rfl, rfl, l59, qs, qn⟩
  · rcases bad with ne | ⟨n, rfl, rfl, no⟩
    · refine .inl ⟨ne, ?_⟩
      refine ⟨false, rfl, ?_⟩
      refine iteT ?_
      exact qb H _ (fun _ _ h => h) R_BadDay.at_
    · refine .inr ⟨n, rfl, rfl, ?_⟩
      rw [decide_eq_false no]
      refine ⟨false, rfl, ?_⟩
      refine iteT ?_
      exact qb H _ (fun _ _ h => h) R_BadDay.at_
  · refine .inr ⟨(last : Int), rfl, rfl, ?_⟩
    rw [decide_eq_true (show (0 : Int) ≤ (last : Int) ∧ (last : Int) ≤ 200 by omega)]
    refine ⟨true, rfl, ?_⟩
    refine iteF ?_
    walk_at "rd_6"
    refine rd_callX ?_
    walk_at "rd_6"
    refine ⟨p, d, its, nx, G, rfl, L, g0, g5, fit, by omega, l24, fun some_ rs zs z J s nz ez sn fr ll => ?_, fun no J C s hC => qn no J C s hC⟩
    have qs := qs some_
    walk_at "rd_6"
    refine rd_meth T (L.same s) (fun R h => rd_var rfl h) ?_
    walk_at "rd_6"
    refine ⟨p, d, its, nx, rfl, L.same s, fun el J1 ews n1 s1 e1 E1 => ?_⟩
    have lE := E1.len
    walk_at "rd_6"
    refine ⟨el, _, last, G, rfl, ⟨ews, e1, E1, fit, g0, g5, by omega⟩, by omega, fun pz prs J2 s2 n2 e2 P2 T2 => ?_⟩
    have lP := P2.1
    rw [List.length_map, List.length_range] at lP
    walk_at "rd_6"
    refine rd_dcP ?_
    refine rd_iE ?_
    walk_at "rd_6"
    refine ⟨pz, prs, rfl, SqL.of e2, fun D nD => ?_⟩
    generalize hes : entsOf (its.map (·.2)) = es at *
    have ns : ∀ i kvs J J', Same J J' → LastK G (ptE G es) i kvs → LastK G (ptE G es) i kvs := fun _ _ _ _ _ h => h
    refine dcP_enum (fun i kvs _ => LastK G (ptE G es) i kvs) e2 (by omega) nD (fun _ _ d hd => absurd hd (Nat.not_lt_zero d)) ns (fun i x kvs J3 T3 hx i5 lk k3 hD hP hT => ?_) (fun kvs J3 lk k3 hD hP => ?_)
    · obtain ⟨px, x1, y1, u1, rfl, sq2, eu1, low1⟩ := T2.2 i x hx
      rw [List.getElem?_map, List.getElem?_range (by have := (List.getElem?_eq_some_iff.mp hx).1; omega)] at eu1
      cases eu1
      have sq3 := k3 px _ (ne_of_none sq2 nD) sq2
      walk_at "rd_6"
      refine ⟨rfl, ?_⟩
      walk_at "rd_6"
      exact dpEnd_mk (k := [.inl x1, .inl y1]) hD sq3 lk i5 k3 (hP.put g0 low1)
    have g5' : G < 2 ^ 500 := g5
    have s03 : Same J2 J3 := fun a o h => k3 a o (ne_of_none h nD) h
    have sZ := Same.trans s1 (Same.trans s2 s03)
    walk_at "rd_6"
    refine ⟨pz, z, prs, rs, (List.range (last + 1)).map (ptE G es), zs, G, _, rfl, s03 _ _ e2, P2.same s03, sZ _ _ ez, (sn.mono fun _ _ e => sqt_same sZ e), fr, g0, g5, by omega, ll, List.mem_map.mpr ⟨0, List.mem_range.mpr (by omega), by unfold ptE; rw [bS_zero]; exact ptU_zero g0⟩, fun zc ws ts0 J4 s4 n4 e4 asc mem P4 lw => ?_⟩
    have in_ : ∀ u, u ∈ ts0 ↔ ∃ d, d ≤ last ∧ u = ptE G es d := fun u => by
      rw [mem, List.mem_map]
      exact ⟨fun ⟨d, h, e⟩ => ⟨d, Nat.le_of_lt_succ (List.mem_range.mp h), e.symm⟩, fun ⟨d, h, e⟩ => ⟨d, List.mem_range.mpr (by omega), e.symm⟩⟩
    have lt_ : ∀ d, ptE G es d < G := fun d => (ptU_eq g0 (bS G es d)).2
    walk_at "rd_6"
    refine ⟨D, zc, kvs, ws, _, G, lastD (ptE G es) (last + 1), rfl, s4 _ _ hD, e4, P4, fun z => ?_, Nat.le_trans (show _ ≤ 64 by have := P4.1; omega) (by decide), by have := P4.1; omega, fun u hu x y low => ?_, fun w J5 s5 tr => ?_⟩
    · obtain ⟨v, hv, ok⟩ := some_
      obtain ⟨c, hc, le, most⟩ := cell_of (ts := ts0) v ((in_ 0).mpr ⟨0, by omega, by unfold ptE; rw [bS_zero, ptU_zero g0]⟩)
      have : c ∈ ts0.filter (cellB G (okU G es (stmsOf (its.map (·.2)))) ((List.range (last + 1)).map (ptE G es))) := List.mem_filter.mpr ⟨hc, cellB_iff.mpr ⟨v, hv, le, ok, fun w hw lw => most w ((mem w).mpr hw) lw⟩⟩
      rw [z] at this
      cases this
    · obtain ⟨d, hd, rfl⟩ := (in_ u).mp (List.mem_filter.mp hu).1
      have := lk_at hP (by omega : d < prs.length) low
      rw [lP] at this
      exact this
    · refine qs w J5 _ (Same.trans s (Same.trans sZ (Same.trans s4 s5))) tr ⟨asc.filter _, fun u => by rw [List.mem_filter, in_], by have := P4.1; omega⟩

/-! ### the paper of a plan -/
structure LAt (J : Hp) (es : List Ent) (ss : List Stm) (el sl : Addr) : Prop where
  e : ∃ ews, J el = some (.lst ews) ∧ EntsAt J ews es
  s : ∃ sws, J sl = some (.lst sws) ∧ StmsAt J sws ss
theorem LAt.same {J M : Hp} {es : List Ent} {ss : List Stm} {el sl : Addr} (s : Same J M) (P : LAt J es ss el sl) : LAt M es ss el sl :=
  ⟨let ⟨w, a, b⟩ := P.e; ⟨w, s _ _ a, b.mono fun p xs h => s _ _ h⟩, let ⟨w, a, b⟩ := P.s; ⟨w, s _ _ a, b.mono fun p xs h => s _ _ h⟩⟩
def NoLast (v : V) (t : String) : Prop := t ≠ "int" ∨ ∃ n : Int, v = .int n ∧ t = "int" ∧ ¬ (0 ≤ n ∧ n ≤ 200)
def sp_plan_paper (K : PySem.W.Frag) : Sp := fun vs H Q E => ∃ (p d : Addr) (its : List (Nat × Itm)) (nx G : Nat) (es : List Ent) (ss : List Stm) (v : V) (t : String), vs = [.ref p, v] ∧ LgAt K H p d its nx ∧ entsOf (its.map (·.2)) = es ∧ stmsOf (its.map (·.2)) = ss ∧ 0 < G ∧ G < 2 ^ 500 ∧ (∀ e ∈ es, Fits G e.am) ∧ es.length ≤ 6 ∧ ss.length ≤ 24 ∧ (∀ J, Same H J → IsTy K J v t) ∧
  ((NoLast v t ∧ ∀ J C, Same H J → PySem.W.nsIn K mainGlobals "BadDay" = some (some (.ref C)) → E (.ref C) none J) ∨
  ∃ last : Nat, v = .int (last : Int) ∧ t = "int" ∧ last ≤ 50 ∧
    ((∃ u, u < G ∧ okU G es ss u = true) → ∀ (z el sl : Addr) (w : V) J ts, Same H J → J z = some (.tup [.str "plan", .ref el, .ref sl, .int (last : Int), w]) → LAt J es ss el sl → TrAt J w (treeN (lastD (ptE G es) (last + 1)) 7 ts) → CellsE G es (okU G es ss) last ts → Q (.ref z) J) ∧
    ((∀ u, u < G → okU G es ss u = false) → ∀ J C, Same H J → PySem.W.nsIn K mainGlobals "NothingLeft" = some (some (.ref C)) → E (.ref C) none J))
theorem ar_plan_paper (K : PySem.W.Frag) : ∀ vs H Q E, sp_plan_paper K vs H Q E → vs.length = 2 := by
  intro vs H Q E h
  obtain ⟨p, d, its, nx, G, es, ss, v, t, rfl, _⟩ := h
  rfl
abbrev N_plan_paper : List Str := ["ledger", "last"]
theorem sc_plan_paper : FnScope N_plan_paper ["ledger", "last"] (defScope S_plan_paper) := ⟨rfl, rfl, rfl, by decide +kernel, rfl, by decide +kernel, by decide +kernel⟩
theorem ok_plan_paper {P : Program} {w : World} {K : PySem.W.Frag} {mg : Str → Option Value} {base : Heap} {f : Addr} {fd : FuncData} (F : Fun K "plan_paper" "plan_paper" S_plan_paper f fd) {f_plan : Addr} {fd_plan : FuncData} (C_plan : CalX P w K mg base "plan" 13 f_plan fd_plan ["ledger", "last"] (sp_plan K)) {C_L : Addr} (T : LgC K mg C_L) {f_Ledger_statements : Addr} {fd_Ledger_statements : FuncData} (C_Ledger_statements : CalM P w K mg base C_L "statements" 2 f_Ledger_statements fd_Ledger_statements ["self"] (sp_Ledger_statements K)) {f_Ledger_entries : Addr} {fd_Ledger_entries : FuncData} (C_Ledger_entries : CalM P w K mg base C_L "entries" 2 f_Ledger_entries fd_Ledger_entries ["self"] (sp_Ledger_entries K)) :
    FnG P w K mg base (L2.CX P w) 14 f fd ["ledger", "last"] (sp_plan_paper K) := by
  refine Fun_okGX F sc_plan_paper (ar_plan_paper K) (fun cdv A outer s H vs Q E hg hr h => ?_)
  obtain ⟨p, d, its, nx, G, es, ss, v, t, rfl, L, he, hs, g0, g5, fit, l6, l24, ty, q⟩ := h
  refine ⟨_, (pss_one (ps_ret (pe_tup (pa_cons pe_str (pa_cons (pm_c0 T.cl C_Ledger_entries hg (hr.mono (by decide)) (pv 0)) (pa_cons (pm_c0 T.cl C_Ledger_statements hg (hr.mono (by decide)) (pv 0)) (pa_cons (pv 1) (pa_cons (pe_cx (takes_of rfl rfl rfl rfl) C_plan hg (hr.mono (by decide)) rfl (pa_cons (pv 0) (pa_cons (pv 1) pa_nil))) pa_nil)))))))), ?_⟩
  walk_at "rd_6"
  refine rd_meth T L (fun R h => rd_var rfl h) ?_
  walk_at "rd_6"
  refine ⟨p, d, its, nx, rfl, L, fun el J1 ews n1 s1 e1 E1 => ?_⟩
  have L1 := L.same s1
  walk_at "rd_6"
  refine rd_meth T L1 (fun R h => rd_var rfl h) ?_
  walk_at "rd_6"
  refine ⟨p, d, its, nx, rfl, L1, fun sl J2 sws n2 s2 e2 S2 => ?_⟩
  have L2 := L1.same s2
  have s12 := Same.trans s1 s2
  have P2 : LAt J2 es ss el sl := ⟨⟨ews, s2 _ _ e1, by rw [← he]; exact E1.mono fun p xs h => s2 _ _ h⟩, ⟨sws, e2, by rw [← hs]; exact S2⟩⟩
  walk_at "rd_6"
  refine rd_callX ?_
  walk_at "rd_6"
  refine ⟨p, d, its, nx, G, v, t, rfl, L2, g0, g5, by rw [he]; exact fit, by rw [he]; exact l6, by rw [hs]; exact l24, ty J2 s12, ?_⟩
  rcases q with ⟨bad, qb⟩ | ⟨last, rfl, rfl, l50, qs, qn⟩
  · exact .inl ⟨bad, fun J C s hC => qb J C (Same.trans s12 s) hC⟩
  · refine .inr ⟨last, rfl, rfl, l50, fun some_ w J3 ts s3 tr ce => ?_, fun no J C s hC => qn (by rw [he, hs] at no; exact no) J C (Same.trans s12 s) hC⟩
    rw [he, hs] at some_ ce
    rw [he] at tr
    walk_at "rd_6"
    rename_i z4 J4 n4 s4 e4
    exact qs some_ z4 el sl w J4 ts (Same.trans s12 (Same.trans s3 s4)) e4 (P2.same (Same.trans s3 s4)) (tr.same s4) ce

/-! ### two own classes of errors, each caught by a clause of its own -/
structure ErrW1 (K : PySem.W.Frag) (mg : Str → Option Value) (x : Str) (b : String) (C : Addr) : Prop where
  at_ : PySem.W.nsIn K mainGlobals x = some (some (.ref C))
  i : ExcI K C
  g : mg x = some (.ref C)
  on : PySem.W.kitOne K (.ref C) (.type b) = some true
theorem ErrW1.is {K : PySem.W.Frag} {mg : Str → Option Value} {x : Str} {b : String} {C D : Addr} (X : ErrW1 K mg x b C) (h : PySem.W.nsIn K mainGlobals x = some (some (.ref D))) : D = C := by
  have := h.symm.trans X.at_
  simp at this
  exact this
structure ErrW (K : PySem.W.Frag) (mg : Str → Option Value) (cD cN : Addr) : Prop where
  d : ErrW1 K mg "BadDay" "ValueError" cD
  n : ErrW1 K mg "NothingLeft" "RuntimeError" cN
  dd : PySem.W.exmOne K (.ref cD) (.ref cD) = some true
  dn : PySem.W.exmOne K (.ref cD) (.ref cN) = some false
  nd : PySem.W.exmOne K (.ref cN) (.ref cD) = some false
  nn : PySem.W.exmOne K (.ref cN) (.ref cN) = some true

def sp__law_said (K : PySem.W.Frag) : Sp := fun vs H Q E => ∃ (p d : Addr) (its : List (Nat × Itm)) (nx G : Nat) (es : List Ent) (ss : List Stm) (v : V) (t : String), vs = [.ref p, v] ∧ LgAt K H p d its nx ∧ entsOf (its.map (·.2)) = es ∧ stmsOf (its.map (·.2)) = ss ∧ 0 < G ∧ G < 2 ^ 500 ∧ (∀ e ∈ es, Fits G e.am) ∧ es.length ≤ 6 ∧ ss.length ≤ 24 ∧ (∀ J, Same H J → IsTy K J v t) ∧
  ((NoLast v t ∧ ∀ J, Same H J → Q (.str "day") J) ∨
  ∃ last : Nat, v = .int (last : Int) ∧ t = "int" ∧ last ≤ 50 ∧
    ((∃ u, u < G ∧ okU G es ss u = true) → ∀ (z el sl : Addr) (w : V) J ts, Same H J → J z = some (.tup [.str "plan", .ref el, .ref sl, .int (last : Int), w]) → LAt J es ss el sl → TrAt J w (treeN (lastD (ptE G es) (last + 1)) 7 ts) → CellsE G es (okU G es ss) last ts → Q (.ref z) J) ∧
    ((∀ u, u < G → okU G es ss u = false) → ∀ J, Same H J → Q (.str "nothing") J))
theorem ar__law_said (K : PySem.W.Frag) : ∀ vs H Q E, sp__law_said K vs H Q E → vs.length = 2 := by
  intro vs H Q E h
  obtain ⟨p, d, its, nx, G, es, ss, v, t, rfl, _⟩ := h
  rfl
abbrev N__law_said : List Str := ["_law_ledger_here", "_law_last", "e"]
theorem sc__law_said : FnScope N__law_said ["_law_ledger_here", "_law_last"] (defScope S__law_said) := ⟨rfl, rfl, rfl, by decide +kernel, rfl, by decide +kernel, by decide +kernel⟩
theorem ok__law_said {P : Program} {w : World} {K : PySem.W.Frag} {mg : Str → Option Value} {base : Heap} {f : Addr} {fd : FuncData} (F : Fun K "_law_said" "_law_said" S__law_said f fd) {f_plan_paper : Addr} {fd_plan_paper : FuncData} (C_plan_paper : CalX P w K mg base "plan_paper" 14 f_plan_paper fd_plan_paper ["ledger", "last"] (sp_plan_paper K)) {cD cN : Addr} (XE : ErrW K mg cD cN) (m_isinstance : mg "isinstance" = none) (m_RuntimeError : mg "RuntimeError" = none) (m_ValueError : mg "ValueError" = none) :
    FnG P w K mg base CX0 15 f fd ["_law_ledger_here", "_law_last"] (sp__law_said K) := by
  refine Fun_okG F sc__law_said (ar__law_said K) (fun cdv A outer s H vs Q E hg hr h => ?_)
  obtain ⟨p, d, its, nx, G, es, ss, v, t, rfl, L, he, hs, g0, g5, fit, l6, l24, ty, q⟩ := h
  refine ⟨_, (pss_one (ps_try_all rfl rfl sc__law_said.nd takes0 (fun W pn xe tk _ => (pss_one (ps_ret (pe_cx tk C_plan_paper hg (hr.mono (by decide)) rfl (pa_cons (pv 0) (pa_cons (pv 1) pa_nil)))))) (.cons (i := 2) rfl rfl ⟨rfl, by decide, .inl XE.d.g⟩ (fun a oe cls d pn hz hf => (pss_one (ps_ret (pe_ifExp (pt_val (pe_callB (id := "isinstance") (call_isX hz hf) (by rfl) m_isinstance (by decide +kernel) (pa_cons (pv 2) (pa_cons (pe_bltn (v := V.ty "ValueError") (u := Value.type "ValueError") (by rfl) m_ValueError (by decide +kernel) rfl) pa_nil)))) pe_str pe_str)))) (.cons (i := 2) rfl rfl ⟨rfl, by decide, .inl XE.n.g⟩ (fun a oe cls d pn hz hf => (pss_one (ps_ret (pe_ifExp (pt_val (pe_callB (id := "isinstance") (call_isX hz hf) (by rfl) m_isinstance (by decide +kernel) (pa_cons (pv 2) (pa_cons (pe_bltn (v := V.ty "RuntimeError") (u := Value.type "RuntimeError") (by rfl) m_RuntimeError (by decide +kernel) rfl) pa_nil)))) pe_str pe_str)))) .nil)))), ?_⟩
  walk_at "rd_6"
  refine rd_callX ?_
  walk_at "rd_6"
  refine ⟨p, d, its, nx, G, es, ss, v, t, rfl, L, he, hs, g0, g5, fit, l6, l24, ty, ?_⟩
  rcases q with ⟨bad, qb⟩ | ⟨last, rfl, rfl, l50, qs, qn⟩
  · refine .inl ⟨bad, fun J C s hC => ?_⟩
    obtain rfl := XE.d.is hC
    refine ⟨true, XE.dd, fun _ a na => ?_, fun z => by cases z⟩
    walk_at "rd_6"
    refine ⟨C, true, rfl, XE.d.i, .inl rfl, .inl ⟨_, _, rfl, .ty _, XE.d.on⟩, ?_⟩
    walk_at "rd_6"
    refine iteT ?_
    walk_at "rd_6"
    exact qb J s
  · refine .inr ⟨last, rfl, rfl, l50, fun some_ z el sl w J ts s e P tr ce => ?_, fun no J C s hC => ?_⟩
    · walk_at "rd_6"
      exact qs some_ z el sl w J ts s e P tr ce
    · obtain rfl := XE.n.is hC
      refine ⟨false, XE.nd, fun z => (by cases z), fun _ => ?_⟩
      refine ⟨true, XE.nn, fun _ a na => ?_, fun z => by cases z⟩
      walk_at "rd_6"
      refine ⟨C, true, rfl, XE.n.i, .inl rfl, .inl ⟨_, _, rfl, .ty _, XE.n.on⟩, ?_⟩
      walk_at "rd_6"
      refine iteT ?_
      walk_at "rd_6"
      exact qn no J s

/-! ### trees: how deep, what is told between two cells -/
def depT : Tr → Nat
  | .sure => 0
  | .ask _ _ a b => 1 + max (depT a) (depT b)
def nb (k : Nat) : Nat := if k = 0 then 0 else k.log2 + 1
theorem nb_half {k : Nat} (h : 0 < k) : nb k = 1 + nb (k / 2) := by
  unfold nb
  rw [if_neg (by omega)]
  by_cases c : k / 2 = 0
  · rw [if_pos c]
    have : k = 1 := by omega
    subst this
    rfl
  · rw [if_neg c, Nat.log2_def, if_pos (by omega)]
    omega
theorem nb_mono : ∀ {j k : Nat}, j ≤ k → nb j ≤ nb k := by
  intro j k
  induction k using Nat.strongRecOn generalizing j with
  | _ k ih =>
    intro h
    rcases Nat.eq_zero_or_pos j with rfl | hj
    · exact Nat.zero_le _
    · rw [nb_half hj, nb_half (k := k) (by omega)]
      have := ih (k / 2) (by omega) (j := j / 2) (by omega)
      omega
theorem nb_bits (k : Nat) : Builtin.Int.intBits (k : Int) = nb k := by
  unfold Builtin.Int.intBits nb
  by_cases c : k = 0
  · subst c
    rfl
  · rw [if_neg c, if_neg (by simpa using c)]
    rfl
theorem dep_tree (dof : Nat → Nat) : ∀ (n : Nat) (us : List Nat), us.length ≤ 2 ^ n → depT (treeN dof (n + 1) us) = nb (us.length - 1)
  | 0, us, h => by
    unfold treeN
    have l1 : us.length ≤ 1 := by simpa using h
    rw [if_pos l1, show us.length - 1 = 0 by omega]
    rfl
  | n + 1, us, h => by
    have pw : 2 ^ (n + 1) = 2 * 2 ^ n := by rw [Nat.pow_succ]; omega
    unfold treeN
    by_cases c : us.length ≤ 1
    · rw [if_pos c, show us.length - 1 = 0 by omega]
      rfl
    · rw [if_neg c]
      have a := dep_tree dof n (us.take (us.length / 2)) (by rw [List.length_take]; omega)
      have b := dep_tree dof n (us.drop (us.length / 2)) (by rw [List.length_drop]; omega)
      rw [List.length_take, Nat.min_eq_left (by omega)] at a
      rw [List.length_drop] at b
      have m := nb_mono (show us.length / 2 - 1 ≤ us.length - us.length / 2 - 1 by omega)
      have e := nb_half (show 0 < us.length - 1 by omega)
      rw [show (us.length - 1) / 2 = us.length - us.length / 2 - 1 by omega] at e
      split
      · show 1 + max _ _ = _
        rw [a, b, e]
        omega
      · show 1 + max _ _ = _
        rw [a, b, e]
        omega
theorem told_fw {G : Nat} {es : List Ent} (g0 : 0 < G) {u a b lo mid : Nat} (hu : u < G) (hab : a < b) (ea : ptE G es a = lo) (eb : ptE G es b = mid) (lt : lo < mid) (le : lo ≤ u) : toldN G es (u : Int) a (b - a) - (bS G es b - bS G es a).fdiv (G : Int) = if mid ≤ u then 1 else 0 := by
  rw [told_step g0 hu, lesser_eq g0, show a + (b - a) = b by omega]
  unfold ptE at ea eb
  unfold stepU
  rw [ea, eb]
  (repeat' split) <;> omega
theorem told_bw {G : Nat} {es : List Ent} (g0 : 0 < G) {u a b lo mid : Nat} (hu : u < G) (hab : a < b) (ea : ptE G es a = mid) (eb : ptE G es b = lo) (lt : lo < mid) (le : lo ≤ u) : toldN G es (u : Int) a (b - a) - (bS G es b - bS G es a).fdiv (G : Int) = if mid ≤ u then 0 else 1 := by
  rw [told_step g0 hu, lesser_eq g0, show a + (b - a) = b by omega]
  unfold ptE at ea eb
  unfold stepU
  rw [ea, eb]
  (repeat' split) <;> omega
/-- the cuts left, each with its cell; the cells are us -/
structure RestOk (G : Nat) (ts0 us : List Nat) (rest : List (Nat × Nat)) : Prop where
  at_ : ∀ r ∈ rest, r.1 < G ∧ r.2 ∈ us ∧ r.2 ≤ r.1 ∧ ∀ w ∈ ts0, w ≤ r.1 → w ≤ r.2
  all : ∀ c ∈ us, ∃ r ∈ rest, r.2 = c
/-- a node: the first cell, the cell at half -/
theorem asc_le : ∀ {us : List Nat} {lo : Nat}, us.Pairwise (· < ·) → us[0]? = some lo → ∀ c ∈ us, lo ≤ c
  | [], _, _, h, _, _ => by cases h
  | u :: us, lo, pw, h, c, hc => by
    obtain rfl : u = lo := by simpa using h
    rcases List.mem_cons.mp hc with rfl | hc
    · exact Nat.le_refl _
    · exact Nat.le_of_lt ((List.pairwise_cons.mp pw).1 c hc)
theorem take_iff {us : List Nat} {h mid : Nat} (pw : us.Pairwise (· < ·)) (hm : us[h]? = some mid) {c : Nat} (hc : c ∈ us) : (c ∈ us.drop h ↔ mid ≤ c) ∧ (c ∈ us.take h ↔ c < mid) := by
  have e : us.take h ++ us.drop h = us := List.take_append_drop h us
  have pw2 := pw
  rw [← e] at pw2 hc
  obtain ⟨p1, p2, p3⟩ := List.pairwise_append.mp pw2
  have d0 : (us.drop h)[0]? = some mid := by rw [List.getElem?_drop]; simpa using hm
  have mm : mid ∈ us.drop h := List.mem_of_getElem? d0
  have ge : ∀ x ∈ us.drop h, mid ≤ x := fun x hx => asc_le p2 d0 x hx
  have lt : ∀ x ∈ us.take h, x < mid := fun x hx => p3 x hx mid mm
  rcases List.mem_append.mp hc with k | k
  · exact ⟨⟨fun z => ge c z, fun z => absurd (lt c k) (by omega)⟩, ⟨fun _ => lt c k, fun _ => k⟩⟩
  · exact ⟨⟨fun _ => ge c k, fun _ => k⟩, ⟨fun z => lt c z, fun z => absurd (ge c k) (by omega)⟩⟩
theorem RestOk.unit {G : Nat} {ts0 us : List Nat} {rest : List (Nat × Nat)} (R : RestOk G ts0 us rest) {r : Nat × Nat} (hr : r ∈ rest) {m : Nat} (hm : m ∈ ts0) : m ≤ r.1 ↔ m ≤ r.2 := by
  obtain ⟨_, _, b, c⟩ := R.at_ r hr
  exact ⟨fun h => c m hm h, fun h => Nat.le_trans h b⟩
theorem RestOk.lo {G : Nat} {ts0 us : List Nat} {rest : List (Nat × Nat)} {h mid : Nat} (R : RestOk G ts0 us rest) (pw : us.Pairwise (· < ·)) (sub : ∀ c ∈ us, c ∈ ts0) (hm : us[h]? = some mid) : RestOk G ts0 (us.take h) (rest.filter fun r => decide (r.1 < mid)) := by
  have mt := sub _ (List.mem_of_getElem? hm)
  refine ⟨fun r hr => ?_, fun c hc => ?_⟩
  · obtain ⟨hr, d⟩ := List.mem_filter.mp hr
    have d := of_decide_eq_true d
    obtain ⟨a, b, e, f⟩ := R.at_ r hr
    exact ⟨a, ((take_iff pw hm b).2).mpr (by omega), e, f⟩
  · have hc' := List.mem_of_mem_take hc
    obtain ⟨r, hr, rfl⟩ := R.all c hc'
    have lt := ((take_iff pw hm hc').2).mp hc
    refine ⟨r, List.mem_filter.mpr ⟨hr, decide_eq_true ?_⟩, rfl⟩
    exact Nat.lt_of_not_le fun z => by have := (R.unit hr mt).mp z; omega
theorem RestOk.hi {G : Nat} {ts0 us : List Nat} {rest : List (Nat × Nat)} {h mid : Nat} (R : RestOk G ts0 us rest) (pw : us.Pairwise (· < ·)) (sub : ∀ c ∈ us, c ∈ ts0) (hm : us[h]? = some mid) : RestOk G ts0 (us.drop h) (rest.filter fun r => decide (mid ≤ r.1)) := by
  have mt := sub _ (List.mem_of_getElem? hm)
  refine ⟨fun r hr => ?_, fun c hc => ?_⟩
  · obtain ⟨hr, d⟩ := List.mem_filter.mp hr
    have d := of_decide_eq_true d
    obtain ⟨a, b, e, f⟩ := R.at_ r hr
    exact ⟨a, ((take_iff pw hm b).1).mpr ((R.unit hr mt).mp d), e, f⟩
  · have hc' := List.mem_of_mem_drop hc
    obtain ⟨r, hr, rfl⟩ := R.all c hc'
    exact ⟨r, List.mem_filter.mpr ⟨hr, decide_eq_true ((R.unit hr mt).mpr (((take_iff pw hm hc').1).mp hc))⟩, rfl⟩
theorem RestOk.ne {G : Nat} {ts0 us : List Nat} {rest : List (Nat × Nat)} (R : RestOk G ts0 us rest) (ne : us ≠ []) : rest ≠ [] := by
  cases us with
  | nil => exact absurd rfl ne
  | cons u us =>
    obtain ⟨r, hr, _⟩ := R.all u List.mem_cons_self
    exact List.ne_nil_of_mem hr

def sp__law_within (K : PySem.W.Frag) : Sp := fun vs H Q _ => ∃ i a b : Int, vs = [.int i, .int a, .int b] ∧ a ≤ i ∧ i ≤ b ∧ Q (.bl true) H
theorem ar__law_within (K : PySem.W.Frag) : ∀ vs H Q E, sp__law_within K vs H Q E → vs.length = 3 := by
  intro vs H Q E h
  obtain ⟨i, a, b, rfl, _⟩ := h
  rfl
abbrev N__law_within : List Str := ["_law_thing", "_law_low", "_law_high"]
theorem sc__law_within : FnScope N__law_within ["_law_thing", "_law_low", "_law_high"] (defScope S__law_within) := ⟨rfl, rfl, rfl, by decide +kernel, rfl, by decide +kernel, by decide +kernel⟩
theorem ok__law_within {P : Program} {w : World} {K : PySem.W.Frag} {mg : Str → Option Value} {base : Heap} {f : Addr} {fd : FuncData} (F : Fun K "_law_within" "_law_within" S__law_within f fd) {f__law_whole : Addr} {fd__law_whole : FuncData} (C__law_whole : Cal P w K mg base "_law_whole" 1 f__law_whole fd__law_whole ["_law_thing"] (sp__law_whole K)) :
    FnG P w K mg base CX0 2 f fd ["_law_thing", "_law_low", "_law_high"] (sp__law_within K) := by
  refine Fun_okG F sc__law_within (ar__law_within K) (fun cdv A outer s H vs Q E hg hr h => ?_)
  obtain ⟨i, a, b, rfl, h1, h2, q⟩ := h
  refine ⟨_, (pss_one (ps_ret (pe_and (pe_c C__law_whole hg (hr.mono (by decide)) rfl (pa_cons (pv 0) pa_nil)) (pe_one (pe_chain op_le op_le (pv 1) (pv 0) (pv 2)))))), ?_⟩
  walk_at "rd_6"
  refine ⟨i, rfl, ?_⟩
  walk_at "rd_6"
  refine iteT ?_
  walk_at "rd_6"
  rw [decide_eq_true h1]
  refine iteT ?_
  walk_at "rd_6"
  rw [decide_eq_true h2]
  exact q
def leV (u : Nat) : V → Bool
  | .int n => decide (n ≤ (u : Int))
  | _ => false
def sp__law_cell_of (K : PySem.W.Frag) : Sp := fun vs H Q _ => ∃ (u : Nat) (l : Addr) (ts : List Nat), vs = [.int (u : Int), .ref l] ∧ H l = some (.lst (ts.map nV)) ∧ ts.length ≤ 73 ∧ 0 ∈ ts ∧ ∀ (c : Nat) J, Same H J → c ∈ ts → c ≤ u → (∀ w ∈ ts, w ≤ u → w ≤ c) → Q (.int (c : Int)) J
theorem ar__law_cell_of (K : PySem.W.Frag) : ∀ vs H Q E, sp__law_cell_of K vs H Q E → vs.length = 2 := by
  intro vs H Q E h
  obtain ⟨u, l, ts, rfl, _⟩ := h
  rfl
abbrev N__law_cell_of : List Str := ["_law_unit", "_law_points_here", "_law_one"]
theorem sc__law_cell_of : FnScope N__law_cell_of ["_law_unit", "_law_points_here"] (defScope S__law_cell_of) := ⟨rfl, rfl, rfl, by decide +kernel, rfl, by decide +kernel, by decide +kernel⟩
theorem ok__law_cell_of {P : Program} {w : World} {K : PySem.W.Frag} {mg : Str → Option Value} {base : Heap} {f : Addr} {fd : FuncData} (F : Fun K "_law_cell_of" "_law_cell_of" S__law_cell_of f fd) (m_max : mg "max" = none) :
    FnG P w K mg base CX0 1 f fd ["_law_unit", "_law_points_here"] (sp__law_cell_of K) := by
  refine Fun_okG F sc__law_cell_of (ar__law_cell_of K) (fun cdv A outer s H vs Q E hg hr h => ?_)
  obtain ⟨u, l, ts, rfl, hl, l73, h0, q⟩ := h
  refine ⟨_, (pss_one (ps_ret (pe_callB (id := "max") (maxIK (K := K) rfl rfl) (by rfl) m_max (by decide +kernel) (pa_cons (pe_lc (own := [("_law_one", 2)]) rfl sc__law_cell_of.nd (piL (K := K) rfl (pv 1)) (blkOk_by (own := [("_law_one", 2)]) (N := N__law_cell_of) (sc := defScope S__law_cell_of) (by decide +kernel)) (fun _ _ _ _ _ => (pg_name (i := 2) sc__law_cell_of.nd rfl (Or.inl rfl))) (fun _ _ _ _ _ => (pts_one (pt_cmpR op_le (pv 2) (pv 0) (nomark _)))) (fun _ _ _ _ _ => (pv 2))) pa_nil)))), ?_⟩
  walk_at "rd_6"
  intro D nD
  refine lc_filtL (leV u) hl (by rw [List.length_map]; omega) nD (fun x hx l R r => ?_) (fun x hx l R r => ?_) ?_
  · obtain ⟨n, _, rfl⟩ := List.mem_map.mp hx
    simp only [nV]
    walk_at "rd_6"
    rw [show decide ((n : Int) ≤ (u : Int)) = leV u (nV n) by unfold leV nV; rfl]
    exact r
  · walk_at "rd_6"
    exact r
  · have e : (ts.map nV).filter (leV u) = ((ts.filter fun n => decide (n ≤ u)).map fun n => ((n : Nat) : Int)).map V.int := by
      rw [List.map_map]
      clear hl l73 h0 q
      induction ts with
      | nil => rfl
      | cons a as ih =>
        rw [List.map_cons, List.filter_cons, List.filter_cons, ih]
        have k : leV u (nV a) = decide (a ≤ u) := by
          unfold leV nV
          exact decide_eq_decide.mpr (by omega)
        rw [k]
        cases decide (a ≤ u) <;> rfl
    obtain ⟨c, hc, le, most⟩ := cell_of (ts := ts) u h0
    walk_at "rd_6"
    rw [e]
    refine rd_maxI (m := (c : Int)) (SqL.of upd_same) (List.mem_map.mpr ⟨c, List.mem_filter.mpr ⟨hc, decide_eq_true le⟩, rfl⟩) (fun y hy => ?_) (q c _ (same_new nD) hc le most)
    obtain ⟨n, hn, rfl⟩ := List.mem_map.mp hy
    obtain ⟨h1, h2⟩ := List.mem_filter.mp hn
    have := most n h1 (of_decide_eq_true h2)
    omega

/-! ### a tree as data -/
def trD : Tr → PyData
  | .sure => .tuple [.str "sure"]
  | .ask d n a b => .tuple [.str "ask", .int (d : Int), .int (n : Int), trD a, trD b]
theorem TrAt.dp {K : PySem.W.Frag} {J : Hp} : ∀ {v : V} {t : Tr}, TrAt J v t → Dp K J v (trD t)
  | _, _, .sure h => .tup (SqT.of h) (.cons (.str _) .nil)
  | _, _, .ask h a b => .tup (SqT.of h) (.cons (.str _) (.cons (.int _) (.cons (.int _) (.cons a.dp (.cons b.dp .nil)))))
theorem ok_sure : PyData.strOk "sure" = true := by decide +kernel
theorem ok_ask : PyData.strOk "ask" = true := by decide +kernel
theorem tr_lay : ∀ t : Tr, (trD t).canLay0 = true ∧ (trD t).depth ≤ depT t + 1
  | .sure => by
    unfold trD depT
    simp [PyData.canLay0, PyData.canLayAll0, PyData.depth, PyData.depthAll, ok_sure]
  | .ask d n a b => by
    obtain ⟨a1, a2⟩ := tr_lay a
    obtain ⟨b1, b2⟩ := tr_lay b
    unfold trD depT
    refine ⟨by simp [PyData.canLay0, PyData.canLayAll0, a1, b1, ok_ask], ?_⟩
    simp only [PyData.depth, PyData.depthAll]
    omega
theorem tr_shaped {t : Tr} (h : depT t ≤ 60) : SeqAt.shaped (trD t) = true := by
  obtain ⟨a, b⟩ := tr_lay t
  have z : (trD t).depth ≤ 64 := by omega
  simp [SeqAt.shaped, a, z]
theorem ask_sure {d n : Nat} {a b : Tr} : PyData.eqv (trD (.ask d n a b)) (trD .sure) = false := by
  simp [trD, PyData.eqv, PyData.eqvAll]
theorem sure_shaped : SeqAt.shaped (.tuple [.str "sure"]) = true := tr_shaped (t := .sure) (by decide)
/-- a node of the tree of these cells, the cuts left within them -/
structure Node (G : Nat) (es : List Ent) (last : Nat) (ts0 us : List Nat) (dof : Nat → Nat) (rest : List (Nat × Nat)) : Prop where
  pw : us.Pairwise (· < ·)
  ne : us ≠ []
  sub : ∀ c ∈ us, c ∈ ts0
  dof : ∀ c ∈ us, dof c ≤ last ∧ ptE G es (dof c) = c
  ok : RestOk G ts0 us rest
  len : rest.length ≤ 73
def spr__law_asks : Nat → PySem.W.Frag → Sp
  | 0, _ => fun _ _ _ _ => False
  | n + 1, K => fun vs H Q _ => ∃ (l rl : Addr) (pl tv : V) (es : List Ent) (rs : List V) (rest : List (Nat × Nat)) (last G : Nat) (ts0 us : List Nat) (dof : Nat → Nat), vs = [.ref l, .ref rl, pl, .int (last : Int), tv] ∧ Led H l es G ∧ H rl = some (.lst rs) ∧ PrsAt H rs rest ∧ last ≤ 50 ∧ Node G es last ts0 us dof rest ∧ us.length ≤ 2 ^ n ∧ n ≤ 10 ∧ G = grN es ∧ es.length ≤ 10 ∧ TrAt H tv (treeN dof (n + 1) us) ∧
    ∀ J, Same H J → Q (.int (nb (us.length - 1) : Int)) J
abbrev sp__law_asks (K : PySem.W.Frag) : Sp := spr__law_asks 7 K
theorem arr__law_asks : ∀ (n : Nat) (K : PySem.W.Frag), ∀ vs H Q E, spr__law_asks n K vs H Q E → vs.length = 5
  | 0, _, _, _, _, _, h => h.elim
  | n + 1, K, vs, H, Q, E, h => by
    obtain ⟨l, rl, pl, tv, es, rs, rest, last, G, ts0, us, dof, rfl, _⟩ := h
    rfl
abbrev N__law_asks : List Str := ["_law_entries_here", "_law_rest", "_law_points_here", "_law_last", "_law_tree", "_law_unit", "_law_cell", "_law_grain_here", "_law_answers", "_law_low", "_law_high", "_law_number", "_law_found", "_law_at"]
theorem sc__law_asks : FnScope N__law_asks ["_law_entries_here", "_law_rest", "_law_points_here", "_law_last", "_law_tree"] (defScope S__law_asks) := ⟨rfl, rfl, rfl, by decide +kernel, rfl, by decide +kernel, by decide +kernel⟩
theorem st__law_asks {P : Program} {w : World} {K : PySem.W.Frag} {mg : Str → Option Value} {base : Heap} {f : Addr} {fd : FuncData} (F : Fun K "_law_asks" "_law_asks" S__law_asks f fd) {f__law_before : Addr} {fd__law_before : FuncData} (C__law_before : Cal P w K mg base "_law_before" 1 f__law_before fd__law_before ["_law_entries_here", "_law_day", "_law_grain_here"] (sp__law_before K)) {f__law_grain : Addr} {fd__law_grain : FuncData} (C__law_grain : Cal P w K mg base "_law_grain" 2 f__law_grain fd__law_grain ["_law_entries_here"] (sp__law_grain K)) {f__law_within : Addr} {fd__law_within : FuncData} (C__law_within : Cal P w K mg base "_law_within" 2 f__law_within fd__law_within ["_law_thing", "_law_low", "_law_high"] (sp__law_within K)) (m_max : mg "max" = none) (m_range : mg "range" = none) (m_len : mg "len" = none) (m_set : mg "set" = none) (m_isinstance : mg "isinstance" = none) (m_str : mg "str" = none) (m_tuple : mg "tuple" = none) {lv n : Nat} (C__law_asks : Cal P w K mg base "_law_asks" (lv + 4) f fd ["_law_entries_here", "_law_rest", "_law_points_here", "_law_last", "_law_tree"] (spr__law_asks n K)) :
    FnG P w K mg base CX0 (lv + 4 + 1) f fd ["_law_entries_here", "_law_rest", "_law_points_here", "_law_last", "_law_tree"] (spr__law_asks (n + 1) K) := by
  refine Fun_okG F sc__law_asks (arr__law_asks (n + 1) K) (fun cdv A outer s H vs Q E hg hr h => ?_)
  obtain ⟨l, rl, pl, tv, es, rs, rest, last, G, ts0, us, dof, rfl, L, hrl, P, l50, N, l2, n10, eG, l10, tr, q⟩ := h
  refine ⟨_, (pss_cons (ps_if (PW.pt (pw_or (pt_not (pt_val (pe_callB (id := "isinstance") (isiK (K := K) rfl) (by rfl) m_isinstance (by decide +kernel) (pa_cons (pv 4) (pa_cons (pe_bltn (v := V.ty "tuple") (u := Value.type "tuple") (by rfl) m_tuple (by decide +kernel) rfl) pa_nil))))) (pw_or (pt_cmpR op_eq (pe_callB (id := "len") (lenK (K := K) rfl) (by rfl) m_len (by decide +kernel) (pa_cons (pv 4) pa_nil)) pe_int (nomark _)) (pw_or1 (pt_not (pt_val (pe_callB (id := "isinstance") (isiK (K := K) rfl) (by rfl) m_isinstance (by decide +kernel) (pa_cons (pe_ix (ixK (K := K) rfl) (pv 4) pe_int (fun _ _ => rfl)) (pa_cons (pe_bltn (v := V.ty "str") (u := Value.type "str") (by rfl) m_str (by decide +kernel) rfl) pa_nil))))))))) (pss_one (ps_ret pe_non)) pss_nil)
    (pss_cons (ps_if (pt_cmpR (eqK (K := K) rfl (room_u hr)) (pv 4) (pe_tup (pa_cons pe_str pa_nil)) (nomark _)) (pss_one (ps_ret (pe_ifExp (pt_cmpR op_eq (pe_callB (id := "len") (lenSOK (w := w) rfl) (by rfl) m_len (by decide +kernel) (pa_cons (pe_callTy (T := "set") (setIK (w := w) (K := K) rfl rfl rfl) (by rfl) m_set (by decide +kernel) (pa_cons (pe_lc (own := [("_law_unit", 5), ("_law_cell", 6)]) (g := (gTup K 2 (gCons (gName 5) (gCons (gName 6) gNil)))) rfl sc__law_asks.nd (piL (K := K) rfl (pv 1)) (blkOk_by (own := [("_law_unit", 5), ("_law_cell", 6)]) (N := N__law_asks) (sc := defScope S__law_asks) (by decide +kernel)) (fun _ _ _ _ _ => (pgT rfl rfl (pgs_cons (pg_name (i := 5) sc__law_asks.nd rfl (Or.inl rfl)) (pgs_cons (pg_name (i := 6) sc__law_asks.nd rfl (Or.inl rfl)) pgs_nil)))) (fun _ _ _ _ _ => pts_nil) (fun _ _ _ _ _ => (pv 6))) pa_nil)) pa_nil)) pe_int (nomark _)) pe_int pe_non))) pss_nil)
    (pss_cons (ps_if (PW.pt (pw_or (pt_cmpR op_ne (pe_ix (ixK (K := K) rfl) (pv 4) pe_int (fun _ _ => rfl)) pe_str (nomark _)) (pw_or (pt_cmpR op_ne (pe_callB (id := "len") (lenK (K := K) rfl) (by rfl) m_len (by decide +kernel) (pa_cons (pv 4) pa_nil)) pe_int (nomark _)) (pw_or (pt_not (pt_val (pe_c C__law_within hg (hr.mono (by omega)) rfl (pa_cons (pe_ix (ixK (K := K) rfl) (pv 4) pe_int (fun _ _ => rfl)) (pa_cons pe_int (pa_cons (pv 3) pa_nil)))))) (pw_or1 (pt_not (pt_val (pe_c C__law_within hg (hr.mono (by omega)) rfl (pa_cons (pe_ix (ixK (K := K) rfl) (pv 4) pe_int (fun _ _ => rfl)) (pa_cons pe_int (pa_cons (pv 3) pa_nil))))))))))) (pss_one (ps_ret pe_non)) pss_nil)
    (pss_cons (ps_if (pt_cmpR op_gt (pe_op op_add (pe_ix (ixK (K := K) rfl) (pv 4) pe_int (fun _ _ => rfl)) (pe_ix (ixK (K := K) rfl) (pv 4) pe_int (fun _ _ => rfl))) (pv 3) (nomark _)) (pss_one (ps_ret pe_non)) pss_nil)
    (pss_cons (ps_asg (pe_tup (pa_cons (pe_c C__law_grain hg (hr.mono (by omega)) rfl (pa_cons (pv 0) pa_nil)) (pa_cons (pe_lst (pa_cons (pe_lst pa_nil) (pa_cons (pe_lst pa_nil) pa_nil))) pa_nil))) (pg_tup rfl (pgs_cons (pg_name (i := 7) sc__law_asks.nd rfl (Or.inl rfl)) (pgs_cons (pg_name (i := 8) sc__law_asks.nd rfl (Or.inr rfl)) pgs_nil))))
    (pss_cons (ps_par (i := 9) (j := 10) rfl sc__law_asks.nd rfl rfl (by decide) rfl rfl (pa_cons (pe_c C__law_before hg (hr.mono (by omega)) rfl (pa_cons (pv 0) (pa_cons (pe_ix (ixK (K := K) rfl) (pv 4) pe_int (fun _ _ => rfl)) (pa_cons (pv 7) pa_nil)))) (pa_cons (pe_c C__law_before hg (hr.mono (by omega)) rfl (pa_cons (pv 0) (pa_cons (pe_op op_add (pe_ix (ixK (K := K) rfl) (pv 4) pe_int (fun _ _ => rfl)) (pe_ix (ixK (K := K) rfl) (pv 4) pe_int (fun _ _ => rfl))) (pa_cons (pv 7) pa_nil)))) pa_nil)) (by rfl))
    (pss_cons (ps_for PassesOwn.never rfl (piL (K := K) rfl (pv 1)) (pgT (K := K) rfl rfl (pgs_cons (pg_name (i := 5) sc__law_asks.nd rfl (Or.inl rfl)) (pgs_cons (pg_name (i := 6) sc__law_asks.nd rfl (Or.inl rfl)) pgs_nil))) (pss_cons (ps_set (i := 11) sc__law_asks.nd rfl (Or.inl rfl) (pe_op op_sub (pe_op op_dv (pe_op op_add (pv 10) (pv 5)) (pv 7)) (pe_op op_dv (pe_op op_add (pv 9) (pv 5)) (pv 7))))
    (pss_one (ps_expr (pe_bm PySem.F.plainAttrs_list PySem.F.slot_list_append PySem.F.type_list_append mt_append (pe_ix (ixK (K := K) rfl) (pv 8) (pe_op op_sub (pv 11) (pe_op op_dv (pe_op op_sub (pv 10) (pv 9)) (pv 7))) (fun _ _ => rfl)) (pa_cons (pe_tup (pa_cons (pv 5) (pa_cons (pv 6) pa_nil))) pa_nil))))))
    (pss_cons (ps_if (pt_cmpR (inLK (K := K) rfl (room65 hr)) (pe_lst pa_nil) (pv 8) rfl) (pss_one (ps_ret pe_non)) pss_nil)
    (pss_cons (ps_setLc (i := 12) (own := [("_law_at", 13)]) rfl sc__law_asks.nd rfl rfl (sw_true rfl rfl rfl (by decide +kernel)) (pi_range1 rfl m_range (pa_cons pe_int pa_nil)) (blkOk_by (own := [("_law_at", 13)]) (N := N__law_asks) (sc := defScope S__law_asks) (by decide +kernel)) (fun _ _ _ _ _ => (pg_name (i := 13) sc__law_asks.nd rfl (Or.inl rfl))) (fun _ _ _ _ _ => pts_nil) (fun _ _ _ _ _ => (pe_c C__law_asks hg (hr.mono (Nat.le_refl _)) rfl (pa_cons (pv 0) (pa_cons (pe_ix (ixK (K := K) rfl) (pv 8) (pv 13) (fun _ _ => rfl)) (pa_cons (pv 2) (pa_cons (pv 3) (pa_cons (pe_ix (ixK (K := K) rfl) (pv 4) (pe_op op_add pe_int (pv 13)) (fun _ _ => rfl)) pa_nil))))))))
    (pss_one (ps_ret (pe_ifExp (pt_cmpR (inLK (K := K) rfl (room65 hr)) pe_non (pv 12) rfl) pe_non (pe_op op_add pe_int (pe_callB (id := "max") (maxIK (K := K) rfl rfl) (by rfl) m_max (by decide +kernel) (pa_cons (pv 12) pa_nil))))))))))))))), ?_⟩
  have dep := dep_tree dof n us l2
  have dn : depT (treeN dof (n + 1) us) ≤ 60 := by
    rw [dep]
    have := nb_mono (show us.length - 1 ≤ 2 ^ 10 by have := Nat.pow_le_pow_right (show 0 < 2 by decide) n10; omega)
    have e : nb (2 ^ 10) = 11 := by decide
    omega
  have sh := tr_shaped dn
  by_cases c1 : us.length ≤ 1
  · have et : treeN dof (n + 1) us = .sure := by
      unfold treeN
      rw [if_pos c1]
    rw [et] at tr
    cases tr with
    | sure ew =>
    walk_at "rd_6"
    refine iteF ?_
    walk_at "rd_6"
    refine iteF ?_
    walk_at "rd_6"
    refine iteF ?_
    walk_at "rd_6"
    rename_i z1 J1 n1 s1 e1
    refine rd_eqDs (d := trD .sure) (TrAt.sure (s1 _ _ ew)).dp (TrAt.sure e1).dp (by rw [et] at sh; exact sh) ?_
    walk_at "rd_6"
    refine iteT ?_
    walk_at "rd_6"
    intro D nD
    have hrl1 := s1 _ _ hrl
    have P1 : PrsAt J1 rs rest := P.mono fun p xs h => s1 _ _ h
    have lr := P.len
    refine lc_growL (fun ys J => ys = (rest.take ys.length).map fun r => nV r.2) hrl1 (by have := N.len; omega) nD (fun J k => rfl) (fun i x ys J hx i5 ly k hD hP => ?_) fun ys J ly k hD hP => ?_
    · obtain ⟨c, lo, hi, rfl, er, hc⟩ := P1.get hx
      have hc := k _ _ (ne_of_none hc nD) hc
      walk_at "rd_6"
      refine ⟨rfl, ?_⟩
      walk_at "rd_6"
      refine lcEnd_mk hD ly i5 k fun J4 p4 e4 => ?_
      rw [List.length_append, List.length_singleton, ly, List.take_add_one, er]
      rw [ly] at hP
      rw [List.map_append, ← hP]
      rfl
    rw [ly, lr, List.take_length] at hP
    subst hP
    have e1' : (rest.map fun r => nV r.2) = (rest.map fun r => ((r.2 : Nat) : Int)).map V.int := by rw [List.map_map]; rfl
    walk_at "rd_6"
    refine rd_setI (ns := rest.map fun r => ((r.2 : Nat) : Int)) (SqL.of hD) e1' (by rw [List.length_map]; have := N.len; omega) fun p2 J2 S2 m2 le2 mem2 n2 s2 e2 => ?_
    walk_at "rd_6"
    obtain ⟨u0, hu0⟩ : ∃ u0, us = [u0] := by
      cases hus : us with
      | nil => exact absurd hus N.ne
      | cons a as =>
        rw [hus] at c1
        have : as = [] := List.length_eq_zero_iff.mp (by simpa using c1)
        exact ⟨a, by rw [this]⟩
    refine rd_lenSO (ks := [(u0 : Int)]) e2 (by simp) (fun k => ?_) ?_
    · rw [mem2, List.mem_map, List.mem_singleton]
      constructor
      · rintro ⟨r, hr, rfl⟩
        have := (N.ok.at_ r hr).2.1
        rw [hu0] at this
        rw [List.mem_singleton.mp this]
      · rintro rfl
        obtain ⟨r, hr, e⟩ := N.ok.all u0 (by rw [hu0]; exact List.mem_cons_self)
        exact ⟨r, hr, by rw [e]⟩
    walk_at "rd_6"
    refine iteT ?_
    walk_at "rd_6"
    have := q J2 (Same.trans s1 (Same.trans (fun a o h => k a o (ne_of_none h nD) h) s2))
    rw [show us.length - 1 = 0 by omega] at this
    exact this
  · have le2 : 2 ≤ us.length := by omega
    obtain ⟨n', rfl⟩ : ∃ n', n = n' + 1 := ⟨n - 1, by
      rcases Nat.eq_zero_or_pos n with rfl | h
      · simp at l2
        omega
      · omega⟩
    have g0 := L.pos
    obtain ⟨lo, elo⟩ : ∃ lo, us[0]? = some lo := ⟨_, List.getElem?_eq_getElem (by omega)⟩
    obtain ⟨mid, emid⟩ : ∃ mid, us[us.length / 2]? = some mid := ⟨_, List.getElem?_eq_getElem (by omega)⟩
    have hlo := List.mem_of_getElem? elo
    have hmid := List.mem_of_getElem? emid
    have lt : lo < mid := by
      have := List.pairwise_iff_getElem.mp N.pw 0 (us.length / 2) (by omega) (by omega) (by omega)
      rw [(List.getElem?_eq_some_iff.mp elo).2, (List.getElem?_eq_some_iff.mp emid).2] at this
      exact this
    have e0 : us.getD 0 0 = lo := by rw [List.getD, elo]; rfl
    have eh : us.getD (us.length / 2) 0 = mid := by rw [List.getD, emid]; rfl
    obtain ⟨dl, pl0⟩ := N.dof lo hlo
    obtain ⟨dm, pm⟩ := N.dof mid hmid
    have dne : dof lo ≠ dof mid := fun z => by rw [z, pm] at pl0; omega
    have et : ∃ (a b : Nat) (t1 t2 : Tr) (us1 us2 : List Nat) (ix : Nat → Bool), a < b ∧ b ≤ last ∧ treeN dof (n' + 1 + 1) us = .ask a (b - a) (treeN dof (n' + 1) us1) (treeN dof (n' + 1) us2) ∧ Node G es last ts0 us1 dof (rest.filter fun r => !ix r.1) ∧ Node G es last ts0 us2 dof (rest.filter fun r => ix r.1) ∧ us1.length ≤ 2 ^ n' ∧ us2.length ≤ 2 ^ n' ∧ (∀ r ∈ rest, toldN G es ((r.1 : Nat) : Int) a (b - a) - (bS G es b - bS G es a).fdiv (G : Int) = if ix r.1 = true then 1 else 0) ∧ nb (us.length - 1) = 1 + max (nb (us1.length - 1)) (nb (us2.length - 1)) := by
      have ul : us.length / 2 < us.length := by omega
      have pw : 2 ^ (n' + 1) = 2 * 2 ^ n' := by rw [Nat.pow_succ]; omega
      have NL : Node G es last ts0 (us.take (us.length / 2)) dof (rest.filter fun r => decide (r.1 < mid)) :=
        ⟨N.pw.sublist (List.take_sublist _ _), fun z => by have := congrArg List.length z; rw [List.length_take, List.length_nil] at this; omega, fun c hc => N.sub c (List.mem_of_mem_take hc), fun c hc => N.dof c (List.mem_of_mem_take hc), N.ok.lo N.pw N.sub emid, Nat.le_trans (List.length_filter_le _ _) N.len⟩
      have NH : Node G es last ts0 (us.drop (us.length / 2)) dof (rest.filter fun r => decide (mid ≤ r.1)) :=
        ⟨N.pw.sublist (List.drop_sublist _ _), fun z => by have := congrArg List.length z; rw [List.length_drop, List.length_nil] at this; omega, fun c hc => N.sub c (List.mem_of_mem_drop hc), fun c hc => N.dof c (List.mem_of_mem_drop hc), N.ok.hi N.pw N.sub emid, Nat.le_trans (List.length_filter_le _ _) N.len⟩
      have lL : (us.take (us.length / 2)).length = us.length / 2 := by rw [List.length_take]; omega
      have lH : (us.drop (us.length / 2)).length = us.length - us.length / 2 := List.length_drop
      have ebb := nb_half (show 0 < us.length - 1 by omega)
      rw [show (us.length - 1) / 2 = us.length - us.length / 2 - 1 by omega] at ebb
      have mo := nb_mono (show us.length / 2 - 1 ≤ us.length - us.length / 2 - 1 by omega)
      have lo1 : ∀ r ∈ rest, lo ≤ r.1 := fun r hr => Nat.le_trans (asc_le N.pw elo _ (N.ok.at_ r hr).2.1) (N.ok.at_ r hr).2.2.1
      rcases Nat.lt_or_ge (dof lo) (dof mid) with c | c
      · refine ⟨dof lo, dof mid, .sure, .sure, us.take (us.length / 2), us.drop (us.length / 2), fun u => decide (mid ≤ u), c, dm, ?_, ?_, NH, by omega, by omega, fun r hr => ?_, by rw [lL, lH]; omega⟩
        · rw [treeN, if_neg c1, e0, eh, if_pos c]
        · have e : (fun r : Nat × Nat => !decide (mid ≤ r.1)) = fun r => decide (r.1 < mid) := funext fun r => by rw [Bool.eq_iff_iff]; simp
          rw [e]
          exact NL
        · rw [told_fw g0 (N.ok.at_ r hr).1 c pl0 pm lt (lo1 r hr)]
          by_cases k : mid ≤ r.1
          · rw [if_pos k, if_pos (decide_eq_true k)]
          · rw [if_neg k, if_neg (by simpa using k)]
      · have c : dof mid < dof lo := by omega
        refine ⟨dof mid, dof lo, .sure, .sure, us.drop (us.length / 2), us.take (us.length / 2), fun u => decide (u < mid), c, dl, ?_, ?_, NL, by omega, by omega, fun r hr => ?_, by rw [lL, lH]; omega⟩
        · rw [treeN, if_neg c1, e0, eh, if_neg (by omega)]
        · have e : (fun r : Nat × Nat => !decide (r.1 < mid)) = fun r => decide (mid ≤ r.1) := funext fun r => by rw [Bool.eq_iff_iff]; simp
          rw [e]
          exact NH
        · rw [told_bw g0 (N.ok.at_ r hr).1 c pm pl0 lt (lo1 r hr)]
          by_cases k : mid ≤ r.1
          · rw [if_pos k, if_neg (by simpa using k)]
          · rw [if_neg k, if_pos (decide_eq_true (by omega))]
    clear c1
    obtain ⟨a, b, t1, t2, us1, us2, ix, lab, bl, et, N1, N2, l21, l22, told, eb⟩ := et
    have lp := fun r hr => asc_le N.pw elo _ (N.ok.at_ r hr).2.1
    rw [et] at tr sh
    cases tr with
    | ask ew h1 h2 =>
    rename_i x1 x2
    walk_at "rd_6"
    refine iteF ?_
    walk_at "rd_6"
    refine iteF ?_
    walk_at "rd_6"
    refine iteF ?_
    walk_at "rd_6"
    rename_i z1 J1 n1 s1 e1
    have tr1 := (TrAt.ask (s1 _ _ ew) (h1.same s1) (h2.same s1))
    refine ⟨_, _, tr1.dp, (TrAt.sure e1).dp, sh, sure_shaped, ?_⟩
    rw [ask_sure]
    walk_at "rd_6"
    refine iteF ?_
    have ew1 := s1 _ _ ew
    walk_at "rd_6"
    refine iteF ?_
    walk_at "rd_6"
    refine iteF ?_
    walk_at "rd_6"
    refine ⟨(a : Int), 0, (last : Int), rfl, by omega, by omega, ?_⟩
    walk_at "rd_6"
    refine iteF ?_
    walk_at "rd_6"
    refine ⟨((b - a : Nat) : Int), 1, (last : Int), rfl, by omega, by omega, ?_⟩
    walk_at "rd_6"
    refine iteF ?_
    walk_at "rd_6"
    rw [decide_eq_false (show ¬ ((last : Int) < (a : Int) + ((b - a : Nat) : Int)) by omega)]
    refine iteF ?_
    walk_at "rd_6"
    have L1 := L.same s1
    obtain ⟨ews, hL, E1, fit, _, _, lws⟩ := id L1
    refine ⟨l, ews, es, rfl, hL, E1, lws, fun G' _ _ _ e' => ?_⟩
    rw [← eG] at e'
    rw [e']
    walk_at "rd_6"
    rename_i p0 J2 n2 s2 e2 p1 J3 n3 s3 e3 pa J4 n4 s4 e4 pt J5 n5 s5 e5
    have s15 := Same.trans s2 (Same.trans s3 (Same.trans s4 s5))
    refine ⟨l, es, a, G, rfl, L1.same s15, fun J6 s6 => ?_⟩
    have ew6 := s6 _ _ (s15 _ _ ew1)
    have L6 := (L1.same s15).same s6
    walk_at "rd_6"
    rw [show (a : Int) + ((b - a : Nat) : Int) = ((b : Nat) : Int) by omega]
    refine ⟨l, es, b, G, rfl, L6, fun J7 s7 => ?_⟩
    have s17 := Same.trans s15 (Same.trans s6 s7)
    have L7 := L6.same s7
    have e0' : J7 p0 = some (.lst []) := s7 _ _ (s6 _ _ (s5 _ _ (s4 _ _ (s3 _ _ e2))))
    have e1' : J7 p1 = some (.lst []) := s7 _ _ (s6 _ _ (s5 _ _ (s4 _ _ e3)))
    have ea7 : J7 pa = some (.lst [.ref p0, .ref p1]) := s7 _ _ (s6 _ _ (s5 _ _ e4))
    have h7 : J7 rl = some (.lst rs) := s17 _ _ (s1 _ _ hrl)
    have P7 : PrsAt J7 rs rest := P.mono fun p xs h => s17 _ _ (s1 _ _ h)
    have ew7 := s7 _ _ ew6
    have ne01 : p0 ≠ p1 := fun z => by rw [z, n3] at e2; cases e2
    have nl0 : l ≠ p0 := fun z => by rw [z] at hL; rw [n2] at hL; cases hL
    have nl1 : l ≠ p1 := fun z => by rw [z] at hL; have := s2 _ _ hL; rw [n3] at this; cases this
    have hr1 := s1 _ _ hrl
    have nr0 : rl ≠ p0 := fun z => by rw [z, n2] at hr1; cases hr1
    have nr1 : rl ≠ p1 := fun z => by rw [z] at hr1; have := s2 _ _ hr1; rw [n3] at this; cases this
    have na0 : pa ≠ p0 := fun z => by rw [z] at n4; have := s3 _ _ e2; rw [n4] at this; cases this
    have na1 : pa ≠ p1 := fun z => by rw [← z, n4] at e3; cases e3
    have n0H : H p0 = none := Same.free s1 n2
    have n1H : H p1 = none := Same.free s1 (Same.free s2 n3)
    have sH7 := Same.trans s1 s17
    walk_at "rd_6"
    refine lp_lst (xs := rs) (fun i σ' M => (∃ (o5 o6 o11 o12 o13 : Option V), σ' = [some (.ref l), some (.ref rl), some pl, some (.int (last : Int)), some (.ref _), o5, o6, some (.int (G : Int)), some (.ref pa), some (.int (bS G es a)), some (.int (bS G es b)), o11, o12, o13]) ∧ (∀ q o, q ≠ p0 → q ≠ p1 → J7 q = some o → M q = some o) ∧
      ∃ ys0 ys1, M p0 = some (.lst ys0) ∧ M p1 = some (.lst ys1) ∧ PrsAt M ys0 ((rest.take i).filter fun r => !ix r.1) ∧ PrsAt M ys1 ((rest.take i).filter fun r => ix r.1))
      ⟨⟨none, none, none, none, none, rfl⟩, fun q o _ _ h => h, [], [], e0', e1', by rw [List.take_zero]; exact .nil, by rw [List.take_zero]; exact .nil⟩ (fun i σ M _ w => ?_) (fun i r σ M hr w => ?_) (fun σ M w => ?_)
    · exact SqL.of (w.2.1 _ _ nr0 nr1 h7)
    · obtain ⟨⟨o5, o6, o11, o12, o13, rfl⟩, kM, ys0, ys1, m0, m1, Q0, Q1⟩ := w
      obtain ⟨c, u, cl, rfl, er, hc⟩ := P7.get hr
      have hc := kM c _ (fun z => by rw [z, e0'] at hc; cases hc) (fun z => by rw [z, e1'] at hc; cases hc) hc
      have haM := kM pa _ na0 na1 ea7
      have bG : Bd 500 (G : Int) := L.lt
      have gz : (G : Int) ≠ 0 := by omega
      walk_at "rd_6"
      refine rd_I (rd_dvB _ gz bG) ?_
      walk_at "rd_6"
      refine rd_I (rd_dvB _ gz bG) ?_
      walk_at "rd_6"
      refine rd_I (rd_dvB _ gz bG) ?_
      walk_at "rd_6"
      have tl := told (u, cl) (List.mem_of_getElem? er)
      unfold toldN at tl
      rw [show a + (b - a) = b by omega] at tl
      rw [show (bS G es b + (u : Int)).fdiv (G : Int) - (bS G es a + (u : Int)).fdiv (G : Int) - (bS G es b - bS G es a).fdiv (G : Int) = if ix u = true then 1 else 0 from tl]
      have ti : rest.take (i + 1) = rest.take i ++ [(u, cl)] := by rw [List.take_add_one, er]; rfl
      have lt_ : (rest.take i).length ≤ 73 := by rw [List.length_take]; have := N.len; omega
      have l0 : ys0.length ≤ 1000 := by rw [Q0.len]; exact Nat.le_trans (List.length_filter_le _ _) (by omega)
      have l1 : ys1.length ≤ 1000 := by rw [Q1.len]; exact Nat.le_trans (List.length_filter_le _ _) (by omega)
      cases hx : ix u with
      | false =>
        rw [if_neg (by exact Bool.noConfusion)]
        refine rd_sxL (SqL.of haM) (atI_nat (xs := [V.ref p0, V.ref p1]) (j := 0) rfl) ?_
        refine rd_tyl m0 ?_
        walk_at "rd_6"
        rename_i pq M2 nM sM eM
        refine rd_appK (sM _ _ m0) l0 fun M3 pu eM3 => ?_
        refine ⟨⟨_, _, _, _, _, rfl⟩, fun q o nq0 nq1 h => pu.1 q o nq0 (sM _ _ (kM q o nq0 nq1 h)), _, ys1, eM3, pu.1 _ _ ne01.symm (sM _ _ m1), ?_, ?_⟩
        · rw [ti, List.filter_append, List.filter_cons_of_pos (by rw [hx]; rfl)]
          exact (Q0.mono fun p xs h => pu.tup (sM _ _ h)).app (.cons (pu.tup eM) .nil)
        · rw [ti, List.filter_append, List.filter_cons_of_neg (by rw [hx]; exact Bool.noConfusion), List.filter_nil, List.append_nil]
          exact Q1.mono fun p xs h => pu.tup (sM _ _ h)
      | true =>
        rw [if_pos rfl]
        refine rd_sxL (SqL.of haM) (atI_nat (xs := [V.ref p0, V.ref p1]) (j := 1) rfl) ?_
        refine rd_tyl m1 ?_
        walk_at "rd_6"
        rename_i pq M2 nM sM eM
        refine rd_appK (sM _ _ m1) l1 fun M3 pu eM3 => ?_
        refine ⟨⟨_, _, _, _, _, rfl⟩, fun q o nq0 nq1 h => pu.1 q o nq1 (sM _ _ (kM q o nq0 nq1 h)), ys0, _, pu.1 _ _ ne01 (sM _ _ m0), eM3, ?_, ?_⟩
        · rw [ti, List.filter_append, List.filter_cons_of_neg (by rw [hx]; exact Bool.noConfusion), List.filter_nil, List.append_nil]
          exact Q0.mono fun p xs h => pu.tup (sM _ _ h)
        · rw [ti, List.filter_append, List.filter_cons_of_pos (by rw [hx])]
          exact (Q1.mono fun p xs h => pu.tup (sM _ _ h)).app (.cons (pu.tup eM) .nil)
    · obtain ⟨⟨o5, o6, o11, o12, o13, rfl⟩, kM, ys0, ys1, m0, m1, Q0, Q1⟩ := w
      rw [P.len, List.take_length] at Q0 Q1
      have sM : Same H M := fun q o h => kM q o (fun z => by rw [z, n0H] at h; cases h) (fun z => by rw [z, n1H] at h; cases h) (sH7 _ _ h)
      have haM := kM pa _ na0 na1 ea7
      have ewM := sM _ _ ew
      clear told kM ea7 P7 h7 ew7 e0' e1' s17 L7 L6 s6 s7 s15 ew6 e5 e4 e3 e2 s5 s4 s3 s2 tr1 ew1 e1 s1 hL E1 L1 hr1 lp
      walk_at "rd_6"
      rename_i pz M1 nz sz ez
      obtain ⟨ds0, dp0, ld0, cl0, dd0⟩ := PrsAt.dp (K := K) (Q0.mono fun p xs h => sz _ _ h)
      obtain ⟨ds1, dp1, ld1, cl1, dd1⟩ := PrsAt.dp (K := K) (Q1.mono fun p xs h => sz _ _ h)
      have ln0 : 0 < ds0.length := by rw [ld0, Q0.len]; exact List.length_pos_iff.mpr (N1.ok.ne N1.ne)
      have ln1 : 0 < ds1.length := by rw [ld1, Q1.len]; exact List.length_pos_iff.mpr (N2.ok.ne N2.ne)
      refine ⟨.list [], [.list ds0, .list ds1], .lst (SqL.of ez) .nil, .lst (SqL.of (sz _ _ haM)) (.cons (.lst (SqL.of (sz _ _ m0)) dp0) (.cons (.lst (SqL.of (sz _ _ m1)) dp1) .nil)), rfl, ?_, ?_⟩
      · have e : PyData.depthAll [PyData.list ds0, PyData.list ds1] + 1 ≤ 64 := by
          simp only [PyData.depthAll, PyData.depth]
          omega
        simp [SeqAt.shaped, PyData.canLay0, PyData.canLayAll0, PyData.depth, cl0, cl1, e]
      have an : ([PyData.list ds0, PyData.list ds1].any fun z => PyData.eqv z (.list [])) = false := by
        cases ds0 with
        | nil => cases ln0
        | cons a0 as0 =>
          cases ds1 with
          | nil => cases ln1
          | cons a1 as1 => simp [PyData.eqv, PyData.eqvAll]
      rw [an]
      walk_at "rd_6"
      refine iteF ?_
      clear dp0 dp1 cl0 cl1 dd0 dd1 ld0 ld1 an ln0 ln1
      walk_at "rd_6"
      intro D nD
      have L1 := (L.same sM).same sz
      refine lc_growR (fun ys _ => ys = ([nb (us1.length - 1), nb (us2.length - 1)].take ys.length).map nV) (n := 2) (by omega) nD (fun J k => rfl) (fun i ys J hi ly k hD w => ?_) fun ys J ly k hD w => ?_
      · have s1J : Same M1 J := fun q o h => k q o (ne_of_none h nD) h
        have sJ : Same H J := Same.trans sM (Same.trans sz s1J)
        have hi2 : i = 0 ∨ i = 1 := by omega
        have w' : ys = ([nb (us1.length - 1), nb (us2.length - 1)].take i).map nV := by rw [ly] at w; exact w
        have haJ := s1J _ _ (sz _ _ haM)
        have ewJ := s1J _ _ (sz _ _ ewM)
        rcases hi2 with rfl | rfl
        · walk_at "rd_6"
          refine ⟨rfl, ?_⟩
          walk_at "rd_6"
          refine ⟨l, p0, pl, x1, es, ys0, _, last, G, ts0, us1, dof, rfl, L1.same s1J, s1J _ _ (sz _ _ m0), Q0.mono fun p xs h => s1J _ _ (sz _ _ h), l50, N1, l21, by omega, eG, l10, h1.same sJ, fun J2 s2 => ?_⟩
          refine lcEnd_mk (s2 _ _ hD) ly (by omega) (k.trans (Kp.of s2)) fun J4 p4 e4 => ?_
          rw [w']
          rfl
        · walk_at "rd_6"
          refine ⟨rfl, ?_⟩
          walk_at "rd_6"
          refine ⟨l, p1, pl, x2, es, ys1, _, last, G, ts0, us2, dof, rfl, L1.same s1J, s1J _ _ (sz _ _ m1), Q1.mono fun p xs h => s1J _ _ (sz _ _ h), l50, N2, l22, by omega, eG, l10, h2.same sJ, fun J2 s2 => ?_⟩
          refine lcEnd_mk (s2 _ _ hD) ly (by omega) (k.trans (Kp.of s2)) fun J4 p4 e4 => ?_
          rw [w']
          rfl
      · rw [ly] at w
        subst w
        have hD' : J D = some (.lst (([((nb (us1.length - 1) : Nat) : Int), ((nb (us2.length - 1) : Nat) : Int)]).map V.int)) := hD
        walk_at "rd_6"
        refine ⟨.none, [.int _, .int _], .non, .lst (SqL.of hD') (.cons (.int _) (.cons (.int _) .nil)), rfl, by rfl, ?_⟩
        walk_at "rd_6"
        refine iteF ?_
        walk_at "rd_6"
        have mx : ((max (nb (us1.length - 1)) (nb (us2.length - 1)) : Nat) : Int) ∈ [((nb (us1.length - 1) : Nat) : Int), ((nb (us2.length - 1) : Nat) : Int)] := by
          rw [List.mem_cons, List.mem_singleton]
          omega
        refine rd_maxI (SqL.of hD') mx (fun y hy => ?_) ?_
        · rw [List.mem_cons, List.mem_singleton] at hy
          omega
        walk_at "rd_6"
        have := q J (Same.trans sM (Same.trans sz fun q o h => k q o (ne_of_none h nD) h))
        rw [eb] at this
        exact this
theorem ok__law_asks {P : Program} {w : World} {K : PySem.W.Frag} {mg : Str → Option Value} {base : Heap} {f : Addr} {fd : FuncData} (F : Fun K "_law_asks" "_law_asks" S__law_asks f fd) {f__law_before : Addr} {fd__law_before : FuncData} (C__law_before : Cal P w K mg base "_law_before" 1 f__law_before fd__law_before ["_law_entries_here", "_law_day", "_law_grain_here"] (sp__law_before K)) {f__law_grain : Addr} {fd__law_grain : FuncData} (C__law_grain : Cal P w K mg base "_law_grain" 2 f__law_grain fd__law_grain ["_law_entries_here"] (sp__law_grain K)) {f__law_within : Addr} {fd__law_within : FuncData} (C__law_within : Cal P w K mg base "_law_within" 2 f__law_within fd__law_within ["_law_thing", "_law_low", "_law_high"] (sp__law_within K)) (m_max : mg "max" = none) (m_range : mg "range" = none) (m_len : mg "len" = none) (m_set : mg "set" = none) (m_isinstance : mg "isinstance" = none) (m_str : mg "str" = none) (m_tuple : mg "tuple" = none) (b : Binds K fd ["_law_entries_here", "_law_rest", "_law_points_here", "_law_last", "_law_tree"] []) (kp : PySem.W.keepIn K (.ref f) = true) (mm : mg "_law_asks" = some (.ref f)) :
    FnG P w K mg base CX0 11 f fd ["_law_entries_here", "_law_rest", "_law_points_here", "_law_last", "_law_tree"] (sp__law_asks K) := by
  have all : ∀ n, FnG P w K mg base CX0 (n + 4) f fd ["_law_entries_here", "_law_rest", "_law_points_here", "_law_last", "_law_tree"] (spr__law_asks n K) := fun n => by
    induction n with
    | zero => exact ⟨fun _ _ _ _ h => h.elim, fun _ _ _ _ _ _ _ _ _ _ _ _ _ _ h => h.elim⟩
    | succ n ih => rw [Nat.add_right_comm]; exact st__law_asks F C__law_before C__law_grain C__law_within m_max m_range m_len m_set m_isinstance m_str m_tuple ⟨ih, b, kp, mm⟩
  exact all 7

section
variable {G : Nat} {es : List Ent}
theorem max_le76 {L : List Nat} (h : 0 ∈ L) : ∀ v : Nat, ∃ p ∈ L, p ≤ v ∧ ∀ q ∈ L, q ≤ v → q ≤ p
  | 0 => ⟨0, h, Nat.le_refl _, fun q _ z => z⟩
  | v + 1 => by
    by_cases c : v + 1 ∈ L
    · exact ⟨v + 1, c, Nat.le_refl _, fun q _ z => z⟩
    · obtain ⟨p, hp, pv, mx⟩ := max_le76 h v
      refine ⟨p, hp, by omega, fun q hq z => mx q hq ?_⟩
      rcases Nat.lt_or_eq_of_le z with z | rfl
      · omega
      · exact absurd hq c
theorem ends_mem76 {ss : List Stm} {s : Stm} (h : s ∈ ss) : s.first ∈ endsL (ss.map stP) ∧ s.first + s.many ∈ endsL (ss.map stP) := by
  unfold endsL
  refine ⟨List.mem_flatMap.mpr ⟨stP s, List.mem_map_of_mem h, ?_⟩, List.mem_flatMap.mpr ⟨stP s, List.mem_map_of_mem h, ?_⟩⟩
  · exact List.mem_cons_self
  · exact List.mem_cons_of_mem _ List.mem_cons_self
theorem pts_tell76 {ss : List Stm} {ds ps : List Nat} (g0 : 0 < G) (P : Pts G es (ds ++ endsL (ss.map stP)) ps) {v : Nat} (hv : v < G) : ∃ p ∈ ps, p ≤ v ∧ (∀ q ∈ ps, q ≤ v → q ≤ p) ∧ ∀ s ∈ ss, tellF G es s.first s.many s.num p = tellF G es s.first s.many s.num v := by
  obtain ⟨p, hp, pv, mx⟩ := max_le76 ((P.2.1 0).mpr (.inl rfl)) v
  refine ⟨p, hp, pv, mx, fun s hs => ?_⟩
  have st : ∀ d ∈ endsL (ss.map stP), stepU G (bS G es d) p = stepU G (bS G es d) v := fun d hd => by
    have m := mx _ ((P.2.1 _).mpr (.inr ⟨d, List.mem_append_right _ hd, rfl⟩))
    unfold stepU
    by_cases c : ptU G (bS G es d) ≤ v
    · have := m c
      by_cases c2 : 0 < ptU G (bS G es d)
      · rw [if_pos ⟨this, c2⟩, if_pos ⟨c, c2⟩]
      · rw [if_neg fun z => c2 z.2, if_neg fun z => c2 z.2]
    · rw [if_neg fun z => c (Nat.le_trans z.1 pv), if_neg fun z => c z.1]
  obtain ⟨e1, e2⟩ := ends_mem76 hs
  unfold tellF
  rw [told_step g0 (by omega), told_step g0 hv, st _ e1, st _ e2]
end
/-- the cells that are left, and the points that are left, each with its cell -/
theorem rest_ok {G : Nat} {es : List Ent} {ss : List Stm} {last : Nat} {ps qs ts : List Nat} (g0 : 0 < G) (asc : ps.Pairwise (· < ·)) (mem : ∀ p, p ∈ ps ↔ p = 0 ∨ ∃ d ∈ List.range (last + 1), p = ptU G (bS G es d))
    (Q : Pts G es (List.range (last + 1) ++ endsL (ss.map stP)) qs) (C : CellsE G es (okU G es ss) last ts) {cell : Nat → Nat} (hc : ∀ u, cell u ∈ ps ∧ cell u ≤ u ∧ ∀ w ∈ ps, w ≤ u → w ≤ cell u) :
    RestOk G ps ts ((qs.filter (okU G es ss)).map fun u => (u, cell u)) ∧ ∀ c ∈ ts, c ∈ ps ∧ lastD (ptE G es) (last + 1) c ≤ last ∧ ptE G es (lastD (ptE G es) (last + 1) c) = c := by
  have pt_lt : ∀ d, ptU G (bS G es d) < G := fun d => (ptU_eq g0 (bS G es d)).2
  have z0 : ptE G es 0 = 0 := by unfold ptE; rw [bS_zero, ptU_zero g0]
  have day : ∀ p, p ∈ ps ↔ ∃ d, d ≤ last ∧ p = ptE G es d := fun p => by
    rw [mem]
    constructor
    · rintro (rfl | ⟨d, hd, rfl⟩)
      · exact ⟨0, by omega, z0.symm⟩
      · exact ⟨d, Nat.le_of_lt_succ (List.mem_range.mp hd), rfl⟩
    · rintro ⟨d, hd, rfl⟩
      exact .inr ⟨d, List.mem_range.mpr (by omega), rfl⟩
  have sub : ∀ c ∈ ts, c ∈ ps := fun c h => (day c).mpr ((C.2.1 c).mp h).1
  have q_lt : ∀ q ∈ qs, q < G := fun q hq => by
    rcases (Q.2.1 q).mp hq with rfl | ⟨d, _, rfl⟩
    · exact g0
    · exact pt_lt d
  have ptl : ∀ c, c ∈ (List.range (last + 1)).map (ptE G es) ↔ c ∈ ps := fun c => by
    rw [day, List.mem_map]
    exact ⟨fun ⟨d, h, e⟩ => ⟨d, Nat.le_of_lt_succ (List.mem_range.mp h), e.symm⟩, fun ⟨d, h, e⟩ => ⟨d, List.mem_range.mpr (by omega), e.symm⟩⟩
  refine ⟨⟨fun r hr => ?_, fun c h => ?_⟩, fun c h => ?_⟩
  · obtain ⟨u, hu, rfl⟩ := List.mem_map.mp hr
    obtain ⟨hq, ok⟩ := List.mem_filter.mp hu
    obtain ⟨c1, c2, c3⟩ := hc u
    refine ⟨q_lt u hq, (C.2.1 _).mpr ⟨(day _).mp c1, cellB_iff.mpr ⟨u, q_lt u hq, c2, ok, fun w hw lw => c3 w ((ptl w).mp hw) lw⟩⟩, c2, c3⟩
  · obtain ⟨⟨d, hd, ed⟩, cb⟩ := (C.2.1 c).mp h
    obtain ⟨v, hv, cv, ok, most⟩ := cellB_iff.mp cb
    obtain ⟨p, hp, pv, mx, same⟩ := pts_tell76 g0 Q hv
    have okp : okU G es ss p = true := okU_iff.mpr fun s hs => by
      have e1 := same s hs
      have e2 := okU_iff.mp ok s hs
      unfold tellF at e1
      rw [decide_eq_true e2] at e1
      exact of_decide_eq_true e1
    have cq : c ∈ qs := (Q.2.1 c).mpr (.inr ⟨d, List.mem_append_left _ (List.mem_range.mpr (by omega)), ed⟩)
    have cp := mx c cq cv
    obtain ⟨c1, c2, c3⟩ := hc p
    refine ⟨(p, cell p), List.mem_map.mpr ⟨p, List.mem_filter.mpr ⟨hp, okp⟩, rfl⟩, Nat.le_antisymm ?_ ?_⟩
    · exact most _ ((ptl _).mpr c1) (by omega)
    · exact c3 c (sub c h) cp
  · obtain ⟨⟨d, hd, rfl⟩, _⟩ := (C.2.1 c).mp h
    obtain ⟨h1, h2⟩ := lastD_of (pt := ptE G es) (i := last + 1) (d := d) (by omega)
    exact ⟨sub _ h, by omega, h2⟩
def sp__law_plan_due (K : PySem.W.Frag) : Sp := fun vs H Q _ => ∃ (l sl pp : Addr) (es : List Ent) (sws : List V) (ss : List Stm) (last G : Nat) (tv : V) (ts : List Nat), vs = [.ref l, .ref sl, .ref pp] ∧ Led H l es G ∧ G = grN es ∧ es.length ≤ 10 ∧ H sl = some (.lst sws) ∧ StmsAt H sws ss ∧ sws.length ≤ 24 ∧ H pp = some (.tup [.int (last : Int), tv]) ∧ last ≤ 20 ∧
  (∃ u, u < G ∧ okU G es ss u = true) ∧ TrAt H tv (treeN (lastD (ptE G es) (last + 1)) 7 ts) ∧ CellsE G es (okU G es ss) last ts ∧ ∀ J, Same H J → Q (.bl true) J
theorem ar__law_plan_due (K : PySem.W.Frag) : ∀ vs H Q E, sp__law_plan_due K vs H Q E → vs.length = 3 := by
  intro vs H Q E h
  obtain ⟨l, sl, pp, es, sws, ss, last, G, tv, ts, rfl, _⟩ := h
  rfl
abbrev N__law_plan_due : List Str := ["_law_entries_here", "_law_statements", "_law_parts", "_law_last", "_law_tree", "_law_grain_here", "_law_points_here", "_law_rest", "_law_placed", "_law_unit", "_law_asks_here", "_law_cell"]
theorem sc__law_plan_due : FnScope N__law_plan_due ["_law_entries_here", "_law_statements", "_law_parts"] (defScope S__law_plan_due) := ⟨rfl, rfl, rfl, by decide +kernel, rfl, by decide +kernel, by decide +kernel⟩
theorem ok__law_plan_due {P : Program} {w : World} {K : PySem.W.Frag} {mg : Str → Option Value} {base : Heap} {f : Addr} {fd : FuncData} (F : Fun K "_law_plan_due" "_law_plan_due" S__law_plan_due f fd) {f__law_asks : Addr} {fd__law_asks : FuncData} (C__law_asks : Cal P w K mg base "_law_asks" 11 f__law_asks fd__law_asks ["_law_entries_here", "_law_rest", "_law_points_here", "_law_last", "_law_tree"] (sp__law_asks K)) {f__law_cell_of : Addr} {fd__law_cell_of : FuncData} (C__law_cell_of : Cal P w K mg base "_law_cell_of" 1 f__law_cell_of fd__law_cell_of ["_law_unit", "_law_points_here"] (sp__law_cell_of K)) {f__law_left : Addr} {fd__law_left : FuncData} (C__law_left : Cal P w K mg base "_law_left" 3 f__law_left fd__law_left ["_law_entries_here", "_law_statements", "_law_days", "_law_grain_here"] (sp__law_left K)) {f__law_points : Addr} {fd__law_points : FuncData} (C__law_points : Cal P w K mg base "_law_points" 2 f__law_points fd__law_points ["_law_entries_here", "_law_days", "_law_grain_here"] (sp__law_points K)) {f__law_grain : Addr} {fd__law_grain : FuncData} (C__law_grain : Cal P w K mg base "_law_grain" 2 f__law_grain fd__law_grain ["_law_entries_here"] (sp__law_grain K)) {f__law_within : Addr} {fd__law_within : FuncData} (C__law_within : Cal P w K mg base "_law_within" 2 f__law_within fd__law_within ["_law_thing", "_law_low", "_law_high"] (sp__law_within K)) (m_set : mg "set" = none) (m_len : mg "len" = none) (m_list : mg "list" = none) (m_range : mg "range" = none) :
    FnG P w K mg base CX0 12 f fd ["_law_entries_here", "_law_statements", "_law_parts"] (sp__law_plan_due K) := by
  refine Fun_okG F sc__law_plan_due (ar__law_plan_due K) (fun cdv A outer s H vs Q E hg hr h => ?_)
  obtain ⟨l, sl, pp, es, sws, ss, last, G, tv, ts, rfl, L, eG, l10, hs, st, lw, hp, l20, some_, tr, C, q⟩ := h
  refine ⟨_, (pss_cons (ps_asg (pv 2) (pg_tup rfl (pgs_cons (pg_name (i := 3) sc__law_plan_due.nd rfl (Or.inl rfl)) (pgs_cons (pg_name (i := 4) sc__law_plan_due.nd rfl (Or.inl rfl)) pgs_nil))))
    (pss_cons (ps_if (pt_not (pt_val (pe_c C__law_within hg (hr.mono (by decide)) rfl (pa_cons (pv 3) (pa_cons pe_int (pa_cons pe_int pa_nil)))))) (pss_one (ps_ret pe_bl)) pss_nil)
    (pss_cons (ps_set (i := 5) sc__law_plan_due.nd rfl (Or.inl rfl) (pe_c C__law_grain hg (hr.mono (by decide)) rfl (pa_cons (pv 0) pa_nil)))
    (pss_cons (ps_set (i := 6) sc__law_plan_due.nd rfl (Or.inr rfl) (pe_c C__law_points hg (hr.mono (by decide)) rfl (pa_cons (pv 0) (pa_cons (pe_listRg rfl (by rfl) m_list (prg_1 (by rfl) m_range (pe_op op_add (pv 3) pe_int))) (pa_cons (pv 5) pa_nil)))))
    (pss_cons (ps_set (i := 7) sc__law_plan_due.nd rfl (Or.inl rfl) (pe_c C__law_left hg (hr.mono (by decide)) rfl (pa_cons (pv 0) (pa_cons (pv 1) (pa_cons (pe_listRg rfl (by rfl) m_list (prg_1 (by rfl) m_range (pe_op op_add (pv 3) pe_int))) (pa_cons (pv 5) pa_nil))))))
    (pss_cons (ps_if (pt_cmpR (eqK (K := K) rfl (room_u hr)) (pv 7) (pe_lst pa_nil) (nomark _)) (pss_one (ps_ret pe_bl)) pss_nil)
    (pss_cons (ps_setLc (i := 8) (own := [("_law_unit", 9)]) rfl sc__law_plan_due.nd rfl rfl (sw_true rfl rfl rfl (by decide +kernel)) (piL (K := K) rfl (pv 7)) (blkOk_by (own := [("_law_unit", 9)]) (N := N__law_plan_due) (sc := defScope S__law_plan_due) (by decide +kernel)) (fun _ _ _ _ _ => (pg_name (i := 9) sc__law_plan_due.nd rfl (Or.inl rfl))) (fun _ _ _ _ _ => pts_nil) (fun _ _ _ _ _ => (pe_tup (pa_cons (pv 9) (pa_cons (pe_c C__law_cell_of hg (hr.mono (by decide)) rfl (pa_cons (pv 9) (pa_cons (pv 6) pa_nil))) pa_nil)))))
    (pss_cons (ps_set (i := 10) sc__law_plan_due.nd rfl (Or.inl rfl) (pe_c C__law_asks hg (hr.mono (by decide)) rfl (pa_cons (pv 0) (pa_cons (pv 8) (pa_cons (pv 6) (pa_cons (pv 3) (pa_cons (pv 4) pa_nil)))))))
    (pss_one (ps_ret (pe_and (pe_cmpR op_notN1 (pv 10) pe_non (nomark _)) (pe_one (pe_cmpR op_eq (pv 10) (pe_bits (pe_op op_sub (pe_callB (id := "len") (lenSOK (w := w) rfl) (by rfl) m_len (by decide +kernel) (pa_cons (pe_callTy (T := "set") (setIK (w := w) (K := K) rfl rfl rfl) (by rfl) m_set (by decide +kernel) (pa_cons (pe_lc (own := [("_law_unit", 9), ("_law_cell", 11)]) (g := (gTup K 2 (gCons (gName 9) (gCons (gName 11) gNil)))) rfl sc__law_plan_due.nd (piL (K := K) rfl (pv 8)) (blkOk_by (own := [("_law_unit", 9), ("_law_cell", 11)]) (N := N__law_plan_due) (sc := defScope S__law_plan_due) (by decide +kernel)) (fun _ _ _ _ _ => (pgT rfl rfl (pgs_cons (pg_name (i := 9) sc__law_plan_due.nd rfl (Or.inl rfl)) (pgs_cons (pg_name (i := 11) sc__law_plan_due.nd rfl (Or.inl rfl)) pgs_nil)))) (fun _ _ _ _ _ => pts_nil) (fun _ _ _ _ _ => (pv 11))) pa_nil)) pa_nil)) pe_int)) (nomark _)))))))))))))), ?_⟩
  have g0 := L.pos
  walk_at "rd_6"
  refine ⟨(last : Int), 0, 200, rfl, by omega, by omega, ?_⟩
  walk_at "rd_6"
  refine iteF ?_
  walk_at "rd_6"
  obtain ⟨ews, hL, E1, fit, _, _, lws⟩ := id L
  refine ⟨l, ews, es, rfl, hL, E1, lws, fun G' _ _ _ e' => ?_⟩
  rw [← eG] at e'
  rw [e']
  walk_at "rd_6"
  refine rd_lstRg ?_
  walk_at "rd_6"
  rw [show (last : Int) + 1 = ((last + 1 : Nat) : Int) by omega]
  refine ⟨RgOk.of_le (by decide) (by omega) (by decide) (by omega), fun pd nd => ?_⟩
  have sd : Same H (upd H pd (.lst (rgV 0 ((last + 1 : Nat) : Int)))) := same_new nd
  have ed : (upd H pd (.lst (rgV 0 ((last + 1 : Nat) : Int)))) pd = some (.lst ((List.range (last + 1)).map nV)) := by rw [upd_same, rgV_units, List.filter_eq_self.mpr fun _ _ => rfl]
  generalize upd H pd (.lst (rgV 0 ((last + 1 : Nat) : Int))) = H1 at sd ed ⊢
  walk_at "rd_6"
  refine ⟨l, pd, es, List.range (last + 1), G, rfl, L.same sd, ed, by rw [List.length_range]; omega, fun ps zp J2 s2 n2 e2 asc mem lps => ?_⟩
  have s12 := Same.trans sd s2
  walk_at "rd_6"
  refine rd_lstRg ?_
  walk_at "rd_6"
  rw [show (last : Int) + 1 = ((last + 1 : Nat) : Int) by omega]
  refine ⟨RgOk.of_le (by decide) (by omega) (by decide) (by omega), fun pd2 nd2 => ?_⟩
  have sd2 : Same J2 (upd J2 pd2 (.lst (rgV 0 ((last + 1 : Nat) : Int)))) := same_new nd2
  have ed2 : (upd J2 pd2 (.lst (rgV 0 ((last + 1 : Nat) : Int)))) pd2 = some (.lst ((List.range (last + 1)).map nV)) := by rw [upd_same, rgV_units, List.filter_eq_self.mpr fun _ _ => rfl]
  generalize upd J2 pd2 (.lst (rgV 0 ((last + 1 : Nat) : Int))) = J3 at sd2 ed2 ⊢
  have s13 := Same.trans s12 sd2
  walk_at "rd_6"
  refine ⟨l, sl, pd2, es, sws, ss, List.range (last + 1), G, rfl, L.same s13, s13 _ _ hs, st.mono fun p xs h => s13 _ _ h, lw, ed2, by rw [List.length_range]; omega, fun qs zq J4 s4 n4 pts e4 => ?_⟩
  have s14 := Same.trans s13 s4
  have q73 : (qs.filter (okU G es ss)).length ≤ 73 := Nat.le_trans (List.length_filter_le _ _) pts.2.2
  have ne : qs.filter (okU G es ss) ≠ [] := fun z => by
    obtain ⟨u, hu, ok⟩ := some_
    obtain ⟨p, hp, _, _, same⟩ := pts_tell76 g0 pts hu
    have : p ∈ qs.filter (okU G es ss) := List.mem_filter.mpr ⟨hp, okU_iff.mpr fun s hs => by
      have e1 := same s hs
      have e2 := okU_iff.mp ok s hs
      unfold tellF at e1
      rw [decide_eq_true e2] at e1
      exact of_decide_eq_true e1⟩
    rw [z] at this
    cases this
  generalize hR : qs.filter (okU G es ss) = R at *
  walk_at "rd_6"
  rename_i zn J5 n5 s5 e5
  have s15 := Same.trans s14 s5
  have ei : ∀ X : List Nat, X.map nV = (X.map fun u => ((u : Nat) : Int)).map V.int := fun X => by rw [List.map_map]; rfl
  have e45 := s5 _ _ e4
  refine rd_eqIs (ns := R.map fun u => ((u : Nat) : Int)) (ms := []) (SqL.of (by rw [← ei]; exact e45)) (SqL.of e5) ?_
  rw [decide_eq_false fun z => ne (List.map_eq_nil_iff.mp z)]
  walk_at "rd_6"
  refine iteF ?_
  have z0 : 0 ∈ ps := (mem 0).mpr (.inl rfl)
  have hce : ∀ u, ∃ c, c ∈ ps ∧ c ≤ u ∧ ∀ w ∈ ps, w ≤ u → w ≤ c := fun u => cell_of u z0
  obtain ⟨cell, hc⟩ : ∃ cell : Nat → Nat, ∀ u, cell u ∈ ps ∧ cell u ≤ u ∧ ∀ w ∈ ps, w ≤ u → w ≤ cell u := ⟨fun u => (hce u).choose, fun u => (hce u).choose_spec⟩
  have e25 := s5 _ _ (s4 _ _ (sd2 _ _ e2))
  walk_at "rd_6"
  intro D nD
  refine lc_growL (fun ys J => PrsAt J ys ((R.map fun u => (u, cell u)).take ys.length)) e45 (by rw [List.length_map]; omega) nD (fun J k => .nil) (fun i x ys J hx i5 ly k hD hP => ?_) fun ys J ly k hD hP => ?_
  · rw [List.getElem?_map] at hx
    obtain ⟨u, eu, rfl⟩ := Option.map_eq_some_iff.mp hx
    have s5J : Same J5 J := fun q o h => k q o (ne_of_none h nD) h
    simp only [nV]
    walk_at "rd_6"
    refine ⟨rfl, ?_⟩
    walk_at "rd_6"
    refine ⟨u, zp, ps, rfl, s5J _ _ e25, lps, z0, fun c J6 s6 c1 c2 c3 => ?_⟩
    obtain rfl : c = cell u := Nat.le_antisymm ((hc u).2.2 c c1 c2) (c3 _ (hc u).1 (hc u).2.1)
    walk_at "rd_6"
    rename_i pt J7 n7 s7 e7
    have s67 := Same.trans s6 s7
    refine lcEnd_mk (s67 _ _ hD) ly i5 (k.trans (Kp.of s67)) fun J8 p8 e8 => ?_
    have e : (R.map fun u => (u, cell u))[i]? = some (u, cell u) := by rw [List.getElem?_map, eu]; rfl
    rw [List.length_append, List.length_singleton, ly, List.take_add_one, e]
    rw [ly] at hP
    exact (hP.mono fun p xs h => p8.tup (s67 _ _ h)).app (.cons (p8.tup e7) .nil)
  rw [ly, List.length_map, ← List.length_map (f := fun u => (u, cell u)), List.take_length] at hP
  have s5J : Same J5 J := fun q o h => k q o (ne_of_none h nD) h
  have s1J := Same.trans s15 s5J
  obtain ⟨ok, tsd⟩ := rest_ok g0 asc mem pts C hc
  rw [hR] at ok
  have tne : ts ≠ [] := fun z => by
    obtain ⟨u, us, hu⟩ := List.exists_cons_of_ne_nil ne
    have := (ok.at_ (u, cell u) (List.mem_map.mpr ⟨u, by rw [hu]; exact List.mem_cons_self, rfl⟩)).2.1
    rw [z] at this
    cases this
  have N : Node G es last ps ts (lastD (ptE G es) (last + 1)) (R.map fun u => (u, cell u)) := ⟨C.1, tne, fun c h => (tsd c h).1, fun c h => (tsd c h).2, ok, by rw [List.length_map]; exact q73⟩
  walk_at "rd_6"
  refine ⟨l, D, .ref zp, tv, es, ys, _, last, G, ps, ts, _, rfl, L.same s1J, hD, hP, by omega, N, Nat.le_trans C.2.2 (Nat.le_trans (show last + 1 ≤ 64 by omega) (by decide)), (by decide : (6 : Nat) ≤ 10), eG, l10, tr.same s1J, fun J6 s6 => ?_⟩
  walk_at "rd_6"
  refine ⟨rfl, ?_⟩
  walk_at "rd_6"
  refine iteT ?_
  have s1K := Same.trans s1J s6
  have hP6 : PrsAt J6 ys (R.map fun u => (u, cell u)) := hP.mono fun p xs h => s6 _ _ h
  have hD6 := s6 _ _ hD
  have lr := hP6.len
  rw [List.length_map] at lr
  walk_at "rd_6"
  refine rd_bits ?_
  walk_at "rd_6"
  intro D2 nD2
  refine lc_growL (fun zs J => zs = ((R.map cell).take zs.length).map nV) hD6 (by omega) nD2 (fun J k => rfl) (fun i x zs J hx i5 ly k hD hP => ?_) fun zs J7 ly7 k7 hD7 hP7 => ?_
  · obtain ⟨c, u, cl, rfl, er, hc2⟩ := hP6.get hx
    have hc2 := k _ _ (ne_of_none hc2 nD2) hc2
    walk_at "rd_6"
    refine ⟨rfl, ?_⟩
    walk_at "rd_6"
    refine lcEnd_mk hD ly i5 k fun J4 p4 e4 => ?_
    rw [List.getElem?_map] at er
    obtain ⟨u', eu, e'⟩ := Option.map_eq_some_iff.mp er
    cases e'
    have e : (R.map cell)[i]? = some (cell u) := by rw [List.getElem?_map, eu]; rfl
    rw [List.length_append, List.length_singleton, ly, List.take_add_one, e]
    rw [ly] at hP
    rw [List.map_append, ← hP]
    rfl
  rw [ly7, lr, ← List.length_map (f := cell) (as := R), List.take_length] at hP7
  subst hP7
  walk_at "rd_6"
  refine rd_setI (ns := (R.map cell).map fun u => ((u : Nat) : Int)) (SqL.of hD7) (ei _) (by rw [List.length_map, List.length_map]; omega) fun p2 J8 S2 m2 le2 mem2 n2 s8 e8 => ?_
  walk_at "rd_6"
  have tpos : 0 < ts.length := List.length_pos_iff.mpr tne
  refine rd_lenSO (ks := ts.map fun u => ((u : Nat) : Int)) e8 ?_ (fun k => ?_) ?_
  · have pw := C.1
    refine List.pairwise_map.mpr (pw.imp fun {a b} h z => ?_)
    omega
  · rw [mem2, List.mem_map, List.mem_map]
    constructor
    · rintro ⟨c, hc2, rfl⟩
      obtain ⟨u, hu, rfl⟩ := List.mem_map.mp hc2
      exact ⟨cell u, (ok.at_ (u, cell u) (List.mem_map.mpr ⟨u, hu, rfl⟩)).2.1, rfl⟩
    · rintro ⟨c, hc2, rfl⟩
      obtain ⟨r, hr, e⟩ := ok.all c hc2
      obtain ⟨u, hu, rfl⟩ := List.mem_map.mp hr
      exact ⟨c, List.mem_map.mpr ⟨u, hu, e⟩, rfl⟩
  rw [List.length_map]
  walk_at "rd_6"
  rw [show ((ts.length : Nat) : Int) - 1 = ((ts.length - 1 : Nat) : Int) by omega, nb_bits, decide_eq_true rfl]
  exact q J8 (Same.trans s1K (Same.trans (fun q o h => k7 q o (ne_of_none h nD2) h) s8))

/-! ### the grain of entries: its facts -/
theorem grA_ok : ∀ (am : List (Int × Int)) (g : Nat), 0 < g → (∀ r ∈ am, 0 < r.2 ∧ Bd 20 r.2) → 0 < grA g am ∧ grA g am ≤ g * 2 ^ (20 * am.length) ∧ g ∣ grA g am ∧ Fits (grA g am) am
  | [], g, g0, _ => ⟨g0, by simp [grA], Nat.dvd_refl _, fun x hx => by cases hx⟩
  | r :: t, g, g0, h => by
    obtain ⟨r0, rb⟩ := h r List.mem_cons_self
    unfold Bd at rb
    have l0 : 0 < Nat.lcm g r.2.toNat := Nat.lcm_pos g0 (by omega)
    have ll : Nat.lcm g r.2.toNat ≤ g * 2 ^ 20 := Nat.le_trans (Nat.le_of_dvd (Nat.mul_pos g0 (by omega)) (Nat.lcm_dvd_mul _ _)) (Nat.mul_le_mul_left _ (by omega))
    obtain ⟨a, b, c, d⟩ := grA_ok t (Nat.lcm g r.2.toNat) l0 fun x hx => h x (List.mem_cons_of_mem _ hx)
    have e : grA g (r :: t) = grA (Nat.lcm g r.2.toNat) t := rfl
    rw [e]
    refine ⟨a, ?_, Nat.dvd_trans (Nat.dvd_lcm_left _ _) c, fun x hx => ?_⟩
    · refine Nat.le_trans b (Nat.le_trans (Nat.mul_le_mul_right _ ll) (Nat.le_of_eq ?_))
      rw [List.length_cons, Nat.mul_assoc, ← Nat.pow_add]
      congr 2
      omega
    · rcases List.mem_cons.mp hx with rfl | hx
      · refine ⟨r0, ?_⟩
        have z := Int.natCast_dvd_natCast.mpr (Nat.dvd_trans (Nat.dvd_lcm_right g x.2.toNat) c)
        rwa [show ((x.2.toNat : Nat) : Int) = x.2 by omega] at z
      · exact d x hx
theorem grF_ok : ∀ (es : List Ent) (g : Nat), 0 < g → (∀ e ∈ es, e.am.length ≤ 4 ∧ ∀ r ∈ e.am, 0 < r.2 ∧ Bd 20 r.2) → 0 < es.foldl (fun g e => grA g e.am) g ∧ es.foldl (fun g e => grA g e.am) g ≤ g * 2 ^ (80 * es.length) ∧ g ∣ es.foldl (fun g e => grA g e.am) g ∧ ∀ e ∈ es, Fits (es.foldl (fun g e => grA g e.am) g) e.am
  | [], g, g0, _ => ⟨g0, by simp, Nat.dvd_refl _, fun x hx => by cases hx⟩
  | e :: t, g, g0, h => by
    obtain ⟨l4, am⟩ := h e List.mem_cons_self
    obtain ⟨a, b, c, d⟩ := grA_ok e.am g g0 am
    obtain ⟨a2, b2, c2, d2⟩ := grF_ok t (grA g e.am) a fun x hx => h x (List.mem_cons_of_mem _ hx)
    rw [List.foldl_cons]
    refine ⟨a2, ?_, Nat.dvd_trans c c2, fun x hx => ?_⟩
    · refine Nat.le_trans b2 (Nat.le_trans (Nat.mul_le_mul_right _ (Nat.le_trans b (Nat.mul_le_mul_left _ (Nat.pow_le_pow_right (by decide) (show 20 * e.am.length ≤ 80 by omega))))) (Nat.le_of_eq ?_))
      rw [List.length_cons, Nat.mul_assoc, ← Nat.pow_add]
      congr 2
      omega
    · rcases List.mem_cons.mp hx with rfl | hx
      · exact d.up c2
      · exact d2 x hx
theorem grN_ok {H : Hp} {ws : List V} {es : List Ent} (t : EntsAt H ws es) (l : es.length ≤ 6) : 0 < grN es ∧ grN es < 2 ^ 500 ∧ ∀ e ∈ es, Fits (grN es) e.am := by
  obtain ⟨a, b, _, d⟩ := grF_ok es 1 (by decide) fun e he => by
    have al := t.all e he
    exact ⟨al.2.1, fun r hr => ⟨(al.2.2.2.2 r hr).1, (al.2.2.2.2 r hr).2.2.2⟩⟩
  refine ⟨a, ?_, d⟩
  rw [Nat.one_mul] at b
  exact Nat.lt_of_le_of_lt (Nat.le_trans b (Nat.pow_le_pow_right (by decide) (show 80 * es.length ≤ 480 by omega))) (Nat.pow_lt_pow_right (by decide) (by decide))

theorem StmsAt.dpT {K : PySem.W.Frag} {H : Hp} : ∀ {vs : List V} {ss : List Stm}, StmsAt H vs ss → DpAll K H vs (ss.map stmD)
  | _, _, .nil => .nil
  | _, _, .cons h t => by
    obtain ⟨p, rfl, e⟩ := h
    exact .cons (.tup (SqT.of e) (.cons (.str _) (.cons (.int _) (.cons (.int _) (.cons (.int _) .nil))))) t.dpT
theorem lay_ents (es : List Ent) : PyData.depthAll (es.map entD) ≤ 4 ∧ PyData.canLayAll0 (es.map entD) = true := by
  have := its_lay (es.map Itm.en)
  rwa [List.map_map] at this
theorem lay_stms (ss : List Stm) : PyData.depthAll (ss.map stmD) ≤ 4 ∧ PyData.canLayAll0 (ss.map stmD) = true := by
  have := its_lay (ss.map Itm.st)
  rwa [List.map_map] at this
theorem LAt.dpe {K : PySem.W.Frag} {J : Hp} {es : List Ent} {ss : List Stm} {el sl : Addr} (P : LAt J es ss el sl) : Dp K J (.ref el) (.list (es.map entD)) ∧ Dp K J (.ref sl) (.list (ss.map stmD)) := by
  obtain ⟨⟨ews, e1, E⟩, ⟨sws, e2, S⟩⟩ := P
  exact ⟨.lst (SqL.of e1) E.dp, .lst (SqL.of e2) S.dpT⟩
def planD (es : List Ent) (ss : List Stm) (last : Nat) : PyData := .tuple [.str "plan", .list (es.map entD), .list (ss.map stmD), .int (last : Int)]
theorem ok_planT : PyData.strOk (Str.ofString "plan") = true := by decide +kernel
theorem plan_shaped (es : List Ent) (ss : List Stm) (last : Nat) : SeqAt.shaped (planD es ss last) = true := by
  obtain ⟨a, b⟩ := lay_ents es
  obtain ⟨c, d⟩ := lay_stms ss
  have w : (planD es ss last).canLay0 = true := by simp [planD, PyData.canLay0, PyData.canLayAll0, ok_planT, b, d]
  have z : (planD es ss last).depth ≤ 64 := by
    generalize he : PyData.depthAll (es.map entD) = e at a
    generalize hf : PyData.depthAll (ss.map stmD) = f at c
    simp only [planD, PyData.depth, PyData.depthAll, he, hf]
    omega
  simp [SeqAt.shaped, w, z]
theorem plan_dp {K : PySem.W.Frag} {J : Hp} {z el sl : Addr} {es : List Ent} {ss : List Stm} {last : Nat} (ez : J z = some (.tup [.str "plan", .ref el, .ref sl, .int (last : Int)])) (P : LAt J es ss el sl) : Dp K J (.ref z) (planD es ss last) := by
  obtain ⟨d1, d2⟩ := P.dpe (K := K)
  exact .tup (SqT.of ez) (.cons (.str _) (.cons d1 (.cons d2 (.cons (.int _) .nil))))
theorem asc_uniq76 {a b : List Nat} (ha : a.Pairwise (· < ·)) (hb : b.Pairwise (· < ·)) (h : ∀ k, k ∈ a ↔ k ∈ b) : a = b :=
  List.Perm.eq_of_pairwise (fun _ _ _ _ h1 h2 => absurd h1 (by omega)) ha hb ((List.perm_ext_iff_of_nodup (ha.imp fun h => Nat.ne_of_lt h) (hb.imp fun h => Nat.ne_of_lt h)).mpr h)
/-- there is but one list of cells -/
theorem cells_uniq {G : Nat} {es : List Ent} {f : Nat → Bool} {last : Nat} {ts us : List Nat} (h : CellsE G es f last ts) (k : CellsE G es f last us) : ts = us :=
  asc_uniq76 h.1 k.1 fun u => (h.2.1 u).trans (k.2.1 u).symm
def sp__law_right (K : PySem.W.Frag) : Sp := fun vs H Q _ => ∃ (p d : Addr) (its : List (Nat × Itm)) (nx last : Nat), vs = [.ref p, .int (last : Int)] ∧ LgAt K H p d its nx ∧ last ≤ 20 ∧ (entsOf (its.map (·.2))).length ≤ 6 ∧ (stmsOf (its.map (·.2))).length ≤ 24 ∧ ∀ J, Same H J → Q (.bl true) J
theorem ar__law_right (K : PySem.W.Frag) : ∀ vs H Q E, sp__law_right K vs H Q E → vs.length = 2 := by
  intro vs H Q E h
  obtain ⟨p, d, its, nx, last, rfl, _⟩ := h
  rfl
theorem isTy_int {K : PySem.W.Frag} {J : Hp} {n : Int} : IsTy K J (.int n) "int" := by
  refine ⟨?_, by decide⟩
  exact .base (by constructor)
abbrev N__law_right : List Str := ["_law_ledger_here", "_law_last", "_law_entries_here", "_law_statements", "_law_said_here"]
theorem sc__law_right : FnScope N__law_right ["_law_ledger_here", "_law_last"] (defScope S__law_right) := ⟨rfl, rfl, rfl, by decide +kernel, rfl, by decide +kernel, by decide +kernel⟩
theorem ok__law_right {P : Program} {w : World} {K : PySem.W.Frag} {mg : Str → Option Value} {base : Heap} {f : Addr} {fd : FuncData} (F : Fun K "_law_right" "_law_right" S__law_right f fd) {f__law_plan_due : Addr} {fd__law_plan_due : FuncData} (C__law_plan_due : Cal P w K mg base "_law_plan_due" 12 f__law_plan_due fd__law_plan_due ["_law_entries_here", "_law_statements", "_law_parts"] (sp__law_plan_due K)) {f_plan : Addr} {fd_plan : FuncData} (C_plan : CalX P w K mg base "plan" 13 f_plan fd_plan ["ledger", "last"] (sp_plan K)) {f__law_left : Addr} {fd__law_left : FuncData} (C__law_left : Cal P w K mg base "_law_left" 3 f__law_left fd__law_left ["_law_entries_here", "_law_statements", "_law_days", "_law_grain_here"] (sp__law_left K)) {f__law_grain : Addr} {fd__law_grain : FuncData} (C__law_grain : Cal P w K mg base "_law_grain" 2 f__law_grain fd__law_grain ["_law_entries_here"] (sp__law_grain K)) {f__law_said : Addr} {fd__law_said : FuncData} (C__law_said : Cal P w K mg base "_law_said" 15 f__law_said fd__law_said ["_law_ledger_here", "_law_last"] (sp__law_said K)) {C_L : Addr} (T : LgC K mg C_L) {f_Ledger_statements : Addr} {fd_Ledger_statements : FuncData} (C_Ledger_statements : CalM P w K mg base C_L "statements" 2 f_Ledger_statements fd_Ledger_statements ["self"] (sp_Ledger_statements K)) {f_Ledger_entries : Addr} {fd_Ledger_entries : FuncData} (C_Ledger_entries : CalM P w K mg base C_L "entries" 2 f_Ledger_entries fd_Ledger_entries ["self"] (sp_Ledger_entries K)) (m_len : mg "len" = none) :
    FnG P w K mg base CX0 16 f fd ["_law_ledger_here", "_law_last"] (sp__law_right K) := by
  refine Fun_okG F sc__law_right (ar__law_right K) (fun cdv A outer s H vs Q E hg hr h => ?_)
  obtain ⟨p, d, its, nx, last, rfl, L, l20, l6, l24, q⟩ := h
  refine ⟨_, (pss_cons (ps_par (i := 2) (j := 3) rfl sc__law_right.nd rfl rfl (by decide) rfl rfl (pa_cons (pm_c0 T.cl C_Ledger_entries hg (hr.mono (by decide)) (pv 0)) (pa_cons (pm_c0 T.cl C_Ledger_statements hg (hr.mono (by decide)) (pv 0)) pa_nil)) (by rfl))
    (pss_cons (ps_set (i := 4) sc__law_right.nd rfl (Or.inl rfl) (pe_c C__law_said hg (hr.mono (by decide)) rfl (pa_cons (pv 0) (pa_cons (pv 1) pa_nil))))
    (pss_cons (ps_if (pt_cmpR (eqK (K := K) rfl (room_u hr)) (pe_c C__law_left hg (hr.mono (by decide)) rfl (pa_cons (pv 2) (pa_cons (pv 3) (pa_cons (pe_lst pa_nil) (pa_cons (pe_c C__law_grain hg (hr.mono (by decide)) rfl (pa_cons (pv 2) pa_nil)) pa_nil))))) (pe_lst pa_nil) (nomark _)) (pss_one (ps_ret (pe_cmpR op_eq (pv 4) pe_str (nomark _)))) pss_nil)
    (pss_cons (ps_if (PW.pt (pw_or (pt_cmpR (neK (K := K) rfl (room_u hr)) (pe_slice (slT (K := K) rfl) (pv 4) po_none (po_some pe_int)) (pe_tup (pa_cons pe_str (pa_cons (pv 2) (pa_cons (pv 3) (pa_cons (pv 1) pa_nil))))) (nomark _)) (pw_or (pt_cmpR op_ne (pe_callB (id := "len") (lenK (K := K) rfl) (by rfl) m_len (by decide +kernel) (pa_cons (pv 4) pa_nil)) pe_int (nomark _)) (pw_or1 (pt_cmpR (neK (K := K) rfl (room_u hr)) (pe_ix (ixK (K := K) rfl) (pv 4) pe_int (fun _ _ => rfl)) (pe_cx takes_no C_plan hg (hr.mono (by decide)) rfl (pa_cons (pv 0) (pa_cons (pv 1) pa_nil))) (nomark _)))))) (pss_one (ps_ret pe_bl)) pss_nil)
    (pss_one (ps_ret (pe_c C__law_plan_due hg (hr.mono (by decide)) rfl (pa_cons (pv 2) (pa_cons (pv 3) (pa_cons (pe_slice (slT (K := K) rfl) (pv 4) (po_some pe_int) po_none) pa_nil)))))))))), ?_⟩
  walk_at "rd_6"
  refine rd_meth T L (fun R h => rd_var rfl h) ?_
  walk_at "rd_6"
  refine ⟨p, d, its, nx, rfl, L, fun el J1 ews n1 s1 e1 E1 => ?_⟩
  have L1 := L.same s1
  walk_at "rd_6"
  refine rd_meth T L1 (fun R h => rd_var rfl h) ?_
  walk_at "rd_6"
  refine ⟨p, d, its, nx, rfl, L1, fun sl J2 sws n2 s2 e2 S2 => ?_⟩
  have L2 := L1.same s2
  have s12 := Same.trans s1 s2
  generalize hes : entsOf (its.map (·.2)) = es at *
  generalize hss : stmsOf (its.map (·.2)) = ss at *
  obtain ⟨g0, g5, gf⟩ := grN_ok E1 (by omega)
  generalize hG : grN es = G at *
  walk_at "rd_6"
  have E2 : EntsAt J2 ews es := E1.mono fun p xs h => s2 _ _ h
  have lE := E1.len
  have lS := S2.len
  refine ⟨p, d, its, nx, G, es, ss, .int (last : Int), "int", rfl, L2, hes, hss, g0, g5, gf, l6, l24, fun J _ => isTy_int, .inr ⟨last, rfl, rfl, by omega, fun some_ z el2 sl2 tv J3 ts s3 e3 P3 tr C => ?_, fun no J3 s3 => ?_⟩⟩
  · have L3 := L2.same s3
    walk_at "rd_6"
    rename_i pe J4 n4 s4 e4
    have s24 := Same.trans s3 s4
    refine ⟨el, ews, es, rfl, s24 _ _ (s2 _ _ e1), E2.mono fun p xs h => s24 _ _ h, by omega, fun G' _ _ _ e' => ?_⟩
    rw [hG] at e'
    rw [e']
    walk_at "rd_6"
    have Led4 : Led J4 el es G := ⟨ews, s24 _ _ (s2 _ _ e1), E2.mono fun p xs h => s24 _ _ h, gf, g0, g5, by omega⟩
    refine ⟨el, sl, pe, es, sws, ss, [], G, rfl, Led4, s24 _ _ e2, S2.mono fun p xs h => s24 _ _ h, by omega, e4, by decide, fun qs zq J5 s5 n5 pts e5 => ?_⟩
    have ne : qs.filter (okU G es ss) ≠ [] := fun z => by
      obtain ⟨u, hu, ok⟩ := some_
      obtain ⟨p, hp, _, _, same⟩ := pts_tell76 (ds := []) g0 pts hu
      have : p ∈ qs.filter (okU G es ss) := List.mem_filter.mpr ⟨hp, okU_iff.mpr fun s hs => by
        have e1 := same s hs
        have e2 := okU_iff.mp ok s hs
        unfold tellF at e1
        rw [decide_eq_true e2] at e1
        exact of_decide_eq_true e1⟩
      rw [z] at this
      cases this
    walk_at "rd_6"
    rename_i pn J6 n6 s6 e6
    have e56 := s6 _ _ e5
    have ei : ∀ X : List Nat, X.map nV = (X.map fun u => ((u : Nat) : Int)).map V.int := fun X => by rw [List.map_map]; rfl
    refine rd_eqIs (ns := (qs.filter (okU G es ss)).map fun u => ((u : Nat) : Int)) (ms := []) (SqL.of (by rw [← ei]; exact e56)) (SqL.of e6) ?_
    rw [decide_eq_false fun z => ne (List.map_eq_nil_iff.mp z)]
    walk_at "rd_6"
    refine iteF ?_
    have s36 := Same.trans s4 (Same.trans s5 s6)
    have s06 := Same.trans s12 (Same.trans s3 s36)
    have e36 := s36 _ _ e3
    have P6 := P3.same s36
    have L6 := L3.same s36
    have tr6 := tr.same s36
    have P6' : LAt J6 es ss el sl := ⟨⟨ews, (Same.trans s3 s36) _ _ (s2 _ _ e1), E2.mono fun p xs h => (Same.trans s3 s36) _ _ h⟩, ⟨sws, (Same.trans s3 s36) _ _ e2, S2.mono fun p xs h => (Same.trans s3 s36) _ _ h⟩⟩
    clear e56 e5 n5 pts n6 e6 s4 s5 s6 s24 Led4 L3 e4 n4 P3 tr E1 e1 s1 n1 L1 s2 n2 L L2
    walk_at "rd_6"
    refine rd_slT (ys := [.str "plan", .ref el2, .ref sl2, .int (last : Int)]) (SqT.of e36) (by show ¬ ((0 : Nat) = 0 ∧ (4 : Nat) = 5); omega) rfl fun z7 J7 n7 s7 e7 => ?_
    walk_at "rd_6"
    rename_i z8 J8 n8 s8 e8
    have s78 := Same.trans s7 s8
    refine rd_neDs (d := planD es ss last) (plan_dp (s8 _ _ e7) (P6.same s78)) (plan_dp e8 (P6'.same s78)) (plan_shaped _ _ _) ?_
    walk_at "rd_6"
    refine iteF ?_
    have e38 := s78 _ _ e36
    walk_at "rd_6"
    refine iteF ?_
    walk_at "rd_6"
    have L8 := L6.same s78
    refine rd_callX ?_
    walk_at "rd_6"
    refine ⟨p, d, its, nx, G, .int (last : Int), "int", rfl, L8, g0, g5, by rw [hes]; exact gf, by rw [hes]; exact l6, by rw [hss]; exact l24, isTy_int, .inr ⟨last, rfl, rfl, by omega, fun _ w9 J9 us s9 tr9 C9 => ?_, fun no J C s hC => ?_⟩⟩
    · rw [hes, hss] at C9
      rw [hes] at tr9
      obtain rfl := cells_uniq C C9
      have l64 : ts.length ≤ 2 ^ 6 := Nat.le_trans C.2.2 (Nat.le_trans (show last + 1 ≤ 64 by omega) (by decide))
      have s79 := Same.trans s78 s9
      have dn : depT (treeN (lastD (ptE G es) (last + 1)) 7 ts) ≤ 60 := by
        rw [dep_tree _ 6 ts l64]
        have l65 : ts.length - 1 ≤ 64 := by have := C.2.2; omega
        have := nb_mono l65
        have e : nb 64 = 7 := by decide
        omega
      refine rd_neDs (tr6.same s79).dp tr9.dp (tr_shaped dn) ?_
      walk_at "rd_6"
      refine iteF ?_
      have e39 := s79 _ _ e36
      have P9' := P6'.same s79
      have tr9' := tr6.same s79
      have s09 := Same.trans s06 s79
      clear s79 tr9 C9 L8 s9 e38 e8 e7 s78 s7 s8 n7 n8 tr6 P6 P6' L6 e36
      walk_at "rd_6"
      refine rd_slT (ys := [.int (last : Int), tv]) (SqT.of e39) (by show ¬ ((3 : Nat) = 0 ∧ (5 : Nat) = 5); omega) rfl fun zA JA nA sA eA => ?_
      walk_at "rd_6"
      obtain ⟨⟨ewA, eLA, EA⟩, ⟨swA, eSA, SA⟩⟩ := P9'.same sA
      refine ⟨el, sl, zA, es, swA, ss, last, G, tv, ts, rfl, ⟨ewA, eLA, EA, gf, g0, g5, by have := EA.len; omega⟩, hG.symm, by omega, eSA, SA, by have := SA.len; omega, eA, l20, some_, tr9'.same sA, C, fun J s => ?_⟩
      exact q J (Same.trans s09 (Same.trans sA s))
    · obtain ⟨u, hu, ou⟩ := some_
      have := no u hu
      rw [hes, hss, ou] at this
      cases this
  · have L3 := L2.same s3
    walk_at "rd_6"
    rename_i pe J4 n4 s4 e4
    have s24 := Same.trans s3 s4
    refine ⟨el, ews, es, rfl, s24 _ _ (s2 _ _ e1), E2.mono fun p xs h => s24 _ _ h, by omega, fun G' _ _ _ e' => ?_⟩
    rw [hG] at e'
    rw [e']
    walk_at "rd_6"
    have Led4 : Led J4 el es G := ⟨ews, s24 _ _ (s2 _ _ e1), E2.mono fun p xs h => s24 _ _ h, gf, g0, g5, by omega⟩
    refine ⟨el, sl, pe, es, sws, ss, [], G, rfl, Led4, s24 _ _ e2, S2.mono fun p xs h => s24 _ _ h, by omega, e4, by decide, fun qs zq J5 s5 n5 pts e5 => ?_⟩
    have emp : qs.filter (okU G es ss) = [] := by
      rw [List.filter_eq_nil_iff]
      intro u hu
      have lt : u < G := by
        rcases (pts.2.1 u).mp hu with rfl | ⟨dd, _, rfl⟩
        · exact g0
        · exact (ptU_eq g0 (bS G es dd)).2
      rw [no u lt]
      exact Bool.noConfusion
    rw [emp] at e5
    walk_at "rd_6"
    rename_i pn J6 n6 s6 e6
    refine iteT ?_
    walk_at "rd_6"
    exact q J6 (Same.trans s12 (Same.trans s24 (Same.trans s5 s6)))

theorem odd76 {K : PySem.W.Frag} {pa pb : Addr} {r : Int} (a : 0 ≤ r) (b : r < 8) : ∃ (v : V) (t : String), atI [.int (-1), .int 201, .bl true, .non, .str "3", .ref pa, .ref pb, .int (10 ^ 30)] r = some v ∧ (∀ J9, J9 pa = some (.tup [.int 3]) → J9 pb = some (.lst [.int 3]) → ∀ J, Same J9 J → IsTy K J v t) ∧ NoLast v t := by
  have h8 : r = 0 ∨ r = 1 ∨ r = 2 ∨ r = 3 ∨ r = 4 ∨ r = 5 ∨ r = 6 ∨ r = 7 := by omega
  rcases h8 with rfl | rfl | rfl | rfl | rfl | rfl | rfl | rfl
  · exact ⟨_, "int", rfl, fun _ _ _ J _ => isTy_int, .inr ⟨_, rfl, rfl, by omega⟩⟩
  · exact ⟨_, "int", rfl, fun _ _ _ J _ => isTy_int, .inr ⟨_, rfl, rfl, by omega⟩⟩
  · exact ⟨_, "bool", rfl, fun _ _ _ J _ => ⟨.base (by constructor), by decide⟩, .inl (by decide)⟩
  · exact ⟨_, "NoneType", rfl, fun _ _ _ J _ => ⟨.base (by constructor), by decide⟩, .inl (by decide)⟩
  · exact ⟨_, "str", rfl, fun _ _ _ J _ => ⟨.base (by constructor), by decide⟩, .inl (by decide)⟩
  · exact ⟨_, "tuple", rfl, fun _ ea eb J s => ⟨tyT (SqT.of (s _ _ ea)), by decide⟩, .inl (by decide)⟩
  · exact ⟨_, "list", rfl, fun _ ea eb J s => ⟨.base (.lst (s _ _ eb)), by decide⟩, .inl (by decide)⟩
  · exact ⟨_, "int", rfl, fun _ _ _ J _ => isTy_int, .inr ⟨_, rfl, rfl, fun z => absurd z.2 (by decide)⟩⟩
def sp_law (K : PySem.W.Frag) : Sp := fun vs H Q _ => ∃ (a : Addr) (ns : List Int), vs = [.ref a] ∧ Scr K H a (ns.map V.int) ∧ ns.length ≤ 63 ∧ ∀ H', Q (.bl true) H'
theorem ar_law (K : PySem.W.Frag) : ∀ vs H Q E, sp_law K vs H Q E → vs.length = 1 := by
  intro vs H Q E h
  obtain ⟨a, ns, rfl, _⟩ := h
  rfl
abbrev N_law : List Str := ["_law_script", "_law_k", "_law_bag_here", "_law_turn", "_law_last", "_law_entries_here", "_law_statements", "_law_ledger_here", "_law_odd"]
theorem sc_law : FnScope N_law ["_law_script"] (defScope S_law) := ⟨rfl, rfl, rfl, by decide +kernel, rfl, by decide +kernel, by decide +kernel⟩
theorem ok_law {P : Program} {w : World} {K : PySem.W.Frag} {mg : Str → Option Value} {base : Heap} {f : Addr} {fd : FuncData} (F : Fun K "law" "law" S_law f fd) {f__law_said : Addr} {fd__law_said : FuncData} (C__law_said : Cal P w K mg base "_law_said" 15 f__law_said fd__law_said ["_law_ledger_here", "_law_last"] (sp__law_said K)) {f__law_right : Addr} {fd__law_right : FuncData} (C__law_right : Cal P w K mg base "_law_right" 16 f__law_right fd__law_right ["_law_ledger_here", "_law_last"] (sp__law_right K)) {f__law_take : Addr} {fd__law_take : FuncData} (C__law_take : Cal P w K mg base "_law_take" 1 f__law_take fd__law_take ["_law_bag_here", "_law_size"] (sp__law_take K)) {f__law_ledger : Addr} {fd__law_ledger : FuncData} (C__law_ledger : Cal P w K mg base "_law_ledger" 8 f__law_ledger fd__law_ledger ["_law_bag_here", "_law_entries_here", "_law_statements"] (sp__law_ledger K)) {f__law_true_statements : Addr} {fd__law_true_statements : FuncData} (C__law_true_statements : Cal P w K mg base "_law_true_statements" 3 f__law_true_statements fd__law_true_statements ["_law_bag_here", "_law_entries_here", "_law_last", "_law_most"] (sp__law_true_statements K)) {f__law_any_statements : Addr} {fd__law_any_statements : FuncData} (C__law_any_statements : Cal P w K mg base "_law_any_statements" 3 f__law_any_statements fd__law_any_statements ["_law_bag_here", "_law_entries_here", "_law_last", "_law_most"] (sp__law_any_statements K)) {f__law_entries : Addr} {fd__law_entries : FuncData} (C__law_entries : Cal P w K mg base "_law_entries" 5 f__law_entries fd__law_entries ["_law_bag_here", "_law_last", "_law_most"] (sp__law_entries K)) {f__law_bag : Addr} {fd__law_bag : FuncData} (C__law_bag : Cal P w K mg base "_law_bag" 1 f__law_bag fd__law_bag ["_law_script", "_law_at"] (sp__law_bag K)) (m_range : mg "range" = none) (m_max : mg "max" = none) (m_min : mg "min" = none) (m_len : mg "len" = none) :
    FnG P w K mg base CX0 17 f fd ["_law_script"] (sp_law K) := by
  refine Fun_okG F sc_law (ar_law K) (fun cdv A outer s H vs Q E hg hr h => ?_)
  obtain ⟨a, ns, rfl, hS, hl, q⟩ := h
  refine ⟨_, (pss_cons (ps_for PassesOwn.never rfl (pi_range1 rfl m_range (pa_cons (pe_callB (id := "max") (call_max2 rfl) (by rfl) m_max (by decide +kernel) (pa_cons pe_int (pa_cons (pe_callB (id := "min") (call_min2 rfl) (by rfl) m_min (by decide +kernel) (pa_cons pe_int (pa_cons (pe_callB (id := "len") (lenK (K := K) rfl) (by rfl) m_len (by decide +kernel) (pa_cons (pv 0) pa_nil)) pa_nil))) pa_nil))) pa_nil)) (pg_name (i := 1) sc_law.nd rfl (Or.inl rfl)) (pss_cons (ps_set (i := 2) sc_law.nd rfl (Or.inl rfl) (pe_c C__law_bag hg (hr.mono (by decide)) rfl (pa_cons (pv 0) (pa_cons (pv 1) pa_nil))))
    (pss_one (ps_for PassesOwn.never rfl (pi_range1 rfl m_range (pa_cons pe_int pa_nil)) (pg_name (i := 3) sc_law.nd rfl (Or.inl rfl)) (pss_cons (ps_set (i := 4) sc_law.nd rfl (Or.inl rfl) (pe_op op_add pe_int (pe_c C__law_take hg (hr.mono (by decide)) rfl (pa_cons (pv 2) (pa_cons pe_int pa_nil)))))
    (pss_cons (ps_set (i := 5) sc_law.nd rfl (Or.inl rfl) (pe_c C__law_entries hg (hr.mono (by decide)) rfl (pa_cons (pv 2) (pa_cons (pv 4) (pa_cons pe_int pa_nil)))))
    (pss_cons (ps_set (i := 6) sc_law.nd rfl (Or.inl rfl) (pe_c C__law_any_statements hg (hr.mono (by decide)) rfl (pa_cons (pv 2) (pa_cons (pv 5) (pa_cons (pv 4) (pa_cons (pe_op op_add pe_int (pe_op op_ml pe_int (pe_c C__law_take hg (hr.mono (by decide)) rfl (pa_cons (pv 2) (pa_cons pe_int pa_nil))))) pa_nil))))))
    (pss_cons (ps_if (pt_cmpR op_gt (pe_c C__law_take hg (hr.mono (by decide)) rfl (pa_cons (pv 2) (pa_cons pe_int pa_nil))) pe_int (nomark _)) (pss_one (ps_set (i := 6) sc_law.nd rfl (Or.inl rfl) (pe_c C__law_true_statements hg (hr.mono (by decide)) rfl (pa_cons (pv 2) (pa_cons (pv 5) (pa_cons (pv 4) (pa_cons (pe_ix (ixK (K := K) rfl) (pe_lst (pa_cons pe_int (pa_cons pe_int pa_nil))) (pe_op op_dv (pe_c C__law_take hg (hr.mono (by decide)) rfl (pa_cons (pv 2) (pa_cons pe_int pa_nil))) pe_int) (fun _ _ => rfl)) pa_nil))))))) pss_nil)
    (pss_cons (ps_set (i := 7) sc_law.nd rfl (Or.inl rfl) (pe_c C__law_ledger hg (hr.mono (by decide)) rfl (pa_cons (pv 2) (pa_cons (pv 5) (pa_cons (pv 6) pa_nil)))))
    (pss_cons (ps_set (i := 8) sc_law.nd rfl (Or.inl rfl) (pe_ix (ixK (K := K) rfl) (pe_lst (pa_cons (pe_un un_neg pe_int) (pa_cons pe_int (pa_cons pe_bl (pa_cons pe_non (pa_cons pe_str (pa_cons (pe_tup (pa_cons pe_int pa_nil)) (pa_cons (pe_lst (pa_cons pe_int pa_nil)) (pa_cons (pe_op op_pow pe_int pe_int) pa_nil))))))))) (pe_c C__law_take hg (hr.mono (by decide)) rfl (pa_cons (pv 2) (pa_cons pe_int pa_nil))) (fun _ _ => rfl)))
    (pss_one (ps_if (PW.pt (pw_or (pt_not (pt_val (pe_c C__law_right hg (hr.mono (by decide)) rfl (pa_cons (pv 7) (pa_cons (pe_c C__law_take hg (hr.mono (by decide)) rfl (pa_cons (pv 2) (pa_cons pe_int pa_nil))) pa_nil))))) (pw_or1 (pt_cmpR op_ne (pe_c C__law_said hg (hr.mono (by decide)) rfl (pa_cons (pv 7) (pa_cons (pv 8) pa_nil))) pe_str (nomark _))))) (pss_one (ps_ret pe_bl)) pss_nil))))))))))))
    (pss_one (ps_ret pe_bl))), ?_⟩
  walk_at "rd_6"
  refine lp_rng (fun _ σ' H' => Scr K H' a (ns.map V.int) ∧ ∃ o1 o2 o3 o4 o5 o6 o7 o8, σ' = [some (.ref a), o1, o2, o3, o4, o5, o6, o7, o8]) ⟨hS, none, none, none, none, none, none, none, none, rfl⟩ (fun i σ1 H1 hi w => ?_) (fun σ1 H1 w => ?_)
  · obtain ⟨hS1, o1, o2, o3, o4, o5, o6, o7, o8, rfl⟩ := w
    have hi2 : i < 8 ∨ i < 2 := by
      rw [List.length_map] at hi
      split at hi <;> split at hi <;> omega
    walk_at "rd_6"
    refine ⟨a, ns, _, rfl, hS1, hl, by omega, by omega, fun b J0 nb s0 g0 => ?_⟩
    have hS0 : Scr K J0 a (ns.map V.int) := hS1.same s0
    walk_at "rd_6"
    refine lp_rng (fun _ σ' H' => Scr K H' a (ns.map V.int) ∧ Bag b H' ∧ ∃ o3 o4 o5 o6 o7 o8, σ' = [some (.ref a), some (.int (0 + (i : Int))), some (.ref b), o3, o4, o5, o6, o7, o8]) ⟨hS0, g0, o3, o4, o5, o6, o7, o8, rfl⟩ (fun j σ2 H2 hj w => ?_) (fun σ2 H2 w => ?_)
    · obtain ⟨hS2, g2, o3, o4, o5, o6, o7, o8, rfl⟩ := w
      clear hS0 g0 hS1 hS
      walk_at "rd_6"
      refine ⟨b, 11, rfl, g2, by decide, by decide, fun r1 J1 r1a r1b k1 g1 => ?_⟩
      obtain ⟨r, rfl⟩ := Int.eq_ofNat_of_zero_le r1a
      walk_at "rd_6"
      rw [show (2 : Int) + (r : Int) = ((2 + r : Nat) : Int) by omega]
      have hl13 : 2 ≤ 2 + r ∧ 2 + r ≤ 12 := by omega
      generalize 2 + r = last at hl13 ⊢
      clear r1a r1b
      refine ⟨b, last, 3, rfl, g1, by omega, by omega, fun l ews es J2 nl nHl hl E2 lw ha hf k2 g2' => ?_⟩
      have K2 := k1.trans k2
      clear k1 k2 g1
      walk_at "rd_6"
      refine ⟨b, 2, rfl, g2', by decide, by decide, fun r3 J3 r3a r3b k3 g3 => ?_⟩
      obtain ⟨r3, rfl⟩ := Int.eq_ofNat_of_zero_le r3a
      have hl := k3 _ _ nl hl
      have E2 : EntsAt J3 ews es := E2.mono fun p xs h => k3.tup g2' h
      have K3 := K2.trans k3
      clear K2 k3 g2'
      walk_at "rd_6"
      rw [show (2 : Int) + 4 * (r3 : Int) = ((2 + 4 * r3 : Nat) : Int) by omega]
      have hm6 : 2 + 4 * r3 ≤ 6 := by omega
      generalize 2 + 4 * r3 = most at hm6 ⊢
      clear r3a r3b
      refine ⟨b, l, es, last, most, rfl, g3, nl, ⟨ews, hl, E2, by omega⟩, by omega, by omega, fun s us ss J5 ns' nHs hs S5 lu ok gg0 gg5 ggf k5 g5 => ?_⟩
      have hl := k5 _ _ nl hl
      have E2 : EntsAt J5 ews es := E2.mono fun p xs h => k5.tup g3 h
      have K5 := K3.trans k5
      clear K3 k5 g3
      walk_at "rd_6"
      refine ⟨b, 3, rfl, g5, by decide, by decide, fun r2 J6 r20 r21 k6 g6 => ?_⟩
      have hl := k6 _ _ nl hl
      have E2 : EntsAt J6 ews es := E2.mono fun p xs h => k6.tup g5 h
      have hs := k6 _ _ ns' hs
      have S5 : StmsAt J6 us ss := S5.mono fun p xs h => k6.tup g5 h
      have K5 := K5.trans k6
      have g5 := g6
      clear k6 r20 r21
      walk_at "rd_6"
      refine rd_if (fun cc => ?_) (fun cc => ?_)
      · clear hs S5 lu ok ns' nHs
        walk_at "rd_6"
        rename_i pl2 Jl nl2 sl2 el2
        refine ⟨b, 4, rfl, g5.same sl2, by decide, by decide, fun r4 J8 r4a r4b k8 g8 => ?_⟩
        have hl8 := k8 _ _ nl (sl2 _ _ hl)
        have E8 : EntsAt J8 ews es := E2.mono fun p xs h => k8.tup (g5.same sl2) (sl2 _ _ h)
        have K8 := K5.trans ((Kp.of sl2).trans k8)
        have el8 : J8 pl2 = some (.lst [V.int 6, V.int 23]) := k8 _ _ (fun z => by rw [z] at nl2; obtain ⟨_, _, e⟩ := g5; rw [nl2] at e; cases e) el2
        obtain ⟨m2, at2, m23⟩ : ∃ m2 : Nat, atI [V.int 6, V.int 23] (r4.fdiv 3) = some (V.int (m2 : Int)) ∧ m2 ≤ 23 := by
          rw [Int.fdiv_eq_ediv_of_nonneg _ (by decide)]
          have h4 : r4 / 3 = 0 ∨ r4 / 3 = 1 := by omega
          rcases h4 with h4 | h4
          · exact ⟨6, by rw [h4]; rfl, by decide⟩
          · exact ⟨23, by rw [h4]; rfl, by decide⟩
        clear hl E2 K5 g5 k8 sl2
        walk_at "rd_6"
        refine rd_sxL (SqL.of el8) at2 ?_
        walk_at "rd_6"
        refine ⟨b, l, es, last, m2, rfl, g8, nl, ⟨ews, hl8, E8, by omega⟩, by omega, by omega, fun s us ss u J7 ns' nHs hs S5 lu ok _ _ _ _ _ k7 g5 => ?_⟩
        have hl := k7 _ _ nl hl8
        have E2 : EntsAt J7 ews es := E8.mono fun p xs h => k7.tup g8 h
        have K5 := K8.trans k7
        clear K8 k7 g8 hl8 E8 el8
        have lnE := E2.len
        have lnS := S5.len
        have e30 : (13 : Nat) ≤ 10 ^ 30 := by decide
        walk_at "rd_6"
        refine ⟨b, l, s, ews, us, es, ss, rfl, g5, hl, E2, ha, hs, S5, (fun x hx => ⟨by have := (ok x hx).2.1; omega, (ok x hx).1⟩), by omega, by omega, nl, ns', fun p d its nx J6 np nd L6 asc pm nx6 k6 g6 => ?_⟩
        have K6 := K5.trans k6
        have l6 : (entsOf (its.map (·.2))).length ≤ 6 := by
          have := (entsOf_perm pm).length_eq
          rw [entsOf_app, entsOf_en, entsOf_st, List.append_nil] at this
          omega
        have fit6 : ∀ e ∈ entsOf (its.map (·.2)), Fits (grN es) e.am := fun e he => ggf e (by
          have := (entsOf_perm pm).mem_iff.mp he
          rwa [entsOf_app, entsOf_en, entsOf_st, List.append_nil] at this)
        have l24 : (stmsOf (its.map (·.2))).length ≤ 24 := by
          have := (stmsOf_perm pm).length_eq
          rw [stmsOf_app, stmsOf_en, stmsOf_st, List.nil_append] at this
          omega
        clear K5 k6 g5 hs S5 ok pm hl E2 lnE lnS asc
        have hb6 : Bag b J6 := g6
        walk_at "rd_6"
        rename_i pa Ja na sa ea pb Jb nb_ sb eb pc Jc nc sc ec
        have sJc := Same.trans sa (Same.trans sb sc)
        have gc := g6.same sJc
        have Lc := L6.same sJc
        refine ⟨b, 8, rfl, gc, by decide, by decide, fun r5 J8 r5a r5b k8 g8 => ?_⟩
        have nbx : ∀ {q : Addr} {o : HO}, Jc q = some o → (∀ x y : Int, o ≠ .lst [.int x, .int y]) → q ≠ b := fun {q o} e n z => by
          subst z
          obtain ⟨x, y, e2⟩ := gc
          exact n x y (Option.some.inj (e.symm.trans e2))
        have ea8 : J8 pa = some (.tup [.int 3]) := k8 _ _ (nbx (sc _ _ (sb _ _ ea)) fun x y z => by cases z) (sc _ _ (sb _ _ ea))
        have eb8 : J8 pb = some (.lst [.int 3]) := k8 _ _ (nbx (sc _ _ eb) fun x y z => by cases z) (sc _ _ eb)
        have nb8 : ∀ {q : Addr} {o : HO}, J8 q = some o → (∀ x y : Int, o ≠ .lst [.int x, .int y]) → q ≠ b := fun {q o} e n z => by
          subst z
          obtain ⟨x, y, e2⟩ := g8
          exact n x y (Option.some.inj (e.symm.trans e2))
        have ec8 := k8 _ _ (nbx ec fun x y z => by cases z) ec
        obtain ⟨v, t, atv, tyv, nov⟩ : ∃ (v : V) (t : String), atI [.int (-1), .int 201, .bl true, .non, .str "3", .ref pa, .ref pb, .int (10 ^ 30)] r5 = some v ∧ (∀ J9, J9 pa = some (.tup [.int 3]) → J9 pb = some (.lst [.int 3]) → ∀ J, Same J9 J → IsTy K J v t) ∧ NoLast v t := odd76 r5a r5b
        have Lc8 : LgAt K J8 p d its nx := by
          obtain ⟨x, y, eg⟩ := gc
          exact Lc.kl k8 eg
        refine rd_sxL (SqL.of ec8) atv ?_
        walk_at "rd_6"
        refine ⟨b, 21, rfl, g8, by decide, by decide, fun r6 J9 r6a r6b k9 g9 => ?_⟩
        obtain ⟨r6, rfl⟩ := Int.eq_ofNat_of_zero_le r6a
        have Lc9 : LgAt K J9 p d its nx := by
          obtain ⟨x, y, eg⟩ := g8
          exact Lc8.kl k9 eg
        have tyv9 : ∀ J, Same J9 J → IsTy K J v t := tyv J9 (k9 _ _ (nb8 ea8 fun x y z => by cases z) ea8) (k9 _ _ (nb8 eb8 fun x y z => by cases z) eb8)
        walk_at "rd_6"
        refine ⟨p, d, its, nx, r6, rfl, Lc9, by omega, l6, l24, fun J10 s10 => ?_⟩
        walk_at "rd_6"
        refine iteF ?_
        walk_at "rd_6"
        refine ⟨p, d, its, nx, grN es, _, _, v, t, rfl, Lc9.same s10, rfl, rfl, gg0, gg5, fit6, l6, l24, fun J s => tyv9 J (Same.trans s10 s), .inl ⟨nov, fun J11 s11 => ?_⟩⟩
        walk_at "rd_6"
        refine iteF ?_
        walk_at "rd_6"
        have KK := K6.trans ((Kp.of sJc).trans (k8.trans (k9.trans (Kp.of (Same.trans s10 s11)))))
        exact ⟨hS2.kp KK g2, (g9.same s10).same s11, _, _, _, _, _, _, rfl⟩
      · have lnE := E2.len
        have lnS := S5.len
        have e30 : (13 : Nat) ≤ 10 ^ 30 := by decide
        walk_at "rd_6"
        refine ⟨b, l, s, ews, us, es, ss, rfl, g5, hl, E2, ha, hs, S5, (fun x hx => ⟨by have := (ok x hx).2.1; omega, (ok x hx).1⟩), by omega, by omega, nl, ns', fun p d its nx J6 np nd L6 asc pm nx6 k6 g6 => ?_⟩
        have K6 := K5.trans k6
        have l6 : (entsOf (its.map (·.2))).length ≤ 6 := by
          have := (entsOf_perm pm).length_eq
          rw [entsOf_app, entsOf_en, entsOf_st, List.append_nil] at this
          omega
        have fit6 : ∀ e ∈ entsOf (its.map (·.2)), Fits (grN es) e.am := fun e he => ggf e (by
          have := (entsOf_perm pm).mem_iff.mp he
          rwa [entsOf_app, entsOf_en, entsOf_st, List.append_nil] at this)
        have l24 : (stmsOf (its.map (·.2))).length ≤ 24 := by
          have := (stmsOf_perm pm).length_eq
          rw [stmsOf_app, stmsOf_en, stmsOf_st, List.nil_append] at this
          omega
        clear K5 k6 g5 hs S5 ok pm hl E2 lnE lnS asc
        have hb6 : Bag b J6 := g6
        walk_at "rd_6"
        rename_i pa Ja na sa ea pb Jb nb_ sb eb pc Jc nc sc ec
        have sJc := Same.trans sa (Same.trans sb sc)
        have gc := g6.same sJc
        have Lc := L6.same sJc
        refine ⟨b, 8, rfl, gc, by decide, by decide, fun r5 J8 r5a r5b k8 g8 => ?_⟩
        have nbx : ∀ {q : Addr} {o : HO}, Jc q = some o → (∀ x y : Int, o ≠ .lst [.int x, .int y]) → q ≠ b := fun {q o} e n z => by
          subst z
          obtain ⟨x, y, e2⟩ := gc
          exact n x y (Option.some.inj (e.symm.trans e2))
        have ea8 : J8 pa = some (.tup [.int 3]) := k8 _ _ (nbx (sc _ _ (sb _ _ ea)) fun x y z => by cases z) (sc _ _ (sb _ _ ea))
        have eb8 : J8 pb = some (.lst [.int 3]) := k8 _ _ (nbx (sc _ _ eb) fun x y z => by cases z) (sc _ _ eb)
        have nb8 : ∀ {q : Addr} {o : HO}, J8 q = some o → (∀ x y : Int, o ≠ .lst [.int x, .int y]) → q ≠ b := fun {q o} e n z => by
          subst z
          obtain ⟨x, y, e2⟩ := g8
          exact n x y (Option.some.inj (e.symm.trans e2))
        have ec8 := k8 _ _ (nbx ec fun x y z => by cases z) ec
        obtain ⟨v, t, atv, tyv, nov⟩ : ∃ (v : V) (t : String), atI [.int (-1), .int 201, .bl true, .non, .str "3", .ref pa, .ref pb, .int (10 ^ 30)] r5 = some v ∧ (∀ J9, J9 pa = some (.tup [.int 3]) → J9 pb = some (.lst [.int 3]) → ∀ J, Same J9 J → IsTy K J v t) ∧ NoLast v t := odd76 r5a r5b
        have Lc8 : LgAt K J8 p d its nx := by
          obtain ⟨x, y, eg⟩ := gc
          exact Lc.kl k8 eg
        refine rd_sxL (SqL.of ec8) atv ?_
        walk_at "rd_6"
        refine ⟨b, 21, rfl, g8, by decide, by decide, fun r6 J9 r6a r6b k9 g9 => ?_⟩
        obtain ⟨r6, rfl⟩ := Int.eq_ofNat_of_zero_le r6a
        have Lc9 : LgAt K J9 p d its nx := by
          obtain ⟨x, y, eg⟩ := g8
          exact Lc8.kl k9 eg
        have tyv9 : ∀ J, Same J9 J → IsTy K J v t := tyv J9 (k9 _ _ (nb8 ea8 fun x y z => by cases z) ea8) (k9 _ _ (nb8 eb8 fun x y z => by cases z) eb8)
        walk_at "rd_6"
        refine ⟨p, d, its, nx, r6, rfl, Lc9, by omega, l6, l24, fun J10 s10 => ?_⟩
        walk_at "rd_6"
        refine iteF ?_
        walk_at "rd_6"
        refine ⟨p, d, its, nx, grN es, _, _, v, t, rfl, Lc9.same s10, rfl, rfl, gg0, gg5, fit6, l6, l24, fun J s => tyv9 J (Same.trans s10 s), .inl ⟨nov, fun J11 s11 => ?_⟩⟩
        walk_at "rd_6"
        refine iteF ?_
        walk_at "rd_6"
        have KK := K6.trans ((Kp.of sJc).trans (k8.trans (k9.trans (Kp.of (Same.trans s10 s11)))))
        exact ⟨hS2.kp KK g2, (g9.same s10).same s11, _, _, _, _, _, _, rfl⟩
    · obtain ⟨hS2, g2, o3, o4, o5, o6, o7, o8, rfl⟩ := w
      exact ⟨hS2, _, _, _, _, _, _, _, _, rfl⟩
  · obtain ⟨hS1, o1, o2, o3, o4, o5, o6, o7, o8, rfl⟩ := w
    walk_at "rd_6"
    exact q _

theorem all_mk {l : PySem.W.OpenLaw} {w : World} {K : PySem.W.Frag} {h : Heap} {mg : Str → Option Value} {fa : Addr} (X : K.In h) (G : h.Ns mainGlobals mg) (hfa : mg "law" = some (.ref fa))
    {C_L : Addr} (aC : PySem.W.nsIn K mainGlobals "Ledger" = some (some (.ref C_L)))
    (pg : PySem.W.plainGet K C_L Str.empty = true) (hd : PySem.W.hasDictIn K C_L = true) (po : PySem.W.plainOver K C_L = true) (sa : PySem.W.findIn K (.ref C_L) "__setattr__" = some (some (.builtin "object.__setattr__"))) (mk : PySem.W.makesIn K C_L = true) (kc : PySem.W.keepIn K (.ref C_L) = true)
    (nI : PySem.W.findIn K (.ref C_L) "_items" = some none) (nN : PySem.W.findIn K (.ref C_L) "_next_number" = some none)
    {tE tS : Nat} (mcE : PySem.W.findIn K (.ref C_L) "MOST_ENTRIES" = some (some (.int 6 tE))) (gE : PySem.W.specialIn K (.int 6 tE) "__get__" = some none) (mcS : PySem.W.findIn K (.ref C_L) "MOST_STATEMENTS" = some (some (.int 24 tS))) (gS : PySem.W.specialIn K (.int 24 tS) "__get__" = some none)
    {X_BadDay : Addr} (aX_BadDay : PySem.W.nsIn K mainGlobals "BadDay" = some (some (.ref X_BadDay))) (xq_BadDay : PySem.W.excIn K X_BadDay [.type "ValueError", .type "Exception", .type "BaseException", .type "object"] "ValueError.__new__" = true)
    (kx_BadDay : PySem.W.keepIn K (.ref X_BadDay) = true) (ex_BadDay : PySem.W.subIn K (.ref X_BadDay) (.type "BaseException") = some true) (ty_BadDay : PySem.W.typeIn K (.ref X_BadDay) = some (.type "type"))
    (x0BadDay : PySem.W.isClsIn K X_BadDay = true) (x4BadDay : PySem.W.findIn K (.ref X_BadDay) "__getattribute__" = some (some (.builtin "BaseException.__getattribute__"))) (x5BadDay : PySem.W.findIn K (.ref X_BadDay) "__getattr__" = some none) (x7BadDay : PySem.W.findIn K (.ref X_BadDay) "__class__" = some (some (.builtin "object.__class__"))) (xABadDay : PySem.W.mroIn K X_BadDay (.type "object") = some true) (xhBadDay : PySem.W.hasDictIn K X_BadDay = true) (oVBadDay : PySem.W.kitOne K (.ref X_BadDay) (.type "ValueError") = some true)
    {X_NothingLeft : Addr} (aX_NothingLeft : PySem.W.nsIn K mainGlobals "NothingLeft" = some (some (.ref X_NothingLeft))) (xq_NothingLeft : PySem.W.excIn K X_NothingLeft [.type "RuntimeError", .type "Exception", .type "BaseException", .type "object"] "RuntimeError.__new__" = true)
    (kx_NothingLeft : PySem.W.keepIn K (.ref X_NothingLeft) = true) (ex_NothingLeft : PySem.W.subIn K (.ref X_NothingLeft) (.type "BaseException") = some true) (ty_NothingLeft : PySem.W.typeIn K (.ref X_NothingLeft) = some (.type "type"))
    (x0NothingLeft : PySem.W.isClsIn K X_NothingLeft = true) (x4NothingLeft : PySem.W.findIn K (.ref X_NothingLeft) "__getattribute__" = some (some (.builtin "BaseException.__getattribute__"))) (x5NothingLeft : PySem.W.findIn K (.ref X_NothingLeft) "__getattr__" = some none) (x7NothingLeft : PySem.W.findIn K (.ref X_NothingLeft) "__class__" = some (some (.builtin "object.__class__"))) (xANothingLeft : PySem.W.mroIn K X_NothingLeft (.type "object") = some true) (xhNothingLeft : PySem.W.hasDictIn K X_NothingLeft = true) (oVNothingLeft : PySem.W.kitOne K (.ref X_NothingLeft) (.type "RuntimeError") = some true)
    (x8 : PySem.W.specialIn K (.builtin "object.__class__") "__get__" = some (some (.builtin "getset_descriptor.__get__"))) (x9 : PySem.W.takesIn K (.builtin "object.__class__") = some true)
    (cc00 : PySem.W.exmOne K (.ref X_BadDay) (.ref X_BadDay) = some true)
    (cc01 : PySem.W.exmOne K (.ref X_BadDay) (.ref X_NothingLeft) = some false)
    (cc10 : PySem.W.exmOne K (.ref X_NothingLeft) (.ref X_BadDay) = some false)
    (cc11 : PySem.W.exmOne K (.ref X_NothingLeft) (.ref X_NothingLeft) = some true)
    {f0 : Addr} {od0 an0 : Option Addr} {sl0 : Array (Option Value)} {oc0 kV0 dc0 pm0 cd0 ct0 : Value}
    (a0 : PySem.W.nsIn K mainGlobals "_law_bag" = some (some (.ref f0)))
    (l0 : K.lookup f0 = some ⟨oc0, od0, .func (PySem.W.fnOf "_law_bag" "_law_bag" (defArgs S__law_bag) (defBody S__law_bag) (defScope S__law_bag) .none kV0 dc0 pm0 an0 cd0 ct0), sl0⟩) (c0 : PySem.W.codeIn K cd0 "_law_bag" = true) (k0 : PySem.W.keepIn K (.ref f0) = true)
    {f1 : Addr} {od1 an1 : Option Addr} {sl1 : Array (Option Value)} {oc1 kV1 dc1 pm1 cd1 ct1 : Value}
    (a1 : PySem.W.nsIn K mainGlobals "_law_take" = some (some (.ref f1)))
    (l1 : K.lookup f1 = some ⟨oc1, od1, .func (PySem.W.fnOf "_law_take" "_law_take" (defArgs S__law_take) (defBody S__law_take) (defScope S__law_take) .none kV1 dc1 pm1 an1 cd1 ct1), sl1⟩) (c1 : PySem.W.codeIn K cd1 "_law_take" = true) (k1 : PySem.W.keepIn K (.ref f1) = true)
    {f2 : Addr} {od2 an2 : Option Addr} {sl2 : Array (Option Value)} {oc2 kV2 dc2 pm2 cd2 ct2 : Value}
    (a2 : PySem.W.nsIn K mainGlobals "_law_part" = some (some (.ref f2)))
    (l2 : K.lookup f2 = some ⟨oc2, od2, .func (PySem.W.fnOf "_law_part" "_law_part" (defArgs S__law_part) (defBody S__law_part) (defScope S__law_part) .none kV2 dc2 pm2 an2 cd2 ct2), sl2⟩) (c2 : PySem.W.codeIn K cd2 "_law_part" = true) (k2 : PySem.W.keepIn K (.ref f2) = true)
    {f3 : Addr} {od3 an3 : Option Addr} {sl3 : Array (Option Value)} {oc3 kV3 dc3 pm3 cd3 ct3 : Value}
    (a3 : PySem.W.nsIn K mainGlobals "_law_lowest" = some (some (.ref f3)))
    (l3 : K.lookup f3 = some ⟨oc3, od3, .func (PySem.W.fnOf "_law_lowest" "_law_lowest" (defArgs S__law_lowest) (defBody S__law_lowest) (defScope S__law_lowest) .none kV3 dc3 pm3 an3 cd3 ct3), sl3⟩) (c3 : PySem.W.codeIn K cd3 "_law_lowest" = true) (k3 : PySem.W.keepIn K (.ref f3) = true)
    {f4 : Addr} {od4 an4 : Option Addr} {sl4 : Array (Option Value)} {oc4 kV4 dc4 pm4 cd4 ct4 : Value}
    (a4 : PySem.W.nsIn K mainGlobals "is_int" = some (some (.ref f4)))
    (l4 : K.lookup f4 = some ⟨oc4, od4, .func (PySem.W.fnOf "is_int" "is_int" (defArgs S_is_int) (defBody S_is_int) (defScope S_is_int) .none kV4 dc4 pm4 an4 cd4 ct4), sl4⟩) (c4 : PySem.W.codeIn K cd4 "is_int" = true) (k4 : PySem.W.keepIn K (.ref f4) = true)
    {f5 : Addr} {od5 an5 : Option Addr} {sl5 : Array (Option Value)} {oc5 kV5 dc5 pm5 cd5 ct5 : Value}
    (a5 : PySem.W.nsIn K mainGlobals "lowest" = some (some (.ref f5)))
    (l5 : K.lookup f5 = some ⟨oc5, od5, .func (PySem.W.fnOf "lowest" "lowest" (defArgs S_lowest) (defBody S_lowest) (defScope S_lowest) .none kV5 dc5 pm5 an5 cd5 ct5), sl5⟩) (c5 : PySem.W.codeIn K cd5 "lowest" = true) (k5 : PySem.W.keepIn K (.ref f5) = true)
    {f6 : Addr} {od6 an6 : Option Addr} {sl6 : Array (Option Value)} {oc6 kV6 dc6 pm6 cd6 ct6 : Value}
    (a6 : PySem.W.nsIn K mainGlobals "plus" = some (some (.ref f6)))
    (l6 : K.lookup f6 = some ⟨oc6, od6, .func (PySem.W.fnOf "plus" "plus" (defArgs S_plus) (defBody S_plus) (defScope S_plus) .none kV6 dc6 pm6 an6 cd6 ct6), sl6⟩) (c6 : PySem.W.codeIn K cd6 "plus" = true) (k6 : PySem.W.keepIn K (.ref f6) = true)
    {f7 : Addr} {od7 an7 : Option Addr} {sl7 : Array (Option Value)} {oc7 kV7 dc7 pm7 cd7 ct7 : Value}
    (a7 : PySem.W.nsIn K mainGlobals "minus" = some (some (.ref f7)))
    (l7 : K.lookup f7 = some ⟨oc7, od7, .func (PySem.W.fnOf "minus" "minus" (defArgs S_minus) (defBody S_minus) (defScope S_minus) .none kV7 dc7 pm7 an7 cd7 ct7), sl7⟩) (c7 : PySem.W.codeIn K cd7 "minus" = true) (k7 : PySem.W.keepIn K (.ref f7) = true)
    {f8 : Addr} {od8 an8 : Option Addr} {sl8 : Array (Option Value)} {oc8 kV8 dc8 pm8 cd8 ct8 : Value}
    (a8 : PySem.W.nsIn K mainGlobals "floor_of" = some (some (.ref f8)))
    (l8 : K.lookup f8 = some ⟨oc8, od8, .func (PySem.W.fnOf "floor_of" "floor_of" (defArgs S_floor_of) (defBody S_floor_of) (defScope S_floor_of) .none kV8 dc8 pm8 an8 cd8 ct8), sl8⟩) (c8 : PySem.W.codeIn K cd8 "floor_of" = true) (k8 : PySem.W.keepIn K (.ref f8) = true)
    {f9 : Addr} {od9 an9 : Option Addr} {sl9 : Array (Option Value)} {oc9 kV9 dc9 pm9 cd9 ct9 : Value}
    (a9 : PySem.W.nsIn K mainGlobals "is_less" = some (some (.ref f9)))
    (l9 : K.lookup f9 = some ⟨oc9, od9, .func (PySem.W.fnOf "is_less" "is_less" (defArgs S_is_less) (defBody S_is_less) (defScope S_is_less) .none kV9 dc9 pm9 an9 cd9 ct9), sl9⟩) (c9 : PySem.W.codeIn K cd9 "is_less" = true) (k9 : PySem.W.keepIn K (.ref f9) = true)
    {f10 : Addr} {od10 an10 : Option Addr} {sl10 : Array (Option Value)} {oc10 kV10 dc10 pm10 cd10 ct10 : Value}
    (a10 : PySem.W.nsIn K mainGlobals "arc" = some (some (.ref f10)))
    (l10 : K.lookup f10 = some ⟨oc10, od10, .func (PySem.W.fnOf "arc" "arc" (defArgs S_arc) (defBody S_arc) (defScope S_arc) .none kV10 dc10 pm10 an10 cd10 ct10), sl10⟩) (c10 : PySem.W.codeIn K cd10 "arc" = true) (k10 : PySem.W.keepIn K (.ref f10) = true)
    {f11 : Addr} {od11 an11 : Option Addr} {sl11 : Array (Option Value)} {oc11 kV11 dc11 pm11 cd11 ct11 : Value}
    (a11 : PySem.W.nsIn K mainGlobals "both" = some (some (.ref f11)))
    (l11 : K.lookup f11 = some ⟨oc11, od11, .func (PySem.W.fnOf "both" "both" (defArgs S_both) (defBody S_both) (defScope S_both) .none kV11 dc11 pm11 an11 cd11 ct11), sl11⟩) (c11 : PySem.W.codeIn K cd11 "both" = true) (k11 : PySem.W.keepIn K (.ref f11) = true)
    {f12 : Addr} {od12 an12 : Option Addr} {sl12 : Array (Option Value)} {oc12 kV12 dc12 pm12 cd12 ct12 : Value}
    (a12 : PySem.W.nsIn K mainGlobals "is_day" = some (some (.ref f12)))
    (l12 : K.lookup f12 = some ⟨oc12, od12, .func (PySem.W.fnOf "is_day" "is_day" (defArgs S_is_day) (defBody S_is_day) (defScope S_is_day) .none kV12 dc12 pm12 an12 cd12 ct12), sl12⟩) (c12 : PySem.W.codeIn K cd12 "is_day" = true) (k12 : PySem.W.keepIn K (.ref f12) = true)
    {f13 : Addr} {od13 an13 : Option Addr} {sl13 : Array (Option Value)} {oc13 kV13 dc13 pm13 cd13 ct13 : Value}
    (a13 : PySem.W.nsIn K mainGlobals "_is_many" = some (some (.ref f13)))
    (l13 : K.lookup f13 = some ⟨oc13, od13, .func (PySem.W.fnOf "_is_many" "_is_many" (defArgs S__is_many) (defBody S__is_many) (defScope S__is_many) .none kV13 dc13 pm13 an13 cd13 ct13), sl13⟩) (c13 : PySem.W.codeIn K cd13 "_is_many" = true) (k13 : PySem.W.keepIn K (.ref f13) = true)
    {f14 : Addr} {od14 an14 : Option Addr} {sl14 : Array (Option Value)} {oc14 kV14 dc14 pm14 cd14 ct14 : Value}
    (a14 : PySem.W.nsIn K mainGlobals "check_day" = some (some (.ref f14)))
    (l14 : K.lookup f14 = some ⟨oc14, od14, .func (PySem.W.fnOf "check_day" "check_day" (defArgs S_check_day) (defBody S_check_day) (defScope S_check_day) .none kV14 dc14 pm14 an14 cd14 ct14), sl14⟩) (c14 : PySem.W.codeIn K cd14 "check_day" = true) (k14 : PySem.W.keepIn K (.ref f14) = true)
    {f15 : Addr} {od15 an15 : Option Addr} {sl15 : Array (Option Value)} {oc15 kV15 dc15 pm15 cd15 ct15 : Value}
    (a15 : PySem.W.nsIn K mainGlobals "is_stretch" = some (some (.ref f15)))
    (l15 : K.lookup f15 = some ⟨oc15, od15, .func (PySem.W.fnOf "is_stretch" "is_stretch" (defArgs S_is_stretch) (defBody S_is_stretch) (defScope S_is_stretch) .none kV15 dc15 pm15 an15 cd15 ct15), sl15⟩) (c15 : PySem.W.codeIn K cd15 "is_stretch" = true) (k15 : PySem.W.keepIn K (.ref f15) = true)
    {f16 : Addr} {od16 an16 : Option Addr} {sl16 : Array (Option Value)} {oc16 kV16 dc16 pm16 cd16 ct16 : Value}
    (a16 : PySem.W.nsIn K mainGlobals "check_stretch" = some (some (.ref f16)))
    (l16 : K.lookup f16 = some ⟨oc16, od16, .func (PySem.W.fnOf "check_stretch" "check_stretch" (defArgs S_check_stretch) (defBody S_check_stretch) (defScope S_check_stretch) .none kV16 dc16 pm16 an16 cd16 ct16), sl16⟩) (c16 : PySem.W.codeIn K cd16 "check_stretch" = true) (k16 : PySem.W.keepIn K (.ref f16) = true)
    {f17 : Addr} {od17 an17 : Option Addr} {sl17 : Array (Option Value)} {oc17 kV17 dc17 pm17 cd17 ct17 : Value}
    (a17 : PySem.W.nsIn K mainGlobals "rest_of" = some (some (.ref f17)))
    (l17 : K.lookup f17 = some ⟨oc17, od17, .func (PySem.W.fnOf "rest_of" "rest_of" (defArgs S_rest_of) (defBody S_rest_of) (defScope S_rest_of) .none kV17 dc17 pm17 an17 cd17 ct17), sl17⟩) (c17 : PySem.W.codeIn K cd17 "rest_of" = true) (k17 : PySem.W.keepIn K (.ref f17) = true)
    {f18 : Addr} {od18 an18 : Option Addr} {sl18 : Array (Option Value)} {oc18 kV18 dc18 pm18 cd18 ct18 : Value}
    (a18 : PySem.W.nsIn K mainGlobals "_total" = some (some (.ref f18)))
    (l18 : K.lookup f18 = some ⟨oc18, od18, .func (PySem.W.fnOf "_total" "_total" (defArgs S__total) (defBody S__total) (defScope S__total) .none kV18 dc18 pm18 an18 cd18 ct18), sl18⟩) (c18 : PySem.W.codeIn K cd18 "_total" = true) (k18 : PySem.W.keepIn K (.ref f18) = true)
    {f19 : Addr} {od19 an19 : Option Addr} {sl19 : Array (Option Value)} {oc19 kV19 dc19 pm19 cd19 ct19 : Value}
    (a19 : PySem.W.nsIn K mainGlobals "_given_before" = some (some (.ref f19)))
    (l19 : K.lookup f19 = some ⟨oc19, od19, .func (PySem.W.fnOf "_given_before" "_given_before" (defArgs S__given_before) (defBody S__given_before) (defScope S__given_before) .none kV19 dc19 pm19 an19 cd19 ct19), sl19⟩) (c19 : PySem.W.codeIn K cd19 "_given_before" = true) (k19 : PySem.W.keepIn K (.ref f19) = true)
    {f20 : Addr} {od20 an20 : Option Addr} {sl20 : Array (Option Value)} {oc20 kV20 dc20 pm20 cd20 ct20 : Value}
    (a20 : PySem.W.nsIn K mainGlobals "sum_before" = some (some (.ref f20)))
    (l20 : K.lookup f20 = some ⟨oc20, od20, .func (PySem.W.fnOf "sum_before" "sum_before" (defArgs S_sum_before) (defBody S_sum_before) (defScope S_sum_before) .none kV20 dc20 pm20 an20 cd20 ct20), sl20⟩) (c20 : PySem.W.codeIn K cd20 "sum_before" = true) (k20 : PySem.W.keepIn K (.ref f20) = true)
    {f21 : Addr} {od21 an21 : Option Addr} {sl21 : Array (Option Value)} {oc21 kV21 dc21 pm21 cd21 ct21 : Value}
    (a21 : PySem.W.nsIn K mainGlobals "point" = some (some (.ref f21)))
    (l21 : K.lookup f21 = some ⟨oc21, od21, .func (PySem.W.fnOf "point" "point" (defArgs S_point) (defBody S_point) (defScope S_point) .none kV21 dc21 pm21 an21 cd21 ct21), sl21⟩) (c21 : PySem.W.codeIn K cd21 "point" = true) (k21 : PySem.W.keepIn K (.ref f21) = true)
    {f22 : Addr} {od22 an22 : Option Addr} {sl22 : Array (Option Value)} {oc22 kV22 dc22 pm22 cd22 ct22 : Value}
    (a22 : PySem.W.nsIn K mainGlobals "exact" = some (some (.ref f22)))
    (l22 : K.lookup f22 = some ⟨oc22, od22, .func (PySem.W.fnOf "exact" "exact" (defArgs S_exact) (defBody S_exact) (defScope S_exact) .none kV22 dc22 pm22 an22 cd22 ct22), sl22⟩) (c22 : PySem.W.codeIn K cd22 "exact" = true) (k22 : PySem.W.keepIn K (.ref f22) = true)
    {f23 : Addr} {od23 an23 : Option Addr} {sl23 : Array (Option Value)} {oc23 kV23 dc23 pm23 cd23 ct23 : Value}
    (a23 : PySem.W.nsIn K mainGlobals "is_ratio" = some (some (.ref f23)))
    (l23 : K.lookup f23 = some ⟨oc23, od23, .func (PySem.W.fnOf "is_ratio" "is_ratio" (defArgs S_is_ratio) (defBody S_is_ratio) (defScope S_is_ratio) .none kV23 dc23 pm23 an23 cd23 ct23), sl23⟩) (c23 : PySem.W.codeIn K cd23 "is_ratio" = true) (k23 : PySem.W.keepIn K (.ref f23) = true)
    {f24 : Addr} {od24 an24 : Option Addr} {sl24 : Array (Option Value)} {oc24 kV24 dc24 pm24 cd24 ct24 : Value}
    (a24 : PySem.W.nsIn K mainGlobals "is_amount" = some (some (.ref f24)))
    (l24 : K.lookup f24 = some ⟨oc24, od24, .func (PySem.W.fnOf "is_amount" "is_amount" (defArgs S_is_amount) (defBody S_is_amount) (defScope S_is_amount) .none kV24 dc24 pm24 an24 cd24 ct24), sl24⟩) (c24 : PySem.W.codeIn K cd24 "is_amount" = true) (k24 : PySem.W.keepIn K (.ref f24) = true)
    {f25 : Addr} {od25 an25 : Option Addr} {sl25 : Array (Option Value)} {oc25 kV25 dc25 pm25 cd25 ct25 : Value}
    (a25 : PySem.W.nsIn K mainGlobals "_is_amounts" = some (some (.ref f25)))
    (l25 : K.lookup f25 = some ⟨oc25, od25, .func (PySem.W.fnOf "_is_amounts" "_is_amounts" (defArgs S__is_amounts) (defBody S__is_amounts) (defScope S__is_amounts) .none kV25 dc25 pm25 an25 cd25 ct25), sl25⟩) (c25 : PySem.W.codeIn K cd25 "_is_amounts" = true) (k25 : PySem.W.keepIn K (.ref f25) = true)
    {f26 : Addr} {od26 an26 : Option Addr} {sl26 : Array (Option Value)} {oc26 kV26 dc26 pm26 cd26 ct26 : Value}
    (a26 : PySem.W.nsIn K mainGlobals "wrong_part" = some (some (.ref f26)))
    (l26 : K.lookup f26 = some ⟨oc26, od26, .func (PySem.W.fnOf "wrong_part" "wrong_part" (defArgs S_wrong_part) (defBody S_wrong_part) (defScope S_wrong_part) .none kV26 dc26 pm26 an26 cd26 ct26), sl26⟩) (c26 : PySem.W.codeIn K cd26 "wrong_part" = true) (k26 : PySem.W.keepIn K (.ref f26) = true)
    {f27 : Addr} {od27 an27 : Option Addr} {sl27 : Array (Option Value)} {oc27 kV27 dc27 pm27 cd27 ct27 : Value}
    (a27 : PySem.W.nsIn K mainGlobals "check_item" = some (some (.ref f27)))
    (l27 : K.lookup f27 = some ⟨oc27, od27, .func (PySem.W.fnOf "check_item" "check_item" (defArgs S_check_item) (defBody S_check_item) (defScope S_check_item) .none kV27 dc27 pm27 an27 cd27 ct27), sl27⟩) (c27 : PySem.W.codeIn K cd27 "check_item" = true) (k27 : PySem.W.keepIn K (.ref f27) = true)
    {f28 : Addr} {od28 an28 : Option Addr} {sl28 : Array (Option Value)} {oc28 kV28 dc28 pm28 cd28 ct28 : Value}
    (a28 : PySem.W.findIn K (.ref C_L) "__init__" = some (some (.ref f28))) (i28 : PySem.W.isFn K (.ref f28) = true)
    (l28 : K.lookup f28 = some ⟨oc28, od28, .func (PySem.W.fnOf "__init__" "Ledger.__init__" (defArgs S_Ledger___init__) (defBody S_Ledger___init__) (defScope S_Ledger___init__) .none kV28 dc28 pm28 an28 cd28 ct28), sl28⟩) (c28 : PySem.W.codeIn K cd28 "Ledger.__init__" = true) (k28 : PySem.W.keepIn K (.ref f28) = true)
    {f29 : Addr} {od29 an29 : Option Addr} {sl29 : Array (Option Value)} {oc29 kV29 dc29 pm29 cd29 ct29 : Value}
    (a29 : PySem.W.findIn K (.ref C_L) "_of_kind" = some (some (.ref f29))) (i29 : PySem.W.isFn K (.ref f29) = true)
    (l29 : K.lookup f29 = some ⟨oc29, od29, .func (PySem.W.fnOf "_of_kind" "Ledger._of_kind" (defArgs S_Ledger__of_kind) (defBody S_Ledger__of_kind) (defScope S_Ledger__of_kind) .none kV29 dc29 pm29 an29 cd29 ct29), sl29⟩) (c29 : PySem.W.codeIn K cd29 "Ledger._of_kind" = true) (k29 : PySem.W.keepIn K (.ref f29) = true)
    {f30 : Addr} {od30 an30 : Option Addr} {sl30 : Array (Option Value)} {oc30 kV30 dc30 pm30 cd30 ct30 : Value}
    (a30 : PySem.W.findIn K (.ref C_L) "entries" = some (some (.ref f30))) (i30 : PySem.W.isFn K (.ref f30) = true)
    (l30 : K.lookup f30 = some ⟨oc30, od30, .func (PySem.W.fnOf "entries" "Ledger.entries" (defArgs S_Ledger_entries) (defBody S_Ledger_entries) (defScope S_Ledger_entries) .none kV30 dc30 pm30 an30 cd30 ct30), sl30⟩) (c30 : PySem.W.codeIn K cd30 "Ledger.entries" = true) (k30 : PySem.W.keepIn K (.ref f30) = true)
    {f31 : Addr} {od31 an31 : Option Addr} {sl31 : Array (Option Value)} {oc31 kV31 dc31 pm31 cd31 ct31 : Value}
    (a31 : PySem.W.findIn K (.ref C_L) "statements" = some (some (.ref f31))) (i31 : PySem.W.isFn K (.ref f31) = true)
    (l31 : K.lookup f31 = some ⟨oc31, od31, .func (PySem.W.fnOf "statements" "Ledger.statements" (defArgs S_Ledger_statements) (defBody S_Ledger_statements) (defScope S_Ledger_statements) .none kV31 dc31 pm31 an31 cd31 ct31), sl31⟩) (c31 : PySem.W.codeIn K cd31 "Ledger.statements" = true) (k31 : PySem.W.keepIn K (.ref f31) = true)
    {f32 : Addr} {od32 an32 : Option Addr} {sl32 : Array (Option Value)} {oc32 kV32 dc32 pm32 cd32 ct32 : Value}
    (a32 : PySem.W.findIn K (.ref C_L) "numbered" = some (some (.ref f32))) (i32 : PySem.W.isFn K (.ref f32) = true)
    (l32 : K.lookup f32 = some ⟨oc32, od32, .func (PySem.W.fnOf "numbered" "Ledger.numbered" (defArgs S_Ledger_numbered) (defBody S_Ledger_numbered) (defScope S_Ledger_numbered) .none kV32 dc32 pm32 an32 cd32 ct32), sl32⟩) (c32 : PySem.W.codeIn K cd32 "Ledger.numbered" = true) (k32 : PySem.W.keepIn K (.ref f32) = true)
    {f33 : Addr} {od33 an33 : Option Addr} {sl33 : Array (Option Value)} {oc33 kV33 dc33 pm33 cd33 ct33 : Value}
    (a33 : PySem.W.findIn K (.ref C_L) "_check_number" = some (some (.ref f33))) (i33 : PySem.W.isFn K (.ref f33) = true)
    (l33 : K.lookup f33 = some ⟨oc33, od33, .func (PySem.W.fnOf "_check_number" "Ledger._check_number" (defArgs S_Ledger__check_number) (defBody S_Ledger__check_number) (defScope S_Ledger__check_number) .none kV33 dc33 pm33 an33 cd33 ct33), sl33⟩) (c33 : PySem.W.codeIn K cd33 "Ledger._check_number" = true) (k33 : PySem.W.keepIn K (.ref f33) = true)
    {f34 : Addr} {od34 an34 : Option Addr} {sl34 : Array (Option Value)} {oc34 kV34 dc34 pm34 cd34 ct34 : Value}
    (a34 : PySem.W.findIn K (.ref C_L) "add" = some (some (.ref f34))) (i34 : PySem.W.isFn K (.ref f34) = true)
    (l34 : K.lookup f34 = some ⟨oc34, od34, .func (PySem.W.fnOf "add" "Ledger.add" (defArgs S_Ledger_add) (defBody S_Ledger_add) (defScope S_Ledger_add) .none kV34 dc34 pm34 an34 cd34 ct34), sl34⟩) (c34 : PySem.W.codeIn K cd34 "Ledger.add" = true) (k34 : PySem.W.keepIn K (.ref f34) = true)
    {f35 : Addr} {od35 an35 : Option Addr} {sl35 : Array (Option Value)} {oc35 kV35 dc35 pm35 cd35 ct35 : Value}
    (a35 : PySem.W.findIn K (.ref C_L) "drop" = some (some (.ref f35))) (i35 : PySem.W.isFn K (.ref f35) = true)
    (l35 : K.lookup f35 = some ⟨oc35, od35, .func (PySem.W.fnOf "drop" "Ledger.drop" (defArgs S_Ledger_drop) (defBody S_Ledger_drop) (defScope S_Ledger_drop) .none kV35 dc35 pm35 an35 cd35 ct35), sl35⟩) (c35 : PySem.W.codeIn K cd35 "Ledger.drop" = true) (k35 : PySem.W.keepIn K (.ref f35) = true)
    {f36 : Addr} {od36 an36 : Option Addr} {sl36 : Array (Option Value)} {oc36 kV36 dc36 pm36 cd36 ct36 : Value}
    (a36 : PySem.W.nsIn K mainGlobals "_law_ledger" = some (some (.ref f36)))
    (l36 : K.lookup f36 = some ⟨oc36, od36, .func (PySem.W.fnOf "_law_ledger" "_law_ledger" (defArgs S__law_ledger) (defBody S__law_ledger) (defScope S__law_ledger) .none kV36 dc36 pm36 an36 cd36 ct36), sl36⟩) (c36 : PySem.W.codeIn K cd36 "_law_ledger" = true) (k36 : PySem.W.keepIn K (.ref f36) = true)
    {f37 : Addr} {od37 an37 : Option Addr} {sl37 : Array (Option Value)} {oc37 kV37 dc37 pm37 cd37 ct37 : Value}
    (a37 : PySem.W.nsIn K mainGlobals "choices" = some (some (.ref f37)))
    (l37 : K.lookup f37 = some ⟨oc37, od37, .func (PySem.W.fnOf "choices" "choices" (defArgs S_choices) (defBody S_choices) (defScope S_choices) .none kV37 dc37 pm37 an37 cd37 ct37), sl37⟩) (c37 : PySem.W.codeIn K cd37 "choices" = true) (k37 : PySem.W.keepIn K (.ref f37) = true)
    {f38 : Addr} {od38 an38 : Option Addr} {sl38 : Array (Option Value)} {oc38 kV38 dc38 pm38 cd38 ct38 : Value}
    (a38 : PySem.W.nsIn K mainGlobals "_telling" = some (some (.ref f38)))
    (l38 : K.lookup f38 = some ⟨oc38, od38, .func (PySem.W.fnOf "_telling" "_telling" (defArgs S__telling) (defBody S__telling) (defScope S__telling) .none kV38 dc38 pm38 an38 cd38 ct38), sl38⟩) (c38 : PySem.W.codeIn K cd38 "_telling" = true) (k38 : PySem.W.keepIn K (.ref f38) = true)
    {f39 : Addr} {od39 an39 : Option Addr} {sl39 : Array (Option Value)} {oc39 kV39 dc39 pm39 cd39 ct39 : Value}
    (a39 : PySem.W.nsIn K mainGlobals "allowed" = some (some (.ref f39)))
    (l39 : K.lookup f39 = some ⟨oc39, od39, .func (PySem.W.fnOf "allowed" "allowed" (defArgs S_allowed) (defBody S_allowed) (defScope S_allowed) .none kV39 dc39 pm39 an39 cd39 ct39), sl39⟩) (c39 : PySem.W.codeIn K cd39 "allowed" = true) (k39 : PySem.W.keepIn K (.ref f39) = true)
    {f40 : Addr} {od40 an40 : Option Addr} {sl40 : Array (Option Value)} {oc40 kV40 dc40 pm40 cd40 ct40 : Value}
    (a40 : PySem.W.nsIn K mainGlobals "telling_all" = some (some (.ref f40)))
    (l40 : K.lookup f40 = some ⟨oc40, od40, .func (PySem.W.fnOf "telling_all" "telling_all" (defArgs S_telling_all) (defBody S_telling_all) (defScope S_telling_all) .none kV40 dc40 pm40 an40 cd40 ct40), sl40⟩) (c40 : PySem.W.codeIn K cd40 "telling_all" = true) (k40 : PySem.W.keepIn K (.ref f40) = true)
    {f41 : Addr} {od41 an41 : Option Addr} {sl41 : Array (Option Value)} {oc41 kV41 dc41 pm41 cd41 ct41 : Value}
    (a41 : PySem.W.nsIn K mainGlobals "left" = some (some (.ref f41)))
    (l41 : K.lookup f41 = some ⟨oc41, od41, .func (PySem.W.fnOf "left" "left" (defArgs S_left) (defBody S_left) (defScope S_left) .none kV41 dc41 pm41 an41 cd41 ct41), sl41⟩) (c41 : PySem.W.codeIn K cd41 "left" = true) (k41 : PySem.W.keepIn K (.ref f41) = true)
    {f42 : Addr} {od42 an42 : Option Addr} {sl42 : Array (Option Value)} {oc42 kV42 dc42 pm42 cd42 ct42 : Value}
    (a42 : PySem.W.nsIn K mainGlobals "_law_amount" = some (some (.ref f42)))
    (l42 : K.lookup f42 = some ⟨oc42, od42, .func (PySem.W.fnOf "_law_amount" "_law_amount" (defArgs S__law_amount) (defBody S__law_amount) (defScope S__law_amount) .none kV42 dc42 pm42 an42 cd42 ct42), sl42⟩) (c42 : PySem.W.codeIn K cd42 "_law_amount" = true) (k42 : PySem.W.keepIn K (.ref f42) = true)
    {f43 : Addr} {od43 an43 : Option Addr} {sl43 : Array (Option Value)} {oc43 kV43 dc43 pm43 cd43 ct43 : Value}
    (a43 : PySem.W.nsIn K mainGlobals "_law_entry" = some (some (.ref f43)))
    (l43 : K.lookup f43 = some ⟨oc43, od43, .func (PySem.W.fnOf "_law_entry" "_law_entry" (defArgs S__law_entry) (defBody S__law_entry) (defScope S__law_entry) .none kV43 dc43 pm43 an43 cd43 ct43), sl43⟩) (c43 : PySem.W.codeIn K cd43 "_law_entry" = true) (k43 : PySem.W.keepIn K (.ref f43) = true)
    {f44 : Addr} {od44 an44 : Option Addr} {sl44 : Array (Option Value)} {oc44 kV44 dc44 pm44 cd44 ct44 : Value}
    (a44 : PySem.W.nsIn K mainGlobals "_law_entries" = some (some (.ref f44)))
    (l44 : K.lookup f44 = some ⟨oc44, od44, .func (PySem.W.fnOf "_law_entries" "_law_entries" (defArgs S__law_entries) (defBody S__law_entries) (defScope S__law_entries) .none kV44 dc44 pm44 an44 cd44 ct44), sl44⟩) (c44 : PySem.W.codeIn K cd44 "_law_entries" = true) (k44 : PySem.W.keepIn K (.ref f44) = true)
    {f45 : Addr} {od45 an45 : Option Addr} {sl45 : Array (Option Value)} {oc45 kV45 dc45 pm45 cd45 ct45 : Value}
    (a45 : PySem.W.nsIn K mainGlobals "_law_grain" = some (some (.ref f45)))
    (l45 : K.lookup f45 = some ⟨oc45, od45, .func (PySem.W.fnOf "_law_grain" "_law_grain" (defArgs S__law_grain) (defBody S__law_grain) (defScope S__law_grain) .none kV45 dc45 pm45 an45 cd45 ct45), sl45⟩) (c45 : PySem.W.codeIn K cd45 "_law_grain" = true) (k45 : PySem.W.keepIn K (.ref f45) = true)
    {f46 : Addr} {od46 an46 : Option Addr} {sl46 : Array (Option Value)} {oc46 kV46 dc46 pm46 cd46 ct46 : Value}
    (a46 : PySem.W.nsIn K mainGlobals "_law_before" = some (some (.ref f46)))
    (l46 : K.lookup f46 = some ⟨oc46, od46, .func (PySem.W.fnOf "_law_before" "_law_before" (defArgs S__law_before) (defBody S__law_before) (defScope S__law_before) .none kV46 dc46 pm46 an46 cd46 ct46), sl46⟩) (c46 : PySem.W.codeIn K cd46 "_law_before" = true) (k46 : PySem.W.keepIn K (.ref f46) = true)
    {f47 : Addr} {od47 an47 : Option Addr} {sl47 : Array (Option Value)} {oc47 kV47 dc47 pm47 cd47 ct47 : Value}
    (a47 : PySem.W.nsIn K mainGlobals "_law_told" = some (some (.ref f47)))
    (l47 : K.lookup f47 = some ⟨oc47, od47, .func (PySem.W.fnOf "_law_told" "_law_told" (defArgs S__law_told) (defBody S__law_told) (defScope S__law_told) .none kV47 dc47 pm47 an47 cd47 ct47), sl47⟩) (c47 : PySem.W.codeIn K cd47 "_law_told" = true) (k47 : PySem.W.keepIn K (.ref f47) = true)
    {f48 : Addr} {od48 an48 : Option Addr} {sl48 : Array (Option Value)} {oc48 kV48 dc48 pm48 cd48 ct48 : Value}
    (a48 : PySem.W.nsIn K mainGlobals "_law_stretch" = some (some (.ref f48)))
    (l48 : K.lookup f48 = some ⟨oc48, od48, .func (PySem.W.fnOf "_law_stretch" "_law_stretch" (defArgs S__law_stretch) (defBody S__law_stretch) (defScope S__law_stretch) .none kV48 dc48 pm48 an48 cd48 ct48), sl48⟩) (c48 : PySem.W.codeIn K cd48 "_law_stretch" = true) (k48 : PySem.W.keepIn K (.ref f48) = true)
    {f49 : Addr} {od49 an49 : Option Addr} {sl49 : Array (Option Value)} {oc49 kV49 dc49 pm49 cd49 ct49 : Value}
    (a49 : PySem.W.nsIn K mainGlobals "_law_points" = some (some (.ref f49)))
    (l49 : K.lookup f49 = some ⟨oc49, od49, .func (PySem.W.fnOf "_law_points" "_law_points" (defArgs S__law_points) (defBody S__law_points) (defScope S__law_points) .none kV49 dc49 pm49 an49 cd49 ct49), sl49⟩) (c49 : PySem.W.codeIn K cd49 "_law_points" = true) (k49 : PySem.W.keepIn K (.ref f49) = true)
    {f50 : Addr} {od50 an50 : Option Addr} {sl50 : Array (Option Value)} {oc50 kV50 dc50 pm50 cd50 ct50 : Value}
    (a50 : PySem.W.nsIn K mainGlobals "_law_ends" = some (some (.ref f50)))
    (l50 : K.lookup f50 = some ⟨oc50, od50, .func (PySem.W.fnOf "_law_ends" "_law_ends" (defArgs S__law_ends) (defBody S__law_ends) (defScope S__law_ends) .none kV50 dc50 pm50 an50 cd50 ct50), sl50⟩) (c50 : PySem.W.codeIn K cd50 "_law_ends" = true) (k50 : PySem.W.keepIn K (.ref f50) = true)
    {f51 : Addr} {od51 an51 : Option Addr} {sl51 : Array (Option Value)} {oc51 kV51 dc51 pm51 cd51 ct51 : Value}
    (a51 : PySem.W.nsIn K mainGlobals "_law_left" = some (some (.ref f51)))
    (l51 : K.lookup f51 = some ⟨oc51, od51, .func (PySem.W.fnOf "_law_left" "_law_left" (defArgs S__law_left) (defBody S__law_left) (defScope S__law_left) .none kV51 dc51 pm51 an51 cd51 ct51), sl51⟩) (c51 : PySem.W.codeIn K cd51 "_law_left" = true) (k51 : PySem.W.keepIn K (.ref f51) = true)
    {f52 : Addr} {od52 an52 : Option Addr} {sl52 : Array (Option Value)} {oc52 kV52 dc52 pm52 cd52 ct52 : Value}
    (a52 : PySem.W.nsIn K mainGlobals "_law_any_statements" = some (some (.ref f52)))
    (l52 : K.lookup f52 = some ⟨oc52, od52, .func (PySem.W.fnOf "_law_any_statements" "_law_any_statements" (defArgs S__law_any_statements) (defBody S__law_any_statements) (defScope S__law_any_statements) .none kV52 dc52 pm52 an52 cd52 ct52), sl52⟩) (c52 : PySem.W.codeIn K cd52 "_law_any_statements" = true) (k52 : PySem.W.keepIn K (.ref f52) = true)
    {f53 : Addr} {od53 an53 : Option Addr} {sl53 : Array (Option Value)} {oc53 kV53 dc53 pm53 cd53 ct53 : Value}
    (a53 : PySem.W.nsIn K mainGlobals "_law_true_statements" = some (some (.ref f53)))
    (l53 : K.lookup f53 = some ⟨oc53, od53, .func (PySem.W.fnOf "_law_true_statements" "_law_true_statements" (defArgs S__law_true_statements) (defBody S__law_true_statements) (defScope S__law_true_statements) .none kV53 dc53 pm53 an53 cd53 ct53), sl53⟩) (c53 : PySem.W.codeIn K cd53 "_law_true_statements" = true) (k53 : PySem.W.keepIn K (.ref f53) = true)
    {f54 : Addr} {od54 an54 : Option Addr} {sl54 : Array (Option Value)} {oc54 kV54 dc54 pm54 cd54 ct54 : Value}
    (a54 : PySem.W.nsIn K mainGlobals "_law_whole" = some (some (.ref f54)))
    (l54 : K.lookup f54 = some ⟨oc54, od54, .func (PySem.W.fnOf "_law_whole" "_law_whole" (defArgs S__law_whole) (defBody S__law_whole) (defScope S__law_whole) .none kV54 dc54 pm54 an54 cd54 ct54), sl54⟩) (c54 : PySem.W.codeIn K cd54 "_law_whole" = true) (k54 : PySem.W.keepIn K (.ref f54) = true)
    {f55 : Addr} {od55 an55 : Option Addr} {sl55 : Array (Option Value)} {oc55 kV55 dc55 pm55 cd55 ct55 : Value}
    (a55 : PySem.W.nsIn K mainGlobals "is_last" = some (some (.ref f55)))
    (l55 : K.lookup f55 = some ⟨oc55, od55, .func (PySem.W.fnOf "is_last" "is_last" (defArgs S_is_last) (defBody S_is_last) (defScope S_is_last) .none kV55 dc55 pm55 an55 cd55 ct55), sl55⟩) (c55 : PySem.W.codeIn K cd55 "is_last" = true) (k55 : PySem.W.keepIn K (.ref f55) = true)
    {f56 : Addr} {od56 an56 : Option Addr} {sl56 : Array (Option Value)} {oc56 kV56 dc56 pm56 cd56 ct56 : Value}
    (a56 : PySem.W.nsIn K mainGlobals "points_up_to" = some (some (.ref f56)))
    (l56 : K.lookup f56 = some ⟨oc56, od56, .func (PySem.W.fnOf "points_up_to" "points_up_to" (defArgs S_points_up_to) (defBody S_points_up_to) (defScope S_points_up_to) .none kV56 dc56 pm56 an56 cd56 ct56), sl56⟩) (c56 : PySem.W.codeIn K cd56 "points_up_to" = true) (k56 : PySem.W.keepIn K (.ref f56) = true)
    {f57 : Addr} {od57 an57 : Option Addr} {sl57 : Array (Option Value)} {oc57 kV57 dc57 pm57 cd57 ct57 : Value}
    (a57 : PySem.W.nsIn K mainGlobals "_ascending" = some (some (.ref f57)))
    (l57 : K.lookup f57 = some ⟨oc57, od57, .func (PySem.W.fnOf "_ascending" "_ascending" (defArgs S__ascending) (defBody S__ascending) (defScope S__ascending) .none kV57 dc57 pm57 an57 cd57 ct57), sl57⟩) (c57 : PySem.W.codeIn K cd57 "_ascending" = true) (k57 : PySem.W.keepIn K (.ref f57) = true)
    {f58 : Addr} {od58 an58 : Option Addr} {sl58 : Array (Option Value)} {oc58 kV58 dc58 pm58 cd58 ct58 : Value}
    (a58 : PySem.W.nsIn K mainGlobals "cells" = some (some (.ref f58)))
    (l58 : K.lookup f58 = some ⟨oc58, od58, .func (PySem.W.fnOf "cells" "cells" (defArgs S_cells) (defBody S_cells) (defScope S_cells) .none kV58 dc58 pm58 an58 cd58 ct58), sl58⟩) (c58 : PySem.W.codeIn K cd58 "cells" = true) (k58 : PySem.W.keepIn K (.ref f58) = true)
    {f59 : Addr} {od59 an59 : Option Addr} {sl59 : Array (Option Value)} {oc59 kV59 dc59 pm59 cd59 ct59 : Value}
    (a59 : PySem.W.nsIn K mainGlobals "_some_left" = some (some (.ref f59)))
    (l59 : K.lookup f59 = some ⟨oc59, od59, .func (PySem.W.fnOf "_some_left" "_some_left" (defArgs S__some_left) (defBody S__some_left) (defScope S__some_left) .none kV59 dc59 pm59 an59 cd59 ct59), sl59⟩) (c59 : PySem.W.codeIn K cd59 "_some_left" = true) (k59 : PySem.W.keepIn K (.ref f59) = true)
    {f60 : Addr} {od60 an60 : Option Addr} {sl60 : Array (Option Value)} {oc60 kV60 dc60 pm60 cd60 ct60 : Value}
    (a60 : PySem.W.nsIn K mainGlobals "_tree" = some (some (.ref f60)))
    (l60 : K.lookup f60 = some ⟨oc60, od60, .func (PySem.W.fnOf "_tree" "_tree" (defArgs S__tree) (defBody S__tree) (defScope S__tree) .none kV60 dc60 pm60 an60 cd60 ct60), sl60⟩) (c60 : PySem.W.codeIn K cd60 "_tree" = true) (k60 : PySem.W.keepIn K (.ref f60) = true)
    {f61 : Addr} {od61 an61 : Option Addr} {sl61 : Array (Option Value)} {oc61 kV61 dc61 pm61 cd61 ct61 : Value}
    (a61 : PySem.W.nsIn K mainGlobals "plan" = some (some (.ref f61)))
    (l61 : K.lookup f61 = some ⟨oc61, od61, .func (PySem.W.fnOf "plan" "plan" (defArgs S_plan) (defBody S_plan) (defScope S_plan) .none kV61 dc61 pm61 an61 cd61 ct61), sl61⟩) (c61 : PySem.W.codeIn K cd61 "plan" = true) (k61 : PySem.W.keepIn K (.ref f61) = true)
    {f62 : Addr} {od62 an62 : Option Addr} {sl62 : Array (Option Value)} {oc62 kV62 dc62 pm62 cd62 ct62 : Value}
    (a62 : PySem.W.nsIn K mainGlobals "plan_paper" = some (some (.ref f62)))
    (l62 : K.lookup f62 = some ⟨oc62, od62, .func (PySem.W.fnOf "plan_paper" "plan_paper" (defArgs S_plan_paper) (defBody S_plan_paper) (defScope S_plan_paper) .none kV62 dc62 pm62 an62 cd62 ct62), sl62⟩) (c62 : PySem.W.codeIn K cd62 "plan_paper" = true) (k62 : PySem.W.keepIn K (.ref f62) = true)
    {f63 : Addr} {od63 an63 : Option Addr} {sl63 : Array (Option Value)} {oc63 kV63 dc63 pm63 cd63 ct63 : Value}
    (a63 : PySem.W.nsIn K mainGlobals "_law_said" = some (some (.ref f63)))
    (l63 : K.lookup f63 = some ⟨oc63, od63, .func (PySem.W.fnOf "_law_said" "_law_said" (defArgs S__law_said) (defBody S__law_said) (defScope S__law_said) .none kV63 dc63 pm63 an63 cd63 ct63), sl63⟩) (c63 : PySem.W.codeIn K cd63 "_law_said" = true) (k63 : PySem.W.keepIn K (.ref f63) = true)
    {f64 : Addr} {od64 an64 : Option Addr} {sl64 : Array (Option Value)} {oc64 kV64 dc64 pm64 cd64 ct64 : Value}
    (a64 : PySem.W.nsIn K mainGlobals "_law_within" = some (some (.ref f64)))
    (l64 : K.lookup f64 = some ⟨oc64, od64, .func (PySem.W.fnOf "_law_within" "_law_within" (defArgs S__law_within) (defBody S__law_within) (defScope S__law_within) .none kV64 dc64 pm64 an64 cd64 ct64), sl64⟩) (c64 : PySem.W.codeIn K cd64 "_law_within" = true) (k64 : PySem.W.keepIn K (.ref f64) = true)
    {f65 : Addr} {od65 an65 : Option Addr} {sl65 : Array (Option Value)} {oc65 kV65 dc65 pm65 cd65 ct65 : Value}
    (a65 : PySem.W.nsIn K mainGlobals "_law_cell_of" = some (some (.ref f65)))
    (l65 : K.lookup f65 = some ⟨oc65, od65, .func (PySem.W.fnOf "_law_cell_of" "_law_cell_of" (defArgs S__law_cell_of) (defBody S__law_cell_of) (defScope S__law_cell_of) .none kV65 dc65 pm65 an65 cd65 ct65), sl65⟩) (c65 : PySem.W.codeIn K cd65 "_law_cell_of" = true) (k65 : PySem.W.keepIn K (.ref f65) = true)
    {f66 : Addr} {od66 an66 : Option Addr} {sl66 : Array (Option Value)} {oc66 kV66 dc66 pm66 cd66 ct66 : Value}
    (a66 : PySem.W.nsIn K mainGlobals "_law_asks" = some (some (.ref f66)))
    (l66 : K.lookup f66 = some ⟨oc66, od66, .func (PySem.W.fnOf "_law_asks" "_law_asks" (defArgs S__law_asks) (defBody S__law_asks) (defScope S__law_asks) .none kV66 dc66 pm66 an66 cd66 ct66), sl66⟩) (c66 : PySem.W.codeIn K cd66 "_law_asks" = true) (k66 : PySem.W.keepIn K (.ref f66) = true)
    {f67 : Addr} {od67 an67 : Option Addr} {sl67 : Array (Option Value)} {oc67 kV67 dc67 pm67 cd67 ct67 : Value}
    (a67 : PySem.W.nsIn K mainGlobals "_law_plan_due" = some (some (.ref f67)))
    (l67 : K.lookup f67 = some ⟨oc67, od67, .func (PySem.W.fnOf "_law_plan_due" "_law_plan_due" (defArgs S__law_plan_due) (defBody S__law_plan_due) (defScope S__law_plan_due) .none kV67 dc67 pm67 an67 cd67 ct67), sl67⟩) (c67 : PySem.W.codeIn K cd67 "_law_plan_due" = true) (k67 : PySem.W.keepIn K (.ref f67) = true)
    {f68 : Addr} {od68 an68 : Option Addr} {sl68 : Array (Option Value)} {oc68 kV68 dc68 pm68 cd68 ct68 : Value}
    (a68 : PySem.W.nsIn K mainGlobals "_law_right" = some (some (.ref f68)))
    (l68 : K.lookup f68 = some ⟨oc68, od68, .func (PySem.W.fnOf "_law_right" "_law_right" (defArgs S__law_right) (defBody S__law_right) (defScope S__law_right) .none kV68 dc68 pm68 an68 cd68 ct68), sl68⟩) (c68 : PySem.W.codeIn K cd68 "_law_right" = true) (k68 : PySem.W.keepIn K (.ref f68) = true)
    {f69 : Addr} {od69 an69 : Option Addr} {sl69 : Array (Option Value)} {oc69 kV69 dc69 pm69 cd69 ct69 : Value}
    (a69 : PySem.W.nsIn K mainGlobals "law" = some (some (.ref f69)))
    (l69 : K.lookup f69 = some ⟨oc69, od69, .func (PySem.W.fnOf "law" "law" (defArgs S_law) (defBody S_law) (defScope S_law) .none kV69 dc69 pm69 an69 cd69 ct69), sl69⟩) (c69 : PySem.W.codeIn K cd69 "law" = true) (k69 : PySem.W.keepIn K (.ref f69) = true)
    (cg0 : PySem.W.nsIn K mainGlobals "gcd" = some (some (.builtin "math.gcd")))
    {gz1 : Addr} {go1 : Obj} (cg1 : PySem.W.nsIn K mainGlobals "ONE" = some (some (.ref gz1))) (gl1 : K.lookup gz1 = some go1) (gd1 : TupObj go1 [V.int 1, V.int 1])
    {gz2 : Addr} {go2 : Obj} (cg2 : PySem.W.nsIn K mainGlobals "ZERO" = some (some (.ref gz2))) (gl2 : K.lookup gz2 = some go2) (gd2 : TupObj go2 [V.int 0, V.int 1])
    {gt3 : Nat} (cg3 : PySem.W.nsIn K mainGlobals "LAST_DAY" = some (some (.int 1000000000000000000000000000000 gt3)))
    {gt4 : Nat} (cg4 : PySem.W.nsIn K mainGlobals "AMOUNT_BOUND" = some (some (.int 1000000 gt4)))
    {gt5 : Nat} (cg5 : PySem.W.nsIn K mainGlobals "MOST_AMOUNTS" = some (some (.int 4 gt5)))
    {gt6 : Nat} (cg6 : PySem.W.nsIn K mainGlobals "MOST_DAYS" = some (some (.int 200 gt6)))
    (cg7 : PySem.W.nsIn K mainGlobals "lcm" = some (some (.builtin "math.lcm")))
    (z0 : PySem.W.nsIn K mainGlobals "abs" = some none)
    (z1 : PySem.W.nsIn K mainGlobals "len" = some none)
    (z2 : PySem.W.nsIn K mainGlobals "isinstance" = some none)
    (z3 : PySem.W.nsIn K mainGlobals "bool" = some none)
    (z4 : PySem.W.nsIn K mainGlobals "int" = some none)
    (z5 : PySem.W.nsIn K mainGlobals "tuple" = some none)
    (z6 : PySem.W.nsIn K mainGlobals "zip" = some none)
    (z7 : PySem.W.nsIn K mainGlobals "range" = some none)
    (z8 : PySem.W.nsIn K mainGlobals "divmod" = some none)
    (z9 : PySem.W.nsIn K mainGlobals "min" = some none)
    (z10 : PySem.W.nsIn K mainGlobals "max" = some none)
    (z11 : PySem.W.nsIn K mainGlobals "all" = some none)
    (z12 : PySem.W.nsIn K mainGlobals "list" = some none)
    (z13 : PySem.W.nsIn K mainGlobals "sum" = some none)
    (z14 : PySem.W.nsIn K mainGlobals "set" = some none)
    (z15 : PySem.W.nsIn K mainGlobals "sorted" = some none)
    (z16 : PySem.W.nsIn K mainGlobals "enumerate" = some none)
    (z17 : PySem.W.nsIn K mainGlobals "RuntimeError" = some none)
    (z18 : PySem.W.nsIn K mainGlobals "ValueError" = some none)
    (z19 : PySem.W.nsIn K mainGlobals "str" = some none)
    : ∃ fd : FuncData, (∀ (s : Shared) (v : Value), BindsTo s fd ⟨[v], []⟩ [("_law_script", v)]) ∧ ∀ base : Heap, K.In base → base.Ns mainGlobals mg → FnG l.prog w K mg base CX0 17 fa fd ["_law_script"] (sp_law K) := by
  have e := hfa.symm.trans (PySem.W.mg_of X G a69)
  cases e
  have F0 := fun_mk (st := S__law_bag) l0 c0 k0
  have b0 := F0.binds (ps := ["_law_script", "_law_at"]) fun _ _ _ _ _ _ us hl => match us, hl with | [_, _], _ => rfl
  have F1 := fun_mk (st := S__law_take) l1 c1 k1
  have b1 := F1.binds (ps := ["_law_bag_here", "_law_size"]) fun _ _ _ _ _ _ us hl => match us, hl with | [_, _], _ => rfl
  have F2 := fun_mk (st := S__law_part) l2 c2 k2
  have b2 := F2.binds (ps := ["_law_one", "_law_other"]) fun _ _ _ _ _ _ us hl => match us, hl with | [_, _], _ => rfl
  have F3 := fun_mk (st := S__law_lowest) l3 c3 k3
  have b3 := F3.binds (ps := ["_law_top", "_law_under"]) fun _ _ _ _ _ _ us hl => match us, hl with | [_, _], _ => rfl
  have F4 := fun_mk (st := S_is_int) l4 c4 k4
  have b4 := F4.binds (ps := ["thing"]) fun _ _ _ _ _ _ us hl => match us, hl with | [_], _ => rfl
  have F5 := fun_mk (st := S_lowest) l5 c5 k5
  have b5 := F5.binds (ps := ["top", "under"]) fun _ _ _ _ _ _ us hl => match us, hl with | [_, _], _ => rfl
  have F6 := fun_mk (st := S_plus) l6 c6 k6
  have b6 := F6.binds (ps := ["one", "other"]) fun _ _ _ _ _ _ us hl => match us, hl with | [_, _], _ => rfl
  have F7 := fun_mk (st := S_minus) l7 c7 k7
  have b7 := F7.binds (ps := ["one", "other"]) fun _ _ _ _ _ _ us hl => match us, hl with | [_, _], _ => rfl
  have F8 := fun_mk (st := S_floor_of) l8 c8 k8
  have b8 := F8.binds (ps := ["ratio"]) fun _ _ _ _ _ _ us hl => match us, hl with | [_], _ => rfl
  have F9 := fun_mk (st := S_is_less) l9 c9 k9
  have b9 := F9.binds (ps := ["one", "other"]) fun _ _ _ _ _ _ us hl => match us, hl with | [_, _], _ => rfl
  have F10 := fun_mk (st := S_arc) l10 c10 k10
  have b10 := F10.binds (ps := ["low", "high"]) fun _ _ _ _ _ _ us hl => match us, hl with | [_, _], _ => rfl
  have F11 := fun_mk (st := S_both) l11 c11 k11
  have b11 := F11.binds (ps := ["one", "other"]) fun _ _ _ _ _ _ us hl => match us, hl with | [_, _], _ => rfl
  have F12 := fun_mk (st := S_is_day) l12 c12 k12
  have b12 := F12.binds (ps := ["thing"]) fun _ _ _ _ _ _ us hl => match us, hl with | [_], _ => rfl
  have F13 := fun_mk (st := S__is_many) l13 c13 k13
  have b13 := F13.binds (ps := ["thing", "first"]) fun _ _ _ _ _ _ us hl => match us, hl with | [_, _], _ => rfl
  have F14 := fun_mk (st := S_check_day) l14 c14 k14
  have b14 := F14.binds (ps := ["thing"]) fun _ _ _ _ _ _ us hl => match us, hl with | [_], _ => rfl
  have F15 := fun_mk (st := S_is_stretch) l15 c15 k15
  have b15 := F15.binds (ps := ["thing"]) fun _ _ _ _ _ _ us hl => match us, hl with | [_], _ => rfl
  have F16 := fun_mk (st := S_check_stretch) l16 c16 k16
  have b16 := F16.binds (ps := ["thing"]) fun _ _ _ _ _ _ us hl => match us, hl with | [_], _ => rfl
  have F17 := fun_mk (st := S_rest_of) l17 c17 k17
  have b17 := F17.binds (ps := ["ratio"]) fun _ _ _ _ _ _ us hl => match us, hl with | [_], _ => rfl
  have F18 := fun_mk (st := S__total) l18 c18 k18
  have b18 := F18.binds (ps := ["ratios"]) fun _ _ _ _ _ _ us hl => match us, hl with | [_], _ => rfl
  have F19 := fun_mk (st := S__given_before) l19 c19 k19
  have b19 := F19.binds (ps := ["entry", "day"]) fun _ _ _ _ _ _ us hl => match us, hl with | [_, _], _ => rfl
  have F20 := fun_mk (st := S_sum_before) l20 c20 k20
  have b20 := F20.binds (ps := ["entries", "day"]) fun _ _ _ _ _ _ us hl => match us, hl with | [_, _], _ => rfl
  have F21 := fun_mk (st := S_point) l21 c21 k21
  have b21 := F21.binds (ps := ["entries", "day"]) fun _ _ _ _ _ _ us hl => match us, hl with | [_, _], _ => rfl
  have F22 := fun_mk (st := S_exact) l22 c22 k22
  have b22 := F22.binds (ps := ["entries", "stretch"]) fun _ _ _ _ _ _ us hl => match us, hl with | [_, _], _ => rfl
  have F23 := fun_mk (st := S_is_ratio) l23 c23 k23
  have b23 := F23.binds (ps := ["thing"]) fun _ _ _ _ _ _ us hl => match us, hl with | [_], _ => rfl
  have F24 := fun_mk (st := S_is_amount) l24 c24 k24
  have b24 := F24.binds (ps := ["thing"]) fun _ _ _ _ _ _ us hl => match us, hl with | [_], _ => rfl
  have F25 := fun_mk (st := S__is_amounts) l25 c25 k25
  have b25 := F25.binds (ps := ["thing"]) fun _ _ _ _ _ _ us hl => match us, hl with | [_], _ => rfl
  have F26 := fun_mk (st := S_wrong_part) l26 c26 k26
  have b26 := F26.binds (ps := ["thing"]) fun _ _ _ _ _ _ us hl => match us, hl with | [_], _ => rfl
  have F27 := fun_mk (st := S_check_item) l27 c27 k27
  have b27 := F27.binds (ps := ["thing"]) fun _ _ _ _ _ _ us hl => match us, hl with | [_], _ => rfl
  have F28 := fun_mk (st := S_Ledger___init__) l28 c28 k28
  have b28 := F28.binds (ps := ["self"]) fun _ _ _ _ _ _ us hl => match us, hl with | [_], _ => rfl
  have F29 := fun_mk (st := S_Ledger__of_kind) l29 c29 k29
  have b29 := F29.binds (ps := ["self", "kind"]) fun _ _ _ _ _ _ us hl => match us, hl with | [_, _], _ => rfl
  have F30 := fun_mk (st := S_Ledger_entries) l30 c30 k30
  have b30 := F30.binds (ps := ["self"]) fun _ _ _ _ _ _ us hl => match us, hl with | [_], _ => rfl
  have F31 := fun_mk (st := S_Ledger_statements) l31 c31 k31
  have b31 := F31.binds (ps := ["self"]) fun _ _ _ _ _ _ us hl => match us, hl with | [_], _ => rfl
  have F32 := fun_mk (st := S_Ledger_numbered) l32 c32 k32
  have b32 := F32.binds (ps := ["self"]) fun _ _ _ _ _ _ us hl => match us, hl with | [_], _ => rfl
  have F33 := fun_mk (st := S_Ledger__check_number) l33 c33 k33
  have b33 := F33.binds (ps := ["self", "number"]) fun _ _ _ _ _ _ us hl => match us, hl with | [_, _], _ => rfl
  have F34 := fun_mk (st := S_Ledger_add) l34 c34 k34
  have b34 := F34.binds (ps := ["self", "item"]) fun _ _ _ _ _ _ us hl => match us, hl with | [_, _], _ => rfl
  have F35 := fun_mk (st := S_Ledger_drop) l35 c35 k35
  have b35 := F35.binds (ps := ["self", "number"]) fun _ _ _ _ _ _ us hl => match us, hl with | [_, _], _ => rfl
  have F36 := fun_mk (st := S__law_ledger) l36 c36 k36
  have b36 := F36.binds (ps := ["_law_bag_here", "_law_entries_here", "_law_statements"]) fun _ _ _ _ _ _ us hl => match us, hl with | [_, _, _], _ => rfl
  have F37 := fun_mk (st := S_choices) l37 c37 k37
  have b37 := F37.binds (ps := ["entries", "stretch"]) fun _ _ _ _ _ _ us hl => match us, hl with | [_, _], _ => rfl
  have F38 := fun_mk (st := S__telling) l38 c38 k38
  have b38 := F38.binds (ps := ["entries", "stretch", "number"]) fun _ _ _ _ _ _ us hl => match us, hl with | [_, _, _], _ => rfl
  have F39 := fun_mk (st := S_allowed) l39 c39 k39
  have b39 := F39.binds (ps := ["entries", "statement"]) fun _ _ _ _ _ _ us hl => match us, hl with | [_, _], _ => rfl
  have F40 := fun_mk (st := S_telling_all) l40 c40 k40
  have b40 := F40.binds (ps := ["entries", "statements"]) fun _ _ _ _ _ _ us hl => match us, hl with | [_, _], _ => rfl
  have F41 := fun_mk (st := S_left) l41 c41 k41
  have b41 := F41.binds (ps := ["ledger"]) fun _ _ _ _ _ _ us hl => match us, hl with | [_], _ => rfl
  have F42 := fun_mk (st := S__law_amount) l42 c42 k42
  have b42 := F42.binds (ps := ["_law_bag_here"]) fun _ _ _ _ _ _ us hl => match us, hl with | [_], _ => rfl
  have F43 := fun_mk (st := S__law_entry) l43 c43 k43
  have b43 := F43.binds (ps := ["_law_bag_here", "_law_last"]) fun _ _ _ _ _ _ us hl => match us, hl with | [_, _], _ => rfl
  have F44 := fun_mk (st := S__law_entries) l44 c44 k44
  have b44 := F44.binds (ps := ["_law_bag_here", "_law_last", "_law_most"]) fun _ _ _ _ _ _ us hl => match us, hl with | [_, _, _], _ => rfl
  have F45 := fun_mk (st := S__law_grain) l45 c45 k45
  have b45 := F45.binds (ps := ["_law_entries_here"]) fun _ _ _ _ _ _ us hl => match us, hl with | [_], _ => rfl
  have F46 := fun_mk (st := S__law_before) l46 c46 k46
  have b46 := F46.binds (ps := ["_law_entries_here", "_law_day", "_law_grain_here"]) fun _ _ _ _ _ _ us hl => match us, hl with | [_, _, _], _ => rfl
  have F47 := fun_mk (st := S__law_told) l47 c47 k47
  have b47 := F47.binds (ps := ["_law_entries_here", "_law_unit", "_law_first", "_law_many", "_law_grain_here"]) fun _ _ _ _ _ _ us hl => match us, hl with | [_, _, _, _, _], _ => rfl
  have F48 := fun_mk (st := S__law_stretch) l48 c48 k48
  have b48 := F48.binds (ps := ["_law_bag_here", "_law_last"]) fun _ _ _ _ _ _ us hl => match us, hl with | [_, _], _ => rfl
  have F49 := fun_mk (st := S__law_points) l49 c49 k49
  have b49 := F49.binds (ps := ["_law_entries_here", "_law_days", "_law_grain_here"]) fun _ _ _ _ _ _ us hl => match us, hl with | [_, _, _], _ => rfl
  have F50 := fun_mk (st := S__law_ends) l50 c50 k50
  have b50 := F50.binds (ps := ["_law_stretches"]) fun _ _ _ _ _ _ us hl => match us, hl with | [_], _ => rfl
  have F51 := fun_mk (st := S__law_left) l51 c51 k51
  have b51 := F51.binds (ps := ["_law_entries_here", "_law_statements", "_law_days", "_law_grain_here"]) fun _ _ _ _ _ _ us hl => match us, hl with | [_, _, _, _], _ => rfl
  have F52 := fun_mk (st := S__law_any_statements) l52 c52 k52
  have b52 := F52.binds (ps := ["_law_bag_here", "_law_entries_here", "_law_last", "_law_most"]) fun _ _ _ _ _ _ us hl => match us, hl with | [_, _, _, _], _ => rfl
  have F53 := fun_mk (st := S__law_true_statements) l53 c53 k53
  have b53 := F53.binds (ps := ["_law_bag_here", "_law_entries_here", "_law_last", "_law_most"]) fun _ _ _ _ _ _ us hl => match us, hl with | [_, _, _, _], _ => rfl
  have F54 := fun_mk (st := S__law_whole) l54 c54 k54
  have b54 := F54.binds (ps := ["_law_thing"]) fun _ _ _ _ _ _ us hl => match us, hl with | [_], _ => rfl
  have F55 := fun_mk (st := S_is_last) l55 c55 k55
  have b55 := F55.binds (ps := ["thing"]) fun _ _ _ _ _ _ us hl => match us, hl with | [_], _ => rfl
  have F56 := fun_mk (st := S_points_up_to) l56 c56 k56
  have b56 := F56.binds (ps := ["entries", "last"]) fun _ _ _ _ _ _ us hl => match us, hl with | [_, _], _ => rfl
  have F57 := fun_mk (st := S__ascending) l57 c57 k57
  have b57 := F57.binds (ps := ["points"]) fun _ _ _ _ _ _ us hl => match us, hl with | [_], _ => rfl
  have F58 := fun_mk (st := S_cells) l58 c58 k58
  have b58 := F58.binds (ps := ["points", "cuts"]) fun _ _ _ _ _ _ us hl => match us, hl with | [_, _], _ => rfl
  have F59 := fun_mk (st := S__some_left) l59 c59 k59
  have b59 := F59.binds (ps := ["ledger"]) fun _ _ _ _ _ _ us hl => match us, hl with | [_], _ => rfl
  have F60 := fun_mk (st := S__tree) l60 c60 k60
  have b60 := F60.binds (ps := ["days", "lows"]) fun _ _ _ _ _ _ us hl => match us, hl with | [_, _], _ => rfl
  have F61 := fun_mk (st := S_plan) l61 c61 k61
  have b61 := F61.binds (ps := ["ledger", "last"]) fun _ _ _ _ _ _ us hl => match us, hl with | [_, _], _ => rfl
  have F62 := fun_mk (st := S_plan_paper) l62 c62 k62
  have b62 := F62.binds (ps := ["ledger", "last"]) fun _ _ _ _ _ _ us hl => match us, hl with | [_, _], _ => rfl
  have F63 := fun_mk (st := S__law_said) l63 c63 k63
  have b63 := F63.binds (ps := ["_law_ledger_here", "_law_last"]) fun _ _ _ _ _ _ us hl => match us, hl with | [_, _], _ => rfl
  have F64 := fun_mk (st := S__law_within) l64 c64 k64
  have b64 := F64.binds (ps := ["_law_thing", "_law_low", "_law_high"]) fun _ _ _ _ _ _ us hl => match us, hl with | [_, _, _], _ => rfl
  have F65 := fun_mk (st := S__law_cell_of) l65 c65 k65
  have b65 := F65.binds (ps := ["_law_unit", "_law_points_here"]) fun _ _ _ _ _ _ us hl => match us, hl with | [_, _], _ => rfl
  have F66 := fun_mk (st := S__law_asks) l66 c66 k66
  have b66 := F66.binds (ps := ["_law_entries_here", "_law_rest", "_law_points_here", "_law_last", "_law_tree"]) fun _ _ _ _ _ _ us hl => match us, hl with | [_, _, _, _, _], _ => rfl
  have F67 := fun_mk (st := S__law_plan_due) l67 c67 k67
  have b67 := F67.binds (ps := ["_law_entries_here", "_law_statements", "_law_parts"]) fun _ _ _ _ _ _ us hl => match us, hl with | [_, _, _], _ => rfl
  have F68 := fun_mk (st := S__law_right) l68 c68 k68
  have b68 := F68.binds (ps := ["_law_ledger_here", "_law_last"]) fun _ _ _ _ _ _ us hl => match us, hl with | [_, _], _ => rfl
  have F69 := fun_mk (st := S_law) l69 c69 k69
  have T : LgC K mg C_L := ⟨aC, ⟨pg, hd, po, sa⟩, nI, nN, PySem.W.mg_of X G aC, ⟨_, mcE, ⟨_, rfl⟩, gE, by decide⟩, ⟨_, mcS, ⟨_, rfl⟩, gS, by decide⟩⟩
  have c_gcd := PySem.W.mg_of X G cg0
  have c_ONE := TupC.of (PySem.W.mg_of X G cg1) gl1 gd1
  have c_ZERO := TupC.of (PySem.W.mg_of X G cg2) gl2 gd2
  have c_LAST_DAY := PySem.W.mg_of X G cg3
  have c_AMOUNT_BOUND := PySem.W.mg_of X G cg4
  have c_MOST_AMOUNTS := PySem.W.mg_of X G cg5
  have c_MOST_DAYS := PySem.W.mg_of X G cg6
  have c_lcm := PySem.W.mg_of X G cg7
  have m_abs := PySem.W.mg_none_of X G z0
  have m_len := PySem.W.mg_none_of X G z1
  have m_isinstance := PySem.W.mg_none_of X G z2
  have m_bool := PySem.W.mg_none_of X G z3
  have m_int := PySem.W.mg_none_of X G z4
  have m_tuple := PySem.W.mg_none_of X G z5
  have m_zip := PySem.W.mg_none_of X G z6
  have m_range := PySem.W.mg_none_of X G z7
  have m_divmod := PySem.W.mg_none_of X G z8
  have m_min := PySem.W.mg_none_of X G z9
  have m_max := PySem.W.mg_none_of X G z10
  have m_all := PySem.W.mg_none_of X G z11
  have m_list := PySem.W.mg_none_of X G z12
  have m_sum := PySem.W.mg_none_of X G z13
  have m_set := PySem.W.mg_none_of X G z14
  have m_sorted := PySem.W.mg_none_of X G z15
  have m_enumerate := PySem.W.mg_none_of X G z16
  have m_RuntimeError := PySem.W.mg_none_of X G z17
  have m_ValueError := PySem.W.mg_none_of X G z18
  have m_str := PySem.W.mg_none_of X G z19
  have R_BadDay : ExcV K mg "BadDay" X_BadDay := ⟨xq_BadDay, PySem.W.mg_of X G aX_BadDay, kx_BadDay, ex_BadDay, ty_BadDay, aX_BadDay⟩
  have XE : ErrW K mg X_BadDay X_NothingLeft := ⟨⟨aX_BadDay, ⟨(show (PySem.W.clsIn K X_BadDay).isSome = true from x0BadDay), x4BadDay, x5BadDay, ex_BadDay, x7BadDay, x8, x9, xABadDay, xhBadDay⟩, PySem.W.mg_of X G aX_BadDay, oVBadDay⟩, ⟨aX_NothingLeft, ⟨(show (PySem.W.clsIn K X_NothingLeft).isSome = true from x0NothingLeft), x4NothingLeft, x5NothingLeft, ex_NothingLeft, x7NothingLeft, x8, x9, xANothingLeft, xhNothingLeft⟩, PySem.W.mg_of X G aX_NothingLeft, oVNothingLeft⟩, cc00, cc01, cc10, cc11⟩
  have R_NothingLeft : ExcN K mg "NothingLeft" X_NothingLeft := ⟨xq_NothingLeft, PySem.W.mg_of X G aX_NothingLeft, kx_NothingLeft, ex_NothingLeft, ty_NothingLeft, aX_NothingLeft⟩
  refine ⟨PySem.W.fnOf "law" "law" (defArgs S_law) (defBody S_law) (defScope S_law) .none kV69 dc69 pm69 an69 cd69 ct69, fun s v => .of_eq rfl, fun base _ _ => ?_⟩
  have C__law_bag : Cal l.prog w K mg base "_law_bag" 1 f0 _ ["_law_script", "_law_at"] (sp__law_bag K) := ⟨ok__law_bag F0 m_abs m_len, b0, k0, PySem.W.mg_of X G a0⟩
  have C__law_take : Cal l.prog w K mg base "_law_take" 1 f1 _ ["_law_bag_here", "_law_size"] (sp__law_take K) := ⟨ok__law_take F1, b1, k1, PySem.W.mg_of X G a1⟩
  have C__law_part : Cal l.prog w K mg base "_law_part" 1 f2 _ ["_law_one", "_law_other"] (sp__law_part K) := ⟨ok__law_part F2 m_abs, b2, k2, PySem.W.mg_of X G a2⟩
  have C__law_lowest : Cal l.prog w K mg base "_law_lowest" 2 f3 _ ["_law_top", "_law_under"] (sp__law_lowest K) := ⟨ok__law_lowest F3 C__law_part, b3, k3, PySem.W.mg_of X G a3⟩
  have C_is_int : Cal l.prog w K mg base "is_int" 1 f4 _ ["thing"] (sp_is_int K) := ⟨ok_is_int F4 m_isinstance m_bool m_int, b4, k4, PySem.W.mg_of X G a4⟩
  have C_lowest : Cal l.prog w K mg base "lowest" 1 f5 _ ["top", "under"] (sp_lowest K) := ⟨ok_lowest F5 c_gcd, b5, k5, PySem.W.mg_of X G a5⟩
  have C_plus : Cal l.prog w K mg base "plus" 2 f6 _ ["one", "other"] (sp_plus K) := ⟨ok_plus F6 C_lowest, b6, k6, PySem.W.mg_of X G a6⟩
  have C_minus : Cal l.prog w K mg base "minus" 2 f7 _ ["one", "other"] (sp_minus K) := ⟨ok_minus F7 C_lowest, b7, k7, PySem.W.mg_of X G a7⟩
  have C_floor_of : Cal l.prog w K mg base "floor_of" 1 f8 _ ["ratio"] (sp_floor_of K) := ⟨ok_floor_of F8, b8, k8, PySem.W.mg_of X G a8⟩
  have C_is_less : Cal l.prog w K mg base "is_less" 1 f9 _ ["one", "other"] (sp_is_less K) := ⟨ok_is_less F9, b9, k9, PySem.W.mg_of X G a9⟩
  have C_arc : Cal l.prog w K mg base "arc" 2 f10 _ ["low", "high"] (sp_arc K) := ⟨ok_arc F10 C_is_less c_ONE c_ZERO, b10, k10, PySem.W.mg_of X G a10⟩
  have C_both : Cal l.prog w K mg base "both" 2 f11 _ ["one", "other"] (sp_both K) := ⟨ok_both F11 C_is_less m_len, b11, k11, PySem.W.mg_of X G a11⟩
  have C_is_day : Cal l.prog w K mg base "is_day" 2 f12 _ ["thing"] (sp_is_day K) := ⟨ok_is_day F12 C_is_int c_LAST_DAY, b12, k12, PySem.W.mg_of X G a12⟩
  have C__is_many : Cal l.prog w K mg base "_is_many" 2 f13 _ ["thing", "first"] (sp__is_many K) := ⟨ok__is_many F13 C_is_int c_LAST_DAY, b13, k13, PySem.W.mg_of X G a13⟩
  have C_check_day : Cal l.prog w K mg base "check_day" 3 f14 _ ["thing"] (sp_check_day K) := ⟨ok_check_day F14 C_is_day, b14, k14, PySem.W.mg_of X G a14⟩
  have C_is_stretch : Cal l.prog w K mg base "is_stretch" 3 f15 _ ["thing"] (sp_is_stretch K) := ⟨ok_is_stretch F15 C__is_many C_is_day m_len m_isinstance m_tuple, b15, k15, PySem.W.mg_of X G a15⟩
  have C_check_stretch : Cal l.prog w K mg base "check_stretch" 4 f16 _ ["thing"] (sp_check_stretch K) := ⟨ok_check_stretch F16 C_is_stretch, b16, k16, PySem.W.mg_of X G a16⟩
  have C_rest_of : Cal l.prog w K mg base "rest_of" 1 f17 _ ["ratio"] (sp_rest_of K) := ⟨ok_rest_of F17, b17, k17, PySem.W.mg_of X G a17⟩
  have C__total : Cal l.prog w K mg base "_total" 3 f18 _ ["ratios"] (sp__total K) := ⟨ok__total F18 C_plus c_ZERO, b18, k18, PySem.W.mg_of X G a18⟩
  have C__given_before : Cal l.prog w K mg base "_given_before" 4 f19 _ ["entry", "day"] (sp__given_before K) := ⟨ok__given_before F19 C__total m_zip m_range m_len m_divmod m_min m_max, b19, k19, PySem.W.mg_of X G a19⟩
  have C_sum_before : Cal l.prog w K mg base "sum_before" 5 f20 _ ["entries", "day"] (sp_sum_before K) := ⟨ok_sum_before F20 C__total C__given_before C_check_day, b20, k20, PySem.W.mg_of X G a20⟩
  have C_point : Cal l.prog w K mg base "point" 6 f21 _ ["entries", "day"] (sp_point K) := ⟨ok_point F21 C_rest_of C_minus C_sum_before c_ZERO, b21, k21, PySem.W.mg_of X G a21⟩
  have C_exact : Cal l.prog w K mg base "exact" 6 f22 _ ["entries", "stretch"] (sp_exact K) := ⟨ok_exact F22 C_minus C_sum_before C_check_stretch, b22, k22, PySem.W.mg_of X G a22⟩
  have C_is_ratio : Cal l.prog w K mg base "is_ratio" 2 f23 _ ["thing"] (sp_is_ratio K) := ⟨ok_is_ratio F23 C_is_int c_gcd m_len m_isinstance m_tuple, b23, k23, PySem.W.mg_of X G a23⟩
  have C_is_amount : Cal l.prog w K mg base "is_amount" 3 f24 _ ["thing"] (sp_is_amount K) := ⟨ok_is_amount F24 C_is_ratio c_AMOUNT_BOUND, b24, k24, PySem.W.mg_of X G a24⟩
  have C__is_amounts : Cal l.prog w K mg base "_is_amounts" 4 f25 _ ["thing"] (sp__is_amounts K) := ⟨ok__is_amounts F25 C_is_amount c_MOST_AMOUNTS m_all m_len m_isinstance m_tuple, b25, k25, PySem.W.mg_of X G a25⟩
  have C_wrong_part : Cal l.prog w K mg base "wrong_part" 5 f26 _ ["thing"] (sp_wrong_part K) := ⟨ok_wrong_part F26 C__is_amounts C_is_int C__is_many C_is_day m_len m_isinstance m_tuple, b26, k26, PySem.W.mg_of X G a26⟩
  have C_check_item : Cal l.prog w K mg base "check_item" 6 f27 _ ["thing"] (sp_check_item K) := ⟨ok_check_item F27 C_wrong_part, b27, k27, PySem.W.mg_of X G a27⟩
  have ML : MkL l.prog w K mg base C_L f28 _ (sp_Ledger___init__ K) := ⟨⟨mk, a28, i28, kc⟩, ok_Ledger___init__ F28 T, b28⟩
  have C_Ledger__of_kind : CalM l.prog w K mg base C_L "_of_kind" 1 f29 _ ["self", "kind"] (sp_Ledger__of_kind K) := ⟨ok_Ledger__of_kind F29 T, b29, ⟨a29, i29, k29⟩⟩
  have C_Ledger_entries : CalM l.prog w K mg base C_L "entries" 2 f30 _ ["self"] (sp_Ledger_entries K) := ⟨ok_Ledger_entries F30 T C_Ledger__of_kind, b30, ⟨a30, i30, k30⟩⟩
  have C_Ledger_statements : CalM l.prog w K mg base C_L "statements" 2 f31 _ ["self"] (sp_Ledger_statements K) := ⟨ok_Ledger_statements F31 T C_Ledger__of_kind, b31, ⟨a31, i31, k31⟩⟩
  have C_Ledger_numbered : CalM l.prog w K mg base C_L "numbered" 1 f32 _ ["self"] (sp_Ledger_numbered K) := ⟨ok_Ledger_numbered F32 T m_list, b32, ⟨a32, i32, k32⟩⟩
  have C_Ledger__check_number : CalM l.prog w K mg base C_L "_check_number" 2 f33 _ ["self", "number"] (sp_Ledger__check_number K) := ⟨ok_Ledger__check_number F33 C_is_int T, b33, ⟨a33, i33, k33⟩⟩
  have C_Ledger_add : CalM l.prog w K mg base C_L "add" 7 f34 _ ["self", "item"] (sp_Ledger_add K) := ⟨ok_Ledger_add F34 C_check_item T C_Ledger__of_kind m_len, b34, ⟨a34, i34, k34⟩⟩
  have C_Ledger_drop : CalM l.prog w K mg base C_L "drop" 3 f35 _ ["self", "number"] (sp_Ledger_drop K) := ⟨ok_Ledger_drop F35 T C_Ledger__check_number, b35, ⟨a35, i35, k35⟩⟩
  have C__law_ledger : Cal l.prog w K mg base "_law_ledger" 8 f36 _ ["_law_bag_here", "_law_entries_here", "_law_statements"] (sp__law_ledger K) := ⟨ok__law_ledger F36 C__law_take T C_Ledger_add C_Ledger_drop ML m_len m_list, b36, k36, PySem.W.mg_of X G a36⟩
  have C_choices : Cal l.prog w K mg base "choices" 7 f37 _ ["entries", "stretch"] (sp_choices K) := ⟨ok_choices F37 C_arc C_point C_floor_of C_exact c_ONE c_ZERO, b37, k37, PySem.W.mg_of X G a37⟩
  have C__telling : Cal l.prog w K mg base "_telling" 8 f38 _ ["entries", "stretch", "number"] (sp__telling K) := ⟨ok__telling F38 C_choices, b38, k38, PySem.W.mg_of X G a38⟩
  have C_allowed : Cal l.prog w K mg base "allowed" 9 f39 _ ["entries", "statement"] (sp_allowed K) := ⟨ok_allowed F39 C__telling, b39, k39, PySem.W.mg_of X G a39⟩
  have C_telling_all : Cal l.prog w K mg base "telling_all" 10 f40 _ ["entries", "statements"] (sp_telling_all K) := ⟨ok_telling_all F40 C_both C_allowed c_ONE c_ZERO, b40, k40, PySem.W.mg_of X G a40⟩
  have C_left : Cal l.prog w K mg base "left" 11 f41 _ ["ledger"] (sp_left K) := ⟨ok_left F41 C_telling_all T C_Ledger_statements C_Ledger_entries, b41, k41, PySem.W.mg_of X G a41⟩
  have C__law_amount : Cal l.prog w K mg base "_law_amount" 3 f42 _ ["_law_bag_here"] (sp__law_amount K) := ⟨ok__law_amount F42 C__law_lowest C__law_take, b42, k42, PySem.W.mg_of X G a42⟩
  have C__law_entry : Cal l.prog w K mg base "_law_entry" 4 f43 _ ["_law_bag_here", "_law_last"] (sp__law_entry K) := ⟨ok__law_entry F43 C__law_take C__law_amount m_tuple m_range, b43, k43, PySem.W.mg_of X G a43⟩
  have C__law_entries : Cal l.prog w K mg base "_law_entries" 5 f44 _ ["_law_bag_here", "_law_last", "_law_most"] (sp__law_entries K) := ⟨ok__law_entries F44 C__law_take C__law_entry m_range, b44, k44, PySem.W.mg_of X G a44⟩
  have C__law_grain : Cal l.prog w K mg base "_law_grain" 2 f45 _ ["_law_entries_here"] (sp__law_grain K) := ⟨ok__law_grain F45 C__law_part, b45, k45, PySem.W.mg_of X G a45⟩
  have C__law_before : Cal l.prog w K mg base "_law_before" 1 f46 _ ["_law_entries_here", "_law_day", "_law_grain_here"] (sp__law_before K) := ⟨ok__law_before F46 m_sum m_len m_min m_max, b46, k46, PySem.W.mg_of X G a46⟩
  have C__law_told : Cal l.prog w K mg base "_law_told" 2 f47 _ ["_law_entries_here", "_law_unit", "_law_first", "_law_many", "_law_grain_here"] (sp__law_told K) := ⟨ok__law_told F47 C__law_before, b47, k47, PySem.W.mg_of X G a47⟩
  have C__law_stretch : Cal l.prog w K mg base "_law_stretch" 2 f48 _ ["_law_bag_here", "_law_last"] (sp__law_stretch K) := ⟨ok__law_stretch F48 C__law_take, b48, k48, PySem.W.mg_of X G a48⟩
  have C__law_points : Cal l.prog w K mg base "_law_points" 2 f49 _ ["_law_entries_here", "_law_days", "_law_grain_here"] (sp__law_points K) := ⟨ok__law_points F49 C__law_before m_set m_sorted, b49, k49, PySem.W.mg_of X G a49⟩
  have C__law_ends : Cal l.prog w K mg base "_law_ends" 1 f50 _ ["_law_stretches"] (sp__law_ends K) := ⟨ok__law_ends F50, b50, k50, PySem.W.mg_of X G a50⟩
  have C__law_left : Cal l.prog w K mg base "_law_left" 3 f51 _ ["_law_entries_here", "_law_statements", "_law_days", "_law_grain_here"] (sp__law_left K) := ⟨ok__law_left F51 C__law_points C__law_ends C__law_told m_list, b51, k51, PySem.W.mg_of X G a51⟩
  have C__law_any_statements : Cal l.prog w K mg base "_law_any_statements" 3 f52 _ ["_law_bag_here", "_law_entries_here", "_law_last", "_law_most"] (sp__law_any_statements K) := ⟨ok__law_any_statements F52 C__law_take C__law_told C__law_stretch C__law_grain m_range, b52, k52, PySem.W.mg_of X G a52⟩
  have C__law_true_statements : Cal l.prog w K mg base "_law_true_statements" 3 f53 _ ["_law_bag_here", "_law_entries_here", "_law_last", "_law_most"] (sp__law_true_statements K) := ⟨ok__law_true_statements F53 C__law_take C__law_told C__law_stretch C__law_grain m_range, b53, k53, PySem.W.mg_of X G a53⟩
  have C__law_whole : Cal l.prog w K mg base "_law_whole" 1 f54 _ ["_law_thing"] (sp__law_whole K) := ⟨ok__law_whole F54 m_isinstance m_bool m_int, b54, k54, PySem.W.mg_of X G a54⟩
  have C_is_last : Cal l.prog w K mg base "is_last" 2 f55 _ ["thing"] (sp_is_last K) := ⟨ok_is_last F55 C_is_int c_MOST_DAYS, b55, k55, PySem.W.mg_of X G a55⟩
  have C_points_up_to : Cal l.prog w K mg base "points_up_to" 7 f56 _ ["entries", "last"] (sp_points_up_to K) := ⟨ok_points_up_to F56 C_point m_range, b56, k56, PySem.W.mg_of X G a56⟩
  have C__ascending : Cal l.prog w K mg base "_ascending" 1 f57 _ ["points"] (sp__ascending K) := ⟨ok__ascending F57 c_lcm m_sorted, b57, k57, PySem.W.mg_of X G a57⟩
  have C_cells : Cal l.prog w K mg base "cells" 3 f58 _ ["points", "cuts"] (sp_cells K) := ⟨ok_cells F58 C_both C__ascending c_ONE m_zip, b58, k58, PySem.W.mg_of X G a58⟩
  have C__some_left : CalX l.prog w K mg base "_some_left" 12 f59 _ ["ledger"] (sp__some_left K) := ⟨ok__some_left F59 C_left R_NothingLeft, b59, k59, PySem.W.mg_of X G a59⟩
  have C__tree : Cal l.prog w K mg base "_tree" 7 f60 _ ["days", "lows"] (sp__tree K) := ⟨ok__tree F60 m_len b60 k60 (PySem.W.mg_of X G a60), b60, k60, PySem.W.mg_of X G a60⟩
  have C_plan : CalX l.prog w K mg base "plan" 13 f61 _ ["ledger", "last"] (sp_plan K) := ⟨ok_plan F61 C__tree C_cells C_points_up_to C__some_left C_is_last T C_Ledger_entries R_BadDay m_enumerate, b61, k61, PySem.W.mg_of X G a61⟩
  have C_plan_paper : CalX l.prog w K mg base "plan_paper" 14 f62 _ ["ledger", "last"] (sp_plan_paper K) := ⟨ok_plan_paper F62 C_plan T C_Ledger_statements C_Ledger_entries, b62, k62, PySem.W.mg_of X G a62⟩
  have C__law_said : Cal l.prog w K mg base "_law_said" 15 f63 _ ["_law_ledger_here", "_law_last"] (sp__law_said K) := ⟨ok__law_said F63 C_plan_paper XE m_isinstance m_RuntimeError m_ValueError, b63, k63, PySem.W.mg_of X G a63⟩
  have C__law_within : Cal l.prog w K mg base "_law_within" 2 f64 _ ["_law_thing", "_law_low", "_law_high"] (sp__law_within K) := ⟨ok__law_within F64 C__law_whole, b64, k64, PySem.W.mg_of X G a64⟩
  have C__law_cell_of : Cal l.prog w K mg base "_law_cell_of" 1 f65 _ ["_law_unit", "_law_points_here"] (sp__law_cell_of K) := ⟨ok__law_cell_of F65 m_max, b65, k65, PySem.W.mg_of X G a65⟩
  have C__law_asks : Cal l.prog w K mg base "_law_asks" 11 f66 _ ["_law_entries_here", "_law_rest", "_law_points_here", "_law_last", "_law_tree"] (sp__law_asks K) := ⟨ok__law_asks F66 C__law_before C__law_grain C__law_within m_max m_range m_len m_set m_isinstance m_str m_tuple b66 k66 (PySem.W.mg_of X G a66), b66, k66, PySem.W.mg_of X G a66⟩
  have C__law_plan_due : Cal l.prog w K mg base "_law_plan_due" 12 f67 _ ["_law_entries_here", "_law_statements", "_law_parts"] (sp__law_plan_due K) := ⟨ok__law_plan_due F67 C__law_asks C__law_cell_of C__law_left C__law_points C__law_grain C__law_within m_set m_len m_list m_range, b67, k67, PySem.W.mg_of X G a67⟩
  have C__law_right : Cal l.prog w K mg base "_law_right" 16 f68 _ ["_law_ledger_here", "_law_last"] (sp__law_right K) := ⟨ok__law_right F68 C__law_plan_due C_plan C__law_left C__law_grain C__law_said T C_Ledger_statements C_Ledger_entries m_len, b68, k68, PySem.W.mg_of X G a68⟩
  exact ok_law F69 C__law_said C__law_right C__law_take C__law_ledger C__law_true_statements C__law_any_statements C__law_entries C__law_bag m_range m_max m_min m_len
theorem factsH {l : PySem.W.OpenLaw} {w : World} {K : PySem.W.Frag} {h : Heap} {mg : Str → Option Value} {fa : Addr} (X : K.In h) (G : h.Ns mainGlobals mg) (hfa : mg "law" = some (.ref fa)) (c : SaysO faH fnH K) :
    ∃ fd : FuncData, (∀ (s : Shared) (v : Value), BindsTo s fd ⟨[v], []⟩ [("_law_script", v)]) ∧ ∀ base : Heap, K.In base → base.Ns mainGlobals mg → FnG l.prog w K mg base CX0 17 fa fd ["_law_script"] (sp_law K) := by
  have q0 : fc0 K = true := c.fact 0 rfl
  have q1 : fc1 K = true := c.fact 1 rfl
  have q2 : fc2 K = true := c.fact 2 rfl
  have q3 : fc3 K = true := c.fact 3 rfl
  have q4 : fc4 K = true := c.fact 4 rfl
  have q5 : fc5 K = true := c.fact 5 rfl
  have q6 : fc6 K = true := c.fact 6 rfl
  have q7 : fc7 K = true := c.fact 7 rfl
  have q8 : fc8 K = true := c.fact 8 rfl
  have q9 : fc9 K = true := c.fact 9 rfl
  have q10 : fc10 K = true := c.fact 10 rfl
  have q11 : fc11 K = true := c.fact 11 rfl
  have q12 : fc12 K = true := c.fact 12 rfl
  have q13 : fc13 K = true := c.fact 13 rfl
  have q14 : fc14 K = true := c.fact 14 rfl
  have q15 : fc15 K = true := c.fact 15 rfl
  have q16 : fc16 K = true := c.fact 16 rfl
  have q17 : fc17 K = true := c.fact 17 rfl
  have q18 : fc18 K = true := c.fact 18 rfl
  have q19 : fc19 K = true := c.fact 19 rfl
  have q20 : fc20 K = true := c.fact 20 rfl
  have q21 : fc21 K = true := c.fact 21 rfl
  have q22 : fc22 K = true := c.fact 22 rfl
  have q23 : fc23 K = true := c.fact 23 rfl
  have q24 : fc24 K = true := c.fact 24 rfl
  have q25 : fc25 K = true := c.fact 25 rfl
  have q26 : fc26 K = true := c.fact 26 rfl
  have q27 : fc27 K = true := c.fact 27 rfl
  have q28 : fc28 K = true := c.fact 28 rfl
  have q29 : fc29 K = true := c.fact 29 rfl
  have q30 : fc30 K = true := c.fact 30 rfl
  have q31 : fc31 K = true := c.fact 31 rfl
  have q32 : fc32 K = true := c.fact 32 rfl
  have q33 : fc33 K = true := c.fact 33 rfl
  have q34 : fc34 K = true := c.fact 34 rfl
  have q35 : fc35 K = true := c.fact 35 rfl
  have q36 : fc36 K = true := c.fact 36 rfl
  have q37 : fc37 K = true := c.fact 37 rfl
  have q38 : fc38 K = true := c.fact 38 rfl
  have q39 : fc39 K = true := c.fact 39 rfl
  have q40 : fc40 K = true := c.fact 40 rfl
  have q41 : fc41 K = true := c.fact 41 rfl
  have q42 : fc42 K = true := c.fact 42 rfl
  have q43 : fc43 K = true := c.fact 43 rfl
  have q44 : fc44 K = true := c.fact 44 rfl
  have q45 : fc45 K = true := c.fact 45 rfl
  have q46 : fc46 K = true := c.fact 46 rfl
  have q47 : fc47 K = true := c.fact 47 rfl
  have q48 : fc48 K = true := c.fact 48 rfl
  have q49 : fc49 K = true := c.fact 49 rfl
  have q50 : fc50 K = true := c.fact 50 rfl
  have q51 : fc51 K = true := c.fact 51 rfl
  have q52 : fc52 K = true := c.fact 52 rfl
  have q53 : fc53 K = true := c.fact 53 rfl
  have q54 : fc54 K = true := c.fact 54 rfl
  have q55 : fc55 K = true := c.fact 55 rfl
  have q56 : fc56 K = true := c.fact 56 rfl
  have q57 : fc57 K = true := c.fact 57 rfl
  have q58 : fc58 K = true := c.fact 58 rfl
  have q59 : fc59 K = true := c.fact 59 rfl
  have q60 : fc60 K = true := c.fact 60 rfl
  have q61 : fc61 K = true := c.fact 61 rfl
  have q62 : fc62 K = true := c.fact 62 rfl
  have q63 : fc63 K = true := c.fact 63 rfl
  have q64 : fc64 K = true := c.fact 64 rfl
  have q65 : fc65 K = true := c.fact 65 rfl
  have q66 : fc66 K = true := c.fact 66 rfl
  have q67 : fc67 K = true := c.fact 67 rfl
  have q68 : fc68 K = true := c.fact 68 rfl
  have q69 : fc69 K = true := c.fact 69 rfl
  have q70 : fc70 K = true := c.fact 70 rfl
  have q71 : fc71 K = true := c.fact 71 rfl
  have q72 : fc72 K = true := c.fact 72 rfl
  have q73 : fc73 K = true := c.fact 73 rfl
  have q74 : fc74 K = true := c.fact 74 rfl
  have q75 : fc75 K = true := c.fact 75 rfl
  have q76 : fc76 K = true := c.fact 76 rfl
  have q77 : fc77 K = true := c.fact 77 rfl
  have q78 : fc78 K = true := c.fact 78 rfl
  have q79 : fc79 K = true := c.fact 79 rfl
  have q80 : fc80 K = true := c.fact 80 rfl
  have q81 : fc81 K = true := c.fact 81 rfl
  have q82 : fc82 K = true := c.fact 82 rfl
  have q83 : fc83 K = true := c.fact 83 rfl
  have q84 : fc84 K = true := c.fact 84 rfl
  have q85 : fc85 K = true := c.fact 85 rfl
  have q86 : fc86 K = true := c.fact 86 rfl
  have q87 : fc87 K = true := c.fact 87 rfl
  have q88 : fc88 K = true := c.fact 88 rfl
  have q89 : fc89 K = true := c.fact 89 rfl
  have q90 : fc90 K = true := c.fact 90 rfl
  have q91 : fc91 K = true := c.fact 91 rfl
  have q92 : fc92 K = true := c.fact 92 rfl
  have q93 : fc93 K = true := c.fact 93 rfl
  have q94 : fc94 K = true := c.fact 94 rfl
  have q95 : fc95 K = true := c.fact 95 rfl
  have q96 : fc96 K = true := c.fact 96 rfl
  have q97 : fc97 K = true := c.fact 97 rfl
  have q98 : fc98 K = true := c.fact 98 rfl
  have q99 : fc99 K = true := c.fact 99 rfl
  have q100 : fc100 K = true := c.fact 100 rfl
  have q101 : fc101 K = true := c.fact 101 rfl
  have q102 : fc102 K = true := c.fact 102 rfl
  have q103 : fc103 K = true := c.fact 103 rfl
  have q104 : fc104 K = true := c.fact 104 rfl
  have q105 : fc105 K = true := c.fact 105 rfl
  have q106 : fc106 K = true := c.fact 106 rfl
  have q107 : fc107 K = true := c.fact 107 rfl
  have q108 : fc108 K = true := c.fact 108 rfl
  have q109 : fc109 K = true := c.fact 109 rfl
  have q110 : fc110 K = true := c.fact 110 rfl
  have q111 : fc111 K = true := c.fact 111 rfl
  have q112 : fc112 K = true := c.fact 112 rfl
  have q113 : fc113 K = true := c.fact 113 rfl
  have q114 : fc114 K = true := c.fact 114 rfl
  have q115 : fc115 K = true := c.fact 115 rfl
  have q116 : fc116 K = true := c.fact 116 rfl
  have q117 : fc117 K = true := c.fact 117 rfl
  have q118 : fc118 K = true := c.fact 118 rfl
  have q119 : fc119 K = true := c.fact 119 rfl
  have q120 : fc120 K = true := c.fact 120 rfl
  have q121 : fc121 K = true := c.fact 121 rfl
  have q122 : fc122 K = true := c.fact 122 rfl
  have q123 : fc123 K = true := c.fact 123 rfl
  have q124 : fc124 K = true := c.fact 124 rfl
  have q125 : fc125 K = true := c.fact 125 rfl
  have q126 : fc126 K = true := c.fact 126 rfl
  have q127 : fc127 K = true := c.fact 127 rfl
  have q128 : fc128 K = true := c.fact 128 rfl
  have q129 : fc129 K = true := c.fact 129 rfl
  have q130 : fc130 K = true := c.fact 130 rfl
  have q131 : fc131 K = true := c.fact 131 rfl
  have q132 : fc132 K = true := c.fact 132 rfl
  have q133 : fc133 K = true := c.fact 133 rfl
  have q134 : fc134 K = true := c.fact 134 rfl
  have q135 : fc135 K = true := c.fact 135 rfl
  have q136 : fc136 K = true := c.fact 136 rfl
  have q137 : fc137 K = true := c.fact 137 rfl
  have q138 : fc138 K = true := c.fact 138 rfl
  have q139 : fc139 K = true := c.fact 139 rfl
  have q140 : fc140 K = true := c.fact 140 rfl
  have q141 : fc141 K = true := c.fact 141 rfl
  have q142 : fc142 K = true := c.fact 142 rfl
  have q143 : fc143 K = true := c.fact 143 rfl
  have q144 : fc144 K = true := c.fact 144 rfl
  have q145 : fc145 K = true := c.fact 145 rfl
  have q146 : fc146 K = true := c.fact 146 rfl
  have q147 : fc147 K = true := c.fact 147 rfl
  have q148 : fc148 K = true := c.fact 148 rfl
  obtain ⟨_, mcE, gE⟩ := intB_ok q9
  obtain ⟨_, mcS, gS⟩ := intB_ok q10
  obtain ⟨_, _, _, _, _, _, _, _, _, l0, c0, k0⟩ := c.def_ 0 (d := ⟨fun K => (He.ga K "_law_bag"), "_law_bag", "_law_bag", defArgs S__law_bag, defBody S__law_bag, defScope S__law_bag⟩) rfl
  obtain ⟨_, _, _, _, _, _, _, _, _, l1, c1, k1⟩ := c.def_ 1 (d := ⟨fun K => (He.ga K "_law_take"), "_law_take", "_law_take", defArgs S__law_take, defBody S__law_take, defScope S__law_take⟩) rfl
  obtain ⟨_, _, _, _, _, _, _, _, _, l2, c2, k2⟩ := c.def_ 2 (d := ⟨fun K => (He.ga K "_law_part"), "_law_part", "_law_part", defArgs S__law_part, defBody S__law_part, defScope S__law_part⟩) rfl
  obtain ⟨_, _, _, _, _, _, _, _, _, l3, c3, k3⟩ := c.def_ 3 (d := ⟨fun K => (He.ga K "_law_lowest"), "_law_lowest", "_law_lowest", defArgs S__law_lowest, defBody S__law_lowest, defScope S__law_lowest⟩) rfl
  obtain ⟨_, _, _, _, _, _, _, _, _, l4, c4, k4⟩ := c.def_ 4 (d := ⟨fun K => (He.ga K "is_int"), "is_int", "is_int", defArgs S_is_int, defBody S_is_int, defScope S_is_int⟩) rfl
  obtain ⟨_, _, _, _, _, _, _, _, _, l5, c5, k5⟩ := c.def_ 5 (d := ⟨fun K => (He.ga K "lowest"), "lowest", "lowest", defArgs S_lowest, defBody S_lowest, defScope S_lowest⟩) rfl
  obtain ⟨_, _, _, _, _, _, _, _, _, l6, c6, k6⟩ := c.def_ 6 (d := ⟨fun K => (He.ga K "plus"), "plus", "plus", defArgs S_plus, defBody S_plus, defScope S_plus⟩) rfl
  obtain ⟨_, _, _, _, _, _, _, _, _, l7, c7, k7⟩ := c.def_ 7 (d := ⟨fun K => (He.ga K "minus"), "minus", "minus", defArgs S_minus, defBody S_minus, defScope S_minus⟩) rfl
  obtain ⟨_, _, _, _, _, _, _, _, _, l8, c8, k8⟩ := c.def_ 8 (d := ⟨fun K => (He.ga K "floor_of"), "floor_of", "floor_of", defArgs S_floor_of, defBody S_floor_of, defScope S_floor_of⟩) rfl
  obtain ⟨_, _, _, _, _, _, _, _, _, l9, c9, k9⟩ := c.def_ 9 (d := ⟨fun K => (He.ga K "is_less"), "is_less", "is_less", defArgs S_is_less, defBody S_is_less, defScope S_is_less⟩) rfl
  obtain ⟨_, _, _, _, _, _, _, _, _, l10, c10, k10⟩ := c.def_ 10 (d := ⟨fun K => (He.ga K "arc"), "arc", "arc", defArgs S_arc, defBody S_arc, defScope S_arc⟩) rfl
  obtain ⟨_, _, _, _, _, _, _, _, _, l11, c11, k11⟩ := c.def_ 11 (d := ⟨fun K => (He.ga K "both"), "both", "both", defArgs S_both, defBody S_both, defScope S_both⟩) rfl
  obtain ⟨_, _, _, _, _, _, _, _, _, l12, c12, k12⟩ := c.def_ 12 (d := ⟨fun K => (He.ga K "is_day"), "is_day", "is_day", defArgs S_is_day, defBody S_is_day, defScope S_is_day⟩) rfl
  obtain ⟨_, _, _, _, _, _, _, _, _, l13, c13, k13⟩ := c.def_ 13 (d := ⟨fun K => (He.ga K "_is_many"), "_is_many", "_is_many", defArgs S__is_many, defBody S__is_many, defScope S__is_many⟩) rfl
  obtain ⟨_, _, _, _, _, _, _, _, _, l14, c14, k14⟩ := c.def_ 14 (d := ⟨fun K => (He.ga K "check_day"), "check_day", "check_day", defArgs S_check_day, defBody S_check_day, defScope S_check_day⟩) rfl
  obtain ⟨_, _, _, _, _, _, _, _, _, l15, c15, k15⟩ := c.def_ 15 (d := ⟨fun K => (He.ga K "is_stretch"), "is_stretch", "is_stretch", defArgs S_is_stretch, defBody S_is_stretch, defScope S_is_stretch⟩) rfl
  obtain ⟨_, _, _, _, _, _, _, _, _, l16, c16, k16⟩ := c.def_ 16 (d := ⟨fun K => (He.ga K "check_stretch"), "check_stretch", "check_stretch", defArgs S_check_stretch, defBody S_check_stretch, defScope S_check_stretch⟩) rfl
  obtain ⟨_, _, _, _, _, _, _, _, _, l17, c17, k17⟩ := c.def_ 17 (d := ⟨fun K => (He.ga K "rest_of"), "rest_of", "rest_of", defArgs S_rest_of, defBody S_rest_of, defScope S_rest_of⟩) rfl
  obtain ⟨_, _, _, _, _, _, _, _, _, l18, c18, k18⟩ := c.def_ 18 (d := ⟨fun K => (He.ga K "_total"), "_total", "_total", defArgs S__total, defBody S__total, defScope S__total⟩) rfl
  obtain ⟨_, _, _, _, _, _, _, _, _, l19, c19, k19⟩ := c.def_ 19 (d := ⟨fun K => (He.ga K "_given_before"), "_given_before", "_given_before", defArgs S__given_before, defBody S__given_before, defScope S__given_before⟩) rfl
  obtain ⟨_, _, _, _, _, _, _, _, _, l20, c20, k20⟩ := c.def_ 20 (d := ⟨fun K => (He.ga K "sum_before"), "sum_before", "sum_before", defArgs S_sum_before, defBody S_sum_before, defScope S_sum_before⟩) rfl
  obtain ⟨_, _, _, _, _, _, _, _, _, l21, c21, k21⟩ := c.def_ 21 (d := ⟨fun K => (He.ga K "point"), "point", "point", defArgs S_point, defBody S_point, defScope S_point⟩) rfl
  obtain ⟨_, _, _, _, _, _, _, _, _, l22, c22, k22⟩ := c.def_ 22 (d := ⟨fun K => (He.ga K "exact"), "exact", "exact", defArgs S_exact, defBody S_exact, defScope S_exact⟩) rfl
  obtain ⟨_, _, _, _, _, _, _, _, _, l23, c23, k23⟩ := c.def_ 23 (d := ⟨fun K => (He.ga K "is_ratio"), "is_ratio", "is_ratio", defArgs S_is_ratio, defBody S_is_ratio, defScope S_is_ratio⟩) rfl
  obtain ⟨_, _, _, _, _, _, _, _, _, l24, c24, k24⟩ := c.def_ 24 (d := ⟨fun K => (He.ga K "is_amount"), "is_amount", "is_amount", defArgs S_is_amount, defBody S_is_amount, defScope S_is_amount⟩) rfl
  obtain ⟨_, _, _, _, _, _, _, _, _, l25, c25, k25⟩ := c.def_ 25 (d := ⟨fun K => (He.ga K "_is_amounts"), "_is_amounts", "_is_amounts", defArgs S__is_amounts, defBody S__is_amounts, defScope S__is_amounts⟩) rfl
  obtain ⟨_, _, _, _, _, _, _, _, _, l26, c26, k26⟩ := c.def_ 26 (d := ⟨fun K => (He.ga K "wrong_part"), "wrong_part", "wrong_part", defArgs S_wrong_part, defBody S_wrong_part, defScope S_wrong_part⟩) rfl
  obtain ⟨_, _, _, _, _, _, _, _, _, l27, c27, k27⟩ := c.def_ 27 (d := ⟨fun K => (He.ga K "check_item"), "check_item", "check_item", defArgs S_check_item, defBody S_check_item, defScope S_check_item⟩) rfl
  obtain ⟨_, _, _, _, _, _, _, _, _, l28, c28, k28⟩ := c.def_ 28 (d := ⟨fun K => (He.ma K (He.ga K "Ledger") "__init__"), "__init__", "Ledger.__init__", defArgs S_Ledger___init__, defBody S_Ledger___init__, defScope S_Ledger___init__⟩) rfl
  obtain ⟨_, _, _, _, _, _, _, _, _, l29, c29, k29⟩ := c.def_ 29 (d := ⟨fun K => (He.ma K (He.ga K "Ledger") "_of_kind"), "_of_kind", "Ledger._of_kind", defArgs S_Ledger__of_kind, defBody S_Ledger__of_kind, defScope S_Ledger__of_kind⟩) rfl
  obtain ⟨_, _, _, _, _, _, _, _, _, l30, c30, k30⟩ := c.def_ 30 (d := ⟨fun K => (He.ma K (He.ga K "Ledger") "entries"), "entries", "Ledger.entries", defArgs S_Ledger_entries, defBody S_Ledger_entries, defScope S_Ledger_entries⟩) rfl
  obtain ⟨_, _, _, _, _, _, _, _, _, l31, c31, k31⟩ := c.def_ 31 (d := ⟨fun K => (He.ma K (He.ga K "Ledger") "statements"), "statements", "Ledger.statements", defArgs S_Ledger_statements, defBody S_Ledger_statements, defScope S_Ledger_statements⟩) rfl
  obtain ⟨_, _, _, _, _, _, _, _, _, l32, c32, k32⟩ := c.def_ 32 (d := ⟨fun K => (He.ma K (He.ga K "Ledger") "numbered"), "numbered", "Ledger.numbered", defArgs S_Ledger_numbered, defBody S_Ledger_numbered, defScope S_Ledger_numbered⟩) rfl
  obtain ⟨_, _, _, _, _, _, _, _, _, l33, c33, k33⟩ := c.def_ 33 (d := ⟨fun K => (He.ma K (He.ga K "Ledger") "_check_number"), "_check_number", "Ledger._check_number", defArgs S_Ledger__check_number, defBody S_Ledger__check_number, defScope S_Ledger__check_number⟩) rfl
  obtain ⟨_, _, _, _, _, _, _, _, _, l34, c34, k34⟩ := c.def_ 34 (d := ⟨fun K => (He.ma K (He.ga K "Ledger") "add"), "add", "Ledger.add", defArgs S_Ledger_add, defBody S_Ledger_add, defScope S_Ledger_add⟩) rfl
  obtain ⟨_, _, _, _, _, _, _, _, _, l35, c35, k35⟩ := c.def_ 35 (d := ⟨fun K => (He.ma K (He.ga K "Ledger") "drop"), "drop", "Ledger.drop", defArgs S_Ledger_drop, defBody S_Ledger_drop, defScope S_Ledger_drop⟩) rfl
  obtain ⟨_, _, _, _, _, _, _, _, _, l36, c36, k36⟩ := c.def_ 36 (d := ⟨fun K => (He.ga K "_law_ledger"), "_law_ledger", "_law_ledger", defArgs S__law_ledger, defBody S__law_ledger, defScope S__law_ledger⟩) rfl
  obtain ⟨_, _, _, _, _, _, _, _, _, l37, c37, k37⟩ := c.def_ 37 (d := ⟨fun K => (He.ga K "choices"), "choices", "choices", defArgs S_choices, defBody S_choices, defScope S_choices⟩) rfl
  obtain ⟨_, _, _, _, _, _, _, _, _, l38, c38, k38⟩ := c.def_ 38 (d := ⟨fun K => (He.ga K "_telling"), "_telling", "_telling", defArgs S__telling, defBody S__telling, defScope S__telling⟩) rfl
  obtain ⟨_, _, _, _, _, _, _, _, _, l39, c39, k39⟩ := c.def_ 39 (d := ⟨fun K => (He.ga K "allowed"), "allowed", "allowed", defArgs S_allowed, defBody S_allowed, defScope S_allowed⟩) rfl
  obtain ⟨_, _, _, _, _, _, _, _, _, l40, c40, k40⟩ := c.def_ 40 (d := ⟨fun K => (He.ga K "telling_all"), "telling_all", "telling_all", defArgs S_telling_all, defBody S_telling_all, defScope S_telling_all⟩) rfl
  obtain ⟨_, _, _, _, _, _, _, _, _, l41, c41, k41⟩ := c.def_ 41 (d := ⟨fun K => (He.ga K "left"), "left", "left", defArgs S_left, defBody S_left, defScope S_left⟩) rfl
  obtain ⟨_, _, _, _, _, _, _, _, _, l42, c42, k42⟩ := c.def_ 42 (d := ⟨fun K => (He.ga K "_law_amount"), "_law_amount", "_law_amount", defArgs S__law_amount, defBody S__law_amount, defScope S__law_amount⟩) rfl
  obtain ⟨_, _, _, _, _, _, _, _, _, l43, c43, k43⟩ := c.def_ 43 (d := ⟨fun K => (He.ga K "_law_entry"), "_law_entry", "_law_entry", defArgs S__law_entry, defBody S__law_entry, defScope S__law_entry⟩) rfl
  obtain ⟨_, _, _, _, _, _, _, _, _, l44, c44, k44⟩ := c.def_ 44 (d := ⟨fun K => (He.ga K "_law_entries"), "_law_entries", "_law_entries", defArgs S__law_entries, defBody S__law_entries, defScope S__law_entries⟩) rfl
  obtain ⟨_, _, _, _, _, _, _, _, _, l45, c45, k45⟩ := c.def_ 45 (d := ⟨fun K => (He.ga K "_law_grain"), "_law_grain", "_law_grain", defArgs S__law_grain, defBody S__law_grain, defScope S__law_grain⟩) rfl
  obtain ⟨_, _, _, _, _, _, _, _, _, l46, c46, k46⟩ := c.def_ 46 (d := ⟨fun K => (He.ga K "_law_before"), "_law_before", "_law_before", defArgs S__law_before, defBody S__law_before, defScope S__law_before⟩) rfl
  obtain ⟨_, _, _, _, _, _, _, _, _, l47, c47, k47⟩ := c.def_ 47 (d := ⟨fun K => (He.ga K "_law_told"), "_law_told", "_law_told", defArgs S__law_told, defBody S__law_told, defScope S__law_told⟩) rfl
  obtain ⟨_, _, _, _, _, _, _, _, _, l48, c48, k48⟩ := c.def_ 48 (d := ⟨fun K => (He.ga K "_law_stretch"), "_law_stretch", "_law_stretch", defArgs S__law_stretch, defBody S__law_stretch, defScope S__law_stretch⟩) rfl
  obtain ⟨_, _, _, _, _, _, _, _, _, l49, c49, k49⟩ := c.def_ 49 (d := ⟨fun K => (He.ga K "_law_points"), "_law_points", "_law_points", defArgs S__law_points, defBody S__law_points, defScope S__law_points⟩) rfl
  obtain ⟨_, _, _, _, _, _, _, _, _, l50, c50, k50⟩ := c.def_ 50 (d := ⟨fun K => (He.ga K "_law_ends"), "_law_ends", "_law_ends", defArgs S__law_ends, defBody S__law_ends, defScope S__law_ends⟩) rfl
  obtain ⟨_, _, _, _, _, _, _, _, _, l51, c51, k51⟩ := c.def_ 51 (d := ⟨fun K => (He.ga K "_law_left"), "_law_left", "_law_left", defArgs S__law_left, defBody S__law_left, defScope S__law_left⟩) rfl
  obtain ⟨_, _, _, _, _, _, _, _, _, l52, c52, k52⟩ := c.def_ 52 (d := ⟨fun K => (He.ga K "_law_any_statements"), "_law_any_statements", "_law_any_statements", defArgs S__law_any_statements, defBody S__law_any_statements, defScope S__law_any_statements⟩) rfl
  obtain ⟨_, _, _, _, _, _, _, _, _, l53, c53, k53⟩ := c.def_ 53 (d := ⟨fun K => (He.ga K "_law_true_statements"), "_law_true_statements", "_law_true_statements", defArgs S__law_true_statements, defBody S__law_true_statements, defScope S__law_true_statements⟩) rfl
  obtain ⟨_, _, _, _, _, _, _, _, _, l54, c54, k54⟩ := c.def_ 54 (d := ⟨fun K => (He.ga K "_law_whole"), "_law_whole", "_law_whole", defArgs S__law_whole, defBody S__law_whole, defScope S__law_whole⟩) rfl
  obtain ⟨_, _, _, _, _, _, _, _, _, l55, c55, k55⟩ := c.def_ 55 (d := ⟨fun K => (He.ga K "is_last"), "is_last", "is_last", defArgs S_is_last, defBody S_is_last, defScope S_is_last⟩) rfl
  obtain ⟨_, _, _, _, _, _, _, _, _, l56, c56, k56⟩ := c.def_ 56 (d := ⟨fun K => (He.ga K "points_up_to"), "points_up_to", "points_up_to", defArgs S_points_up_to, defBody S_points_up_to, defScope S_points_up_to⟩) rfl
  obtain ⟨_, _, _, _, _, _, _, _, _, l57, c57, k57⟩ := c.def_ 57 (d := ⟨fun K => (He.ga K "_ascending"), "_ascending", "_ascending", defArgs S__ascending, defBody S__ascending, defScope S__ascending⟩) rfl
  obtain ⟨_, _, _, _, _, _, _, _, _, l58, c58, k58⟩ := c.def_ 58 (d := ⟨fun K => (He.ga K "cells"), "cells", "cells", defArgs S_cells, defBody S_cells, defScope S_cells⟩) rfl
  obtain ⟨_, _, _, _, _, _, _, _, _, l59, c59, k59⟩ := c.def_ 59 (d := ⟨fun K => (He.ga K "_some_left"), "_some_left", "_some_left", defArgs S__some_left, defBody S__some_left, defScope S__some_left⟩) rfl
  obtain ⟨_, _, _, _, _, _, _, _, _, l60, c60, k60⟩ := c.def_ 60 (d := ⟨fun K => (He.ga K "_tree"), "_tree", "_tree", defArgs S__tree, defBody S__tree, defScope S__tree⟩) rfl
  obtain ⟨_, _, _, _, _, _, _, _, _, l61, c61, k61⟩ := c.def_ 61 (d := ⟨fun K => (He.ga K "plan"), "plan", "plan", defArgs S_plan, defBody S_plan, defScope S_plan⟩) rfl
  obtain ⟨_, _, _, _, _, _, _, _, _, l62, c62, k62⟩ := c.def_ 62 (d := ⟨fun K => (He.ga K "plan_paper"), "plan_paper", "plan_paper", defArgs S_plan_paper, defBody S_plan_paper, defScope S_plan_paper⟩) rfl
  obtain ⟨_, _, _, _, _, _, _, _, _, l63, c63, k63⟩ := c.def_ 63 (d := ⟨fun K => (He.ga K "_law_said"), "_law_said", "_law_said", defArgs S__law_said, defBody S__law_said, defScope S__law_said⟩) rfl
  obtain ⟨_, _, _, _, _, _, _, _, _, l64, c64, k64⟩ := c.def_ 64 (d := ⟨fun K => (He.ga K "_law_within"), "_law_within", "_law_within", defArgs S__law_within, defBody S__law_within, defScope S__law_within⟩) rfl
  obtain ⟨_, _, _, _, _, _, _, _, _, l65, c65, k65⟩ := c.def_ 65 (d := ⟨fun K => (He.ga K "_law_cell_of"), "_law_cell_of", "_law_cell_of", defArgs S__law_cell_of, defBody S__law_cell_of, defScope S__law_cell_of⟩) rfl
  obtain ⟨_, _, _, _, _, _, _, _, _, l66, c66, k66⟩ := c.def_ 66 (d := ⟨fun K => (He.ga K "_law_asks"), "_law_asks", "_law_asks", defArgs S__law_asks, defBody S__law_asks, defScope S__law_asks⟩) rfl
  obtain ⟨_, _, _, _, _, _, _, _, _, l67, c67, k67⟩ := c.def_ 67 (d := ⟨fun K => (He.ga K "_law_plan_due"), "_law_plan_due", "_law_plan_due", defArgs S__law_plan_due, defBody S__law_plan_due, defScope S__law_plan_due⟩) rfl
  obtain ⟨_, _, _, _, _, _, _, _, _, l68, c68, k68⟩ := c.def_ 68 (d := ⟨fun K => (He.ga K "_law_right"), "_law_right", "_law_right", defArgs S__law_right, defBody S__law_right, defScope S__law_right⟩) rfl
  obtain ⟨_, _, _, _, _, _, _, _, _, l69, c69, k69⟩ := c.def_ 69 (d := ⟨fun K => (He.ga K "law"), "law", "law", defArgs S_law, defBody S_law, defScope S_law⟩) rfl
  obtain ⟨_, gl1, gd1⟩ := tupO_ok q121
  obtain ⟨_, gl2, gd2⟩ := tupO_ok q123
  obtain ⟨_, cg3⟩ := intC_ok q124
  obtain ⟨_, cg4⟩ := intC_ok q125
  obtain ⟨_, cg5⟩ := intC_ok q126
  obtain ⟨_, cg6⟩ := intC_ok q127
  exact all_mk X G hfa (He.eqO_ok q0) q1 q2 q3 (He.eqO_ok q4) q5 q6 (He.eqO_ok q7) (He.eqO_ok q8) mcE gE mcS gS (He.eqO_ok q13) q14 q15 (of_decide_eq_true q16) (of_decide_eq_true q17) q18 (He.eqO_ok q19) (He.eqO_ok q20) (He.eqO_ok q21) (of_decide_eq_true q22) q23 (of_decide_eq_true q24) (He.eqO_ok q25) q26 q27 (of_decide_eq_true q28) (of_decide_eq_true q29) q30 (He.eqO_ok q31) (He.eqO_ok q32) (He.eqO_ok q33) (of_decide_eq_true q34) q35 (of_decide_eq_true q36) (He.eqO_ok q11) (of_decide_eq_true q12) (of_decide_eq_true q37) (of_decide_eq_true q38) (of_decide_eq_true q39) (of_decide_eq_true q40) (He.eqO_ok q41) l0 c0 k0 (He.eqO_ok q42) l1 c1 k1 (He.eqO_ok q43) l2 c2 k2 (He.eqO_ok q44) l3 c3 k3 (He.eqO_ok q45) l4 c4 k4 (He.eqO_ok q46) l5 c5 k5 (He.eqO_ok q47) l6 c6 k6 (He.eqO_ok q48) l7 c7 k7 (He.eqO_ok q49) l8 c8 k8 (He.eqO_ok q50) l9 c9 k9 (He.eqO_ok q51) l10 c10 k10 (He.eqO_ok q52) l11 c11 k11 (He.eqO_ok q53) l12 c12 k12 (He.eqO_ok q54) l13 c13 k13 (He.eqO_ok q55) l14 c14 k14 (He.eqO_ok q56) l15 c15 k15 (He.eqO_ok q57) l16 c16 k16 (He.eqO_ok q58) l17 c17 k17 (He.eqO_ok q59) l18 c18 k18 (He.eqO_ok q60) l19 c19 k19 (He.eqO_ok q61) l20 c20 k20 (He.eqO_ok q62) l21 c21 k21 (He.eqO_ok q63) l22 c22 k22 (He.eqO_ok q64) l23 c23 k23 (He.eqO_ok q65) l24 c24 k24 (He.eqO_ok q66) l25 c25 k25 (He.eqO_ok q67) l26 c26 k26 (He.eqO_ok q68) l27 c27 k27 (He.eqO_ok q69) q70 l28 c28 k28 (He.eqO_ok q71) q72 l29 c29 k29 (He.eqO_ok q73) q74 l30 c30 k30 (He.eqO_ok q75) q76 l31 c31 k31 (He.eqO_ok q77) q78 l32 c32 k32 (He.eqO_ok q79) q80 l33 c33 k33 (He.eqO_ok q81) q82 l34 c34 k34 (He.eqO_ok q83) q84 l35 c35 k35 (He.eqO_ok q85) l36 c36 k36 (He.eqO_ok q86) l37 c37 k37 (He.eqO_ok q87) l38 c38 k38 (He.eqO_ok q88) l39 c39 k39 (He.eqO_ok q89) l40 c40 k40 (He.eqO_ok q90) l41 c41 k41 (He.eqO_ok q91) l42 c42 k42 (He.eqO_ok q92) l43 c43 k43 (He.eqO_ok q93) l44 c44 k44 (He.eqO_ok q94) l45 c45 k45 (He.eqO_ok q95) l46 c46 k46 (He.eqO_ok q96) l47 c47 k47 (He.eqO_ok q97) l48 c48 k48 (He.eqO_ok q98) l49 c49 k49 (He.eqO_ok q99) l50 c50 k50 (He.eqO_ok q100) l51 c51 k51 (He.eqO_ok q101) l52 c52 k52 (He.eqO_ok q102) l53 c53 k53 (He.eqO_ok q103) l54 c54 k54 (He.eqO_ok q104) l55 c55 k55 (He.eqO_ok q105) l56 c56 k56 (He.eqO_ok q106) l57 c57 k57 (He.eqO_ok q107) l58 c58 k58 (He.eqO_ok q108) l59 c59 k59 (He.eqO_ok q109) l60 c60 k60 (He.eqO_ok q110) l61 c61 k61 (He.eqO_ok q111) l62 c62 k62 (He.eqO_ok q112) l63 c63 k63 (He.eqO_ok q113) l64 c64 k64 (He.eqO_ok q114) l65 c65 k65 (He.eqO_ok q115) l66 c66 k66 (He.eqO_ok q116) l67 c67 k67 (He.eqO_ok q117) l68 c68 k68 (He.eqO_ok q118) l69 c69 k69 (He.eqO_ok q119) (He.eqO_ok q120) gl1 gd1 (He.eqO_ok q122) gl2 gd2 cg3 cg4 cg5 cg6 (He.eqO_ok q128) (He.eqO_ok q129) (He.eqO_ok q130) (He.eqO_ok q131) (He.eqO_ok q132) (He.eqO_ok q133) (He.eqO_ok q134) (He.eqO_ok q135) (He.eqO_ok q136) (He.eqO_ok q137) (He.eqO_ok q138) (He.eqO_ok q139) (He.eqO_ok q140) (He.eqO_ok q141) (He.eqO_ok q142) (He.eqO_ok q143) (He.eqO_ok q144) (He.eqO_ok q145) (He.eqO_ok q146) (He.eqO_ok q147) (He.eqO_ok q148)
end Ob
open PySem PySem.W PySem.Calls PyProof.Rows
set_option maxRecDepth 100000 in
set_option maxHeartbeats 0 in
theorem PySem.Challenge.cw_onecut_k76_papers_of_plans_holds : PySem.Challenge.rw_onecut_k76_papers_of_plans.Holds := by
  w_on; o_law
  refine HandSHeadRun.head_imp (r := OpenLaw.row PySem.Challenge.rw_onecut_k76_papers_of_plans) (q := view (OpenLaw.row PySem.Challenge.rw_onecut_k76_papers_of_plans).prog [0, 89]) (H := Ob.hkH) (ob := Ob.obH) (M := 12000) (loose := Ob.lsH) (d := HandSHeadRun.topDef (OpenLaw.row PySem.Challenge.rw_onecut_k76_papers_of_plans).prog 89) (kwd := []) Ob.obH_eq
    Ob.runH (by kernel_rfl) (by kernel_rfl) (by kernel_rfl) (by rfl) (by first | assumption | decide +kernel) (by decide +kernel) ⟨rfl, rfl, rfl, rfl, rfl, by decide +kernel⟩ ?hw ?hc
  case hw => w_witness2
  case hc =>
    refine Ob.walk_gE (l := PySem.Challenge.rw_onecut_k76_papers_of_plans) (n := 63) (k := 17) (x := "_law_script") (CX := L2.CX0) rfl (by decide) (by kernel_rfl) ⟨rfl, by decide, by decide⟩ ?F (fun _ _ _ _ z => z)
    intro w mg fa h Y G hmg0
    obtain ⟨K, KX, c⟩ := Y
    have hmg : mg ("law" : PySem.Str) = some (.ref fa) := by
      have e : (HandSHeadRun.topDef (OpenLaw.row PySem.Challenge.rw_onecut_k76_papers_of_plans).prog 89).name = ("law" : PySem.Str) := by kernel_rfl
      rw [← e]
      exact hmg0
    obtain ⟨fd, hb, hF⟩ := Ob.factsH (l := PySem.Challenge.rw_onecut_k76_papers_of_plans) (w := w) KX G hmg c
    exact ⟨K, fd, Ob.sp_law K, KX, hb, fun H a ns hl _ o hS => ⟨a, ns, rfl, Ob.Scr.of o hS, hl, fun _ => rfl⟩, hF⟩

