import PyProof.Rows.All
import Wide.All
import OpenK.AllK
import Wide.FinOn
import HandS.ForMost
import HandS.Wide
import HandS.Gcd
import HandS.EndBits
import HandS.IsInst
import HandS.Flow
import HandS.Flt
import HandS.FStrTup
import HandS.Style
import HandS.ExcInit
import HandS.HeadHook1
import HandS.HeadHook2
import HandS.Head0
import HandS.Head1
import HandS.Head2
import HandS.Head3
import HandS.HeadEnd
import HandS.HeadNt
import HandS.RaiseMore
import HandS.Rev
import HandS.NoneIn
import KE.DatumOrd
import HandS.SortKw
import HandS.Steps
import HandS.Conv
import KE.GoesMore
import HandS.WideBits
import HandS.Strs
import PyProof.Rows.SetFrom
import HandS.ForDict
import HandS.ListItems
import HandS.TupAny
import HandS.Deep
import HandS.ExcOwn
import HandS.CallSlots
import HandS.TryOnly
import HandS.WordsExc
import HandS.FStr
import HandS.TryMany
import HandS.ExcField
import HandS.ClsMeth
import KE.KExcIs
import KE.KTupSum
import PyProof.LongRange
import HandS.SortInts
import PySem.Challenge.RW_onecut_k46_best_wishes
set_option Elab.async false
set_option linter.all false
set_option maxRecDepth 100000
set_option exponentiation.threshold 10000
set_option maxHeartbeats 4000000
/-! Defs that may show data by repr: a promise that is asked only where nothing is being shown. -/
namespace Ob
open PySem PySem.Spec PyProof.Rows L2
structure FnG (P : Program) (w : World) (K : PySem.W.Frag) (mg : Str → Option Value) (base : Heap) (CX : CXT) (k : Nat) (f : Addr) (fd : FuncData) (ps : List Str) (sp : Sp) : Prop where
  ar : ∀ vs H Q E, sp vs H Q E → vs.length = ps.length
  go : ∀ (A : Around) (outer : List Env) (s : Shared) (H : Hp) (args : Args) (us : List Value) (vs : List V) (Q : VK) (E : XK), A.guards = some [] → Room k A → Env0 P w K mg base A outer s H →
    BindsTo s fd args (ps.zip us) → Vals vs us → sp vs H Q E → codeAny (model P w) A (.call (.ref f) args) (CR CX outer P w H s Q E) s
section
variable {P : Program} {w : World} {K : PySem.W.Frag} {mg : Str → Option Value} {base : Heap} {CX : CXT}
theorem FnG.up {j k : Nat} {f : Addr} {fd : FuncData} {ps : List Str} {sp : Sp} (F : FnG P w K mg base CX j f fd ps sp) (h : j ≤ k) : FnG P w K mg base CX k f fd ps sp :=
  ⟨F.ar, fun A o s H args us vs Q E hg hr => F.go A o s H args us vs Q E hg (hr.mono h)⟩
/-- a def of the text by its body -/
theorem Fun_okG {x qual : Str} {st : Stmt} {f : Addr} {fd : FuncData} {N ps : List Str} {k : Nat} {sp : Sp} (F : Fun K x qual st f fd) (S : FnScope N ps (defScope st)) (ar : ∀ vs H Q E, sp vs H Q E → vs.length = ps.length)
    (body : ∀ (c : Value) (A : Around) (outer : List Env) (s : Shared) (H : Hp) (vs : List V) (Q : VK) (E : XK), A.guards = some [] → Room k (A.deeper (envOfC qual (defScope st) s.heap.objs.size f c)) → sp vs H Q E →
      ∃ t, PSs (cxOf CX P w K mg base N qual (defScope st) f c A outer s H E).nox (defBody st) t ∧ t { nx := fun _ J => Q .non J, rt := Q } (start N vs) H) : FnG P w K mg base CX (k + 1) f fd ps sp := by
  obtain ⟨oc, od, kV, doc, pm, an, c, ct, osl, rfl, look, code⟩ := F.ex
  refine ⟨ar, fun A outer s H args us vs Q E hg hr e0 bnd rv hs => ?_⟩
  have count := ar _ _ _ _ hs
  have kept : ∀ b o, base.get? b = some o → s.heap.get? b = some o := fun b o e => (e0.bs b o e).1
  have inK : K.In s.heap := e0.mod.kin.keeps kept
  refine codeAny_call_function hr.depth (inK _ _ look) rfl S.co S.gen rfl (PySem.W.codeRec_of inK code) (bnd _ _ _ _ ?_)
  refine wpAny_newFunctionEnv_cells S.kind (fun y hy => (S.par y.1 (List.of_mem_zip (show (y.1, y.2) ∈ ps.zip us from hy)).1).imp id fun q => ⟨q, PySem.W.cellsFrom_some _ _ _ (.inl q)⟩) fun env he s1 x => ?_
  subst he
  obtain ⟨t, ht, hq⟩ := body c A outer s H vs Q E hg (hr.deeper _) hs
  have I : Inv (cxOf CX P w K mg base N qual (defScope st) f c A outer s H E) [] (start N vs) H s1 := inv_start S hr.hd e0 count rv x
  refine ⟨(e0.mod.nolimit.keeps kept).keeps x.toInCall.keep, codeAny_func (wpAny_mono (ht.nox.run [] s1 (start N vs) H _ I hq) (fun fl s' z => ?_) fun e s' z => z)⟩
  cases fl with
  | next => exact (let ⟨σ', J, I', q⟩ := z; ⟨V.non, J, I'.os, I'.bare, I'.base, I'.hok, rfl, q⟩)
  | ret u => exact (let ⟨v, σ', J, I', r', q⟩ := z; ⟨v, J, I'.os, I'.bare, I'.base, I'.hok, r', q⟩)
  | brk => exact (let ⟨_, _, _, q⟩ := z; False.elim q)
  | cont => exact (let ⟨_, _, _, q⟩ := z; False.elim q)
end
section
variable {X : Cx} {CX : CXT} {k : Nat} {f : Addr} {fd : FuncData} {ps : List Str} {sp : Sp} {ds : List Value} {dvs : List V} {E : XK}
theorem run_g {pins : List (Addr × Obj)} {σ : L2.St} {H : Hp} {s : Shared} {Q : VK} {us : List Value} {vs : List V} (F : FnG X.prog X.w X.K X.mg X.base CX k f fd ps sp) (hg : X.A.guards = some []) (hr : Room k X.A) (hb : Binds X.K fd ps ds) (hd : Vals dvs ds) (hx : Passes CX X E)
    (I : Inv X pins σ H s) (rv : Vals vs us) (hs : sp (vs ++ dvs) H Q E) : wpAny (model X.prog X.w) X.A (call (.ref f) us) (EP X pins σ Q) X.xe s := by
  have all := rv.append hd
  refine wpAny_call (codeAny_mono (F.go X.A X.stack s H ⟨us, []⟩ (us ++ ds) (vs ++ dvs) Q E hg hr I.env0 (hb s us I.kIn (all.length ▸ F.ar _ _ _ _ hs)) all hs) fun r s' z => ?_)
  match r, z with
  | .error e, z => exact hx pins σ H s e s' I z
  | .ok (.ret u), z => exact I.after z
variable {x : Str} {e : Expr} {es : List Expr} {t : TA} {p pos : Pos}
/-- f(e, ..) -/
theorem pe_g (F : FnG X.prog X.w X.K X.mg X.base CX k f fd ps sp) (hg : X.A.guards = some []) (hr : Room k X.A) (gl : Gl X x) (hm : X.mg x = some (.ref f)) (hk : PySem.W.keepIn X.K (.ref f) = true) (hb : Binds X.K fd ps ds) (hd : Vals dvs ds) (hx : Passes CX X E)
    (ha : PA X (e :: es) t) (hdb : (x == ("__debug__" : Str)) = false := by decide) (he : starEach (e :: es) X.env = (false, eval e X.env) :: starEach es X.env := by rfl) (hpl : (backTo pos (starEach es X.env)).any (·.1) = false := by rfl) :
    PE X (.Call (.Name x p) (e :: es) [] pos) (tCall sp dvs E t) :=
  ⟨fun pins s σ H Q I h => wpAny_Call_Name_kw (ld_glob I gl hm (PySem.W.callWith_K (h₀ := X.base) I.ok.mod.kin hk (thn (ha.run pos pins s σ H _ I h) fun us s1 z => let ⟨vs, J, I1, rv, q⟩ := z; ⟨I1.kIn, run_g F hg hr hb hd hx I1 rv q⟩) he hpl) hdb)⟩
end
/-! ### the law's call -/
section
variable {P : Program} {w : World} {K : PySem.W.Frag} {mg mb : Str → Option Value} {CX : CXT} {k : Nat} {fa a : Addr} {fd : FuncData} {x : Str} {sp : Sp} {s₁ : Shared} {vs : List Value} {ns : List Int}
def LawEnd (s₁ : Shared) : Result → Shared → Prop := fun r s' => r = .ok (.ret (.bool true)) ∧ OldK s₁.heap s'.heap ∧ s'.os = s₁.os ∧ AllBare s'.gens
/-- H tracks at most the script, locked -/
theorem law_at (H : Hp) (inK : K.In s₁.heap) (hns : s₁.heap.Ns mainGlobals mg) (hb : s₁.heap.Ns builtinsNs mb) (hbb : ∀ x : Str, x ≠ "__name__" → mb x = bootBuiltins x) (hlim : s₁.heap.NoLimit) (hg : s₁.gens = #[])
    (ha : s₁.heap.get? a = some { cls := .type "list", data := .seq vs.toArray }) (hr : Room k callerA)
    (F : ∀ base : Heap, K.In base → base.Ns mainGlobals mg → FnG P w K mg base CX k fa fd [x] sp) (hbind : ∀ (s : Shared) (u : Value), BindsTo s fd ⟨[u], []⟩ [(x, u)])
    (hs : sp [.ref a] H (fun v _ => v = .bl true) fun _ _ _ => False) (hCX : ∀ e s', CX [] H s₁ (fun _ _ _ => False) e s' → False)
    (hO : Only H) (ok : HOk P w H s₁.heap) (only : ∀ b, H b ≠ none → b = a) (free : H a ≠ none → K.lookup a = none) : codeAny (model P w) callerA (.call (.ref fa) ⟨[.ref a], []⟩) (LawEnd s₁) s₁ := by
  have out : ∀ {b o}, s₁.heap.get? b = some o → ((H b ≠ none → b = a) → H b ≠ none → False) → (hidT s₁.heap H).get? b = some o := fun {b o} e no => hidT_get e (Classical.byContradiction fun n => no (only b) n)
  have names : ∀ {b m}, s₁.heap.Ns b m → (hidT s₁.heap H).Ns b m := fun {b m} z => let ⟨o, es, ep, e, d, r⟩ := z; ⟨o, es, ep, out e (fun g n => by
    obtain rfl := g n
    cases ha.symm.trans e
    cases d), d, r⟩
  have written : K.In (hidT s₁.heap H) := fun b o e => out (inK b o e) fun g n => by
    obtain rfl := g n
    cases (free n).symm.trans e
  have env : Env0 P w K mg (hidT s₁.heap H) callerA [] s₁ H :=
    ⟨rfl, ⟨written, names hns, ⟨mb, names hb, hbb⟩, let ⟨m, p, q⟩ := hlim; ⟨m, names p, q⟩⟩, fun _ _ e => of_hidT e, Nat.le_of_eq (hidT_size _ _), trivial, (fun _ z => absurd z (by simp [frs])), ok, AllBare.of_eq hg⟩
  refine codeAny_mono ((F _ written (names hns)).go callerA [] s₁ H ⟨[.ref a], []⟩ [.ref a] [.ref a] _ _ rfl hr env (hbind s₁ (.ref a)) (.cons rfl .nil) hs) fun r s' z => ?_
  match r, z with
  | .error e, z => exact (hCX e s' z).elim
  | .ok (.ret u), z =>
    obtain ⟨v, J, os, bare, un, ok', rel, rfl⟩ := z
    obtain rfl : u = Value.bool true := rel
    refine ⟨rfl, OldK.of_keep fun b o e => ?_, os, bare⟩
    rcases hO b with n | ⟨ob, xs, n⟩
    · exact un.keep b o e n (fun z => absurd z (by simp [frs])) (by simp)
    · have h1 := (ok b _ n).1
      cases e.symm.trans h1
      exact (ok' b _ (un.frzs b _ _ n)).1
theorem law_g (inK : K.In s₁.heap) (hns : s₁.heap.Ns mainGlobals mg) (hb : s₁.heap.Ns builtinsNs mb) (hbb : ∀ x : Str, x ≠ "__name__" → mb x = bootBuiltins x) (hlim : s₁.heap.NoLimit) (hg : s₁.gens = #[])
    (ha : s₁.heap.get? a = some { cls := .type "list", data := .seq vs.toArray }) (hi : IntsAre vs ns) (hl : ns.length ≤ sizeLine) (hr : Room k callerA)
    (F : ∀ base : Heap, K.In base → base.Ns mainGlobals mg → FnG P w K mg base CX k fa fd [x] sp) (hbind : ∀ (s : Shared) (u : Value), BindsTo s fd ⟨[u], []⟩ [(x, u)])
    (hs : ∀ H : Hp, Only H → SqL K H a (ns.map V.int) → sp [.ref a] H (fun v _ => v = .bl true) fun _ _ _ => False)
    (hCX : ∀ H e s', CX [] H s₁ (fun _ _ _ => False) e s' → False) : codeAny (model P w) callerA (.call (.ref fa) ⟨[.ref a], []⟩) (LawEnd s₁) s₁ := by
  have rv := vals_ints hi
  have many : vs.length = ns.length := by have := hi.length; omega
  have put : ∀ H : Hp, Only H → SqL K H a (ns.map V.int) → HOk P w H s₁.heap → (∀ b, H b ≠ none → b = a) → (H a ≠ none → K.lookup a = none) → codeAny (model P w) callerA (.call (.ref fa) ⟨[.ref a], []⟩) (LawEnd s₁) s₁ :=
    fun H o q ok g f => law_at H inK hns hb hbb hlim hg ha hr F hbind (hs H o q) (hCX H) o ok g f
  cases kl : K.lookup a with
  | some o =>
    cases ha.symm.trans (inK a o kl)
    exact put (fun _ => none) (fun _ => .inl rfl) (.inr ⟨_, vs.toArray, _, kl, rfl, rfl, rfl, by rw [List.size_toArray, many]; exact hl, by simpa using rv⟩) (fun _ _ z => by cases z) (fun _ z => absurd rfl z) fun z => absurd rfl z
  | none =>
    have at_a : ∀ {b : Addr}, b = a → (fun b => if b = a then some (HO.frz { cls := .type "list", data := .seq vs.toArray } (.lst (ns.map V.int))) else none) b = some (HO.frz { cls := .type "list", data := .seq vs.toArray } (.lst (ns.map V.int))) := fun e => if_pos e
    have off_a : ∀ {b : Addr}, b ≠ a → (fun b => if b = a then some (HO.frz { cls := .type "list", data := .seq vs.toArray } (.lst (ns.map V.int))) else none) b = none := fun e => if_neg e
    refine put _ (fun b => ?_) (.inl (.inr ⟨_, at_a rfl⟩)) (fun b u z => ?_) (fun b z => Classical.byContradiction fun n => z (off_a n)) fun _ => kl
    · by_cases e : b = a
      · exact .inr ⟨_, _, at_a e⟩
      · exact .inl (off_a e)
    · by_cases e : b = a
      · cases (at_a e).symm.trans z
        subst e
        exact ⟨ha, by rw [List.length_map]; exact hl, vs, _, rv, ha⟩
      · cases (off_a e).symm.trans z
end
end Ob
namespace Ob
open PySem PySem.Spec PyProof.Rows L2
/-! ### repr of data -/
mutual
def sz : PyData → Nat
  | .none => 4
  | .bool _ => 5
  | .int i => i.natAbs.log2 + 2
  | .str _ => 0
  | .list xs => szs xs + 2
  | .tuple xs => szs xs + 2
  | .dict _ => 0
def szs : List PyData → Nat
  | [] => 0
  | x :: xs => sz x + 2 + szs xs
end
mutual
/-- no texts, no dicts; ints below 1,900 bits -/
def sm : PyData → Bool
  | .none => true
  | .bool _ => true
  | .int i => decide (i.natAbs.log2 < 1900)
  | .str _ => false
  | .list xs => sms xs
  | .tuple xs => sms xs
  | .dict _ => false
def sms : List PyData → Bool
  | [] => true
  | x :: xs => sm x && sms xs
end
theorem list_le (ts : List Str) : (listText ts).length ≤ piled ts + 2 := by
  cases ts with
  | nil => decide +kernel
  | cons t r =>
    have h := textFrom_length_pos r 1 (("[" : Str) ++ (if (0 : Nat) > 0 then ", " else "" : String) ++ t) (Nat.succ_pos 0)
    have e : ((("[" : Str) ++ (if (0 : Nat) > 0 then ", " else "" : String) ++ t)).length = 1 + t.length := by rw [strLen_append, strLen_append] <;> rfl
    have e2 : (listText (t :: r)).length = (textFrom 1 (("[" : Str) ++ (if (0 : Nat) > 0 then ", " else "" : String) ++ t) r).length + 1 := strLen_append _ _
    rw [e2, h, e, piled_cons]
    omega
mutual
theorem shown_le : ∀ d : PyData, sm d = true → d.shown.length ≤ sz d ∧ d.showable = true ∧ d.hasDict = false
  | .none, _ => ⟨by decide +kernel, by simp [PyData.showable], by simp [PyData.hasDict]⟩
  | .bool b, _ => ⟨by cases b <;> decide +kernel, by simp [PyData.showable], by simp [PyData.hasDict]⟩
  | .int i, h => by
    have h1 : i.natAbs.log2 < 1900 := by simpa [sm] using h
    refine ⟨?_, by simp [PyData.showable]; omega, by simp [PyData.hasDict]⟩
    have e := int_text_length_le (a := i) (k := i.natAbs.log2 + 1) (by omega) (by omega)
    have e3 : (PyData.int i).shown = Str.ofString (toString i) := by simp only [PyData.shown]
    rw [e3, PySem.ofString_length, sz]
    omega
  | .str _, h => by simp [sm] at h
  | .dict _, h => by simp [sm] at h
  | .list xs, h => by
    have q := showns_le xs (by simpa [sm] using h)
    refine ⟨?_, by simp [PyData.showable, q.2.1], by simp [PyData.hasDict, q.2.2]⟩
    have e := list_le (PyData.shownAll xs)
    simp only [PyData.shown, sz]
    omega
  | .tuple xs, h => by
    have q := showns_le xs (by simpa [sm] using h)
    refine ⟨?_, by simp [PyData.showable, q.2.1], by simp [PyData.hasDict, q.2.2]⟩
    have e := fmt_text (PyData.shownAll xs)
    simp only [PyData.shown, sz]
    omega
theorem showns_le : ∀ xs : List PyData, sms xs = true → piled (PyData.shownAll xs) ≤ szs xs ∧ PyData.showableAll xs = true ∧ PyData.hasDictAll xs = false
  | [], _ => ⟨Nat.zero_le _, by simp [PyData.showableAll], by simp [PyData.hasDictAll]⟩
  | x :: xs, h => by
    have h2 : sm x = true ∧ sms xs = true := by simpa [sms] using h
    have p := shown_le x h2.1
    have q := showns_le xs h2.2
    refine ⟨?_, by simp [PyData.showableAll, p.2.1, q.2.1], by simp [PyData.hasDictAll, p.2.2, q.2.2]⟩
    have e : PyData.shownAll (x :: xs) = x.shown :: PyData.shownAll xs := by simp only [PyData.shownAll]
    rw [e, piled_cons, szs]
    omega
end
def rRepr (K : PySem.W.Frag) : List V → Hp → VK → Prop := fun xs H Q => ∃ (a : Addr) (d : PyData), xs = [.ref a] ∧ Dp K H (.ref a) d ∧ sm d = true ∧ sz d ≤ 1000000 ∧ d.depth ≤ 50 ∧ Q (.str d.shown) H
section
variable {X : Cx}
/-- // by any number but 0 below 2 ^ 9000 -/
def CDv (_ j : Int) : Prop := j ≠ 0 ∧ j.natAbs < 2 ^ 9000
theorem op_dv : OpR X (binaryOp .FloorDiv) (rI CDv fun i j => .int (i.fdiv j)) := opI fun _ _ _ _ _ _ _ hc q => floordiv_int hc.1 q (.inl (PyProof.noPylong_of_log2 (PySem.Flt.log2_lt_of (by decide) hc.2)))
end
/-! ### bounds by powers of two -/
def Bd (n : Nat) (x : Int) : Prop := x.natAbs < 2 ^ n
theorem Bd.mono {m n : Nat} {x : Int} (h : Bd m x) (k : m ≤ n) : Bd n x := Nat.lt_of_lt_of_le h (Nat.pow_le_pow_right (by decide) k)
theorem Bd.mul {m n : Nat} {x y : Int} (h : Bd m x) (k : Bd n y) : Bd (m + n) (x * y) := wide_lt h k
theorem Bd.neg {n : Nat} {x : Int} (h : Bd n x) : Bd n (-x) := by unfold Bd; rw [Int.natAbs_neg]; exact h
theorem Bd.add {n : Nat} {x y : Int} (h : Bd n x) (k : Bd n y) : Bd (n + 1) (x + y) := by
  unfold Bd at *
  have e : 2 ^ (n + 1) = 2 ^ n + 2 ^ n := by rw [Nat.pow_succ]; omega
  have := Int.natAbs_add_le x y
  omega
theorem Bd.sub {n : Nat} {x y : Int} (h : Bd n x) (k : Bd n y) : Bd (n + 1) (x - y) := by
  have q := h.add k.neg
  rwa [← Int.sub_eq_add_neg] at q
theorem Bd.log {n : Nat} {x : Int} (h : Bd n x) (h0 : 0 < n := by decide) : x.natAbs.log2 < n := PySem.Flt.log2_lt_of h0 h
theorem Bd.le {n : Nat} {x y : Int} (h : Bd n y) (k : x.natAbs ≤ y.natAbs) : Bd n x := Nat.lt_of_le_of_lt k h
theorem Bd.lit {n : Nat} {x : Int} (h : decide (x.natAbs < 2 ^ n) = true) : Bd n x := by unfold Bd; exact of_decide_eq_true h
theorem Bd.cmul {m n : Nat} {x y : Int} (h : Bd m x) (k : Bd n y) (h0 : 0 < m := by decide) (h1 : 0 < n := by decide) (hs : m + n ≤ 1000000 := by decide) : CMulW x y := wide_mul h k h0 h1 hs
end Ob
namespace Ob
open PySem PySem.Spec PyProof.Rows L2
/-! ### readings, one step each -/
def rLen (K : PySem.W.Frag) : List V → Hp → VK → Prop := fun xs H Q => ∃ p ys, xs = [.ref p] ∧ (SqL K H p ys ∨ SqT K H p ys) ∧ Q (.int ys.length) H
section
variable {K : PySem.W.Frag} {σ : L2.St} {H : Hp} {D : Ends} {te ta tb : TE} {tt uu : TT} {tr : TA} {tl : TA} {Q : VK} {R : Bool → Hp → Prop} {T : List V → Hp → Prop} {v : V} {s1 s2 : TS}
theorem rd_var {i : Nat} (h : σ[i]? = some (some v)) (q : Q v H) : tVar i σ H Q := ⟨v, h, q⟩
theorem rd_c (q : Q v H) : tC v σ H Q := q
theorem rd_nil (q : T [] H) : tNil σ H T := q
theorem rd_cons (q : ta σ H fun x H1 => tl σ H1 fun xs H2 => T (x :: xs) H2) : tCons ta tl σ H T := q
theorem rd_op {r : R2} (q : ta σ H fun x H1 => tb σ H1 fun y H2 => r x y H2 Q) : tOp r ta tb σ H Q := q
theorem rd_un {r : V → Hp → VK → Prop} (q : ta σ H fun x H1 => r x H1 Q) : tUn r ta σ H Q := q
theorem rd_I0 {g : Int → Int → V} {i j : Int} (q : Q (g i j) H) : rI0 g (.int i) (.int j) H Q := ⟨i, j, rfl, rfl, q⟩
theorem rd_I {C : Int → Int → Prop} {g : Int → Int → V} {i j : Int} (c : C i j) (q : Q (g i j) H) : rI C g (.int i) (.int j) H Q := ⟨i, j, rfl, rfl, c, q⟩
theorem rd_U {g : Int → V} {i : Int} (q : Q (g i) H) : rU g (.int i) H Q := ⟨i, rfl, q⟩
theorem rd_eqI {i j : Int} (q : Q (.bl (decide (i = j))) H) : rEq (.int i) (.int j) H Q := ⟨rfl, by
  have e : decide (V.int i = V.int j) = decide (i = j) := by
    by_cases h : i = j
    · rw [decide_eq_true h, decide_eq_true (by rw [h])]
    · rw [decide_eq_false h, decide_eq_false fun z => h (V.int.inj z)]
  rw [e]
  exact q⟩
theorem rd_neI {i j : Int} (q : Q (.bl (!decide (i = j))) H) : rNe (.int i) (.int j) H Q := ⟨rfl, by
  have e : decide (V.int i = V.int j) = decide (i = j) := by
    by_cases h : i = j
    · rw [decide_eq_true h, decide_eq_true (by rw [h])]
    · rw [decide_eq_false h, decide_eq_false fun z => h (V.int.inj z)]
  rw [e]
  exact q⟩
theorem rd_same {x : V} (h : scal x x = true) (q : Q (.bl true) H) : rEq x x H Q := ⟨h, by rw [decide_eq_true rfl]; exact q⟩
theorem rd_nsame {x : V} (h : scal x x = true) (q : Q (.bl false) H) : rNe x x H Q := ⟨h, by rw [decide_eq_true rfl]; exact q⟩
theorem rd_test (q : te σ H fun x H' => ∃ k, x = .bl k ∧ R k H') : tTest te σ H R := q
theorem rd_B (q : te σ H fun x H' => ∃ k, x = .bl k ∧ R k H') : tB te σ H R := q
theorem rd_bl {c : Bool} {R : Bool → Prop} (q : R c) : ∃ k, V.bl c = V.bl k ∧ R k := ⟨c, rfl, q⟩
theorem rd_not (q : tt σ H fun c H1 => R (!c) H1) : tNot tt σ H R := q
theorem rd_and (q : tt σ H fun c H1 => if c = true then uu σ H1 R else R false H1) : tAnd tt uu σ H R := q
theorem rd_or (q : tt σ H fun c H1 => if c = true then R true H1 else uu σ H1 R) : tOr tt uu σ H R := q
theorem rd_andV (q : ta σ H fun x H1 => ∃ c, x = .bl c ∧ if c = true then tb σ H1 Q else Q (.bl false) H1) : tAndV ta tb σ H Q := q
theorem rd_orV (q : ta σ H fun x H1 => ∃ c, x = .bl c ∧ if c = true then Q (.bl true) H1 else tb σ H1 Q) : tOrV ta tb σ H Q := q
theorem rd_notV (q : ta σ H fun x H1 => ∃ c, x = .bl c ∧ Q (.bl (!c)) H1) : tNotV ta σ H Q := q
theorem rd_ifE (q : tt σ H fun c H1 => if c = true then ta σ H1 Q else tb σ H1 Q) : tIf tt ta tb σ H Q := q
theorem rd_tup (q : tl σ H fun xs H1 => xs.length ≤ sizeLine ∧ ∀ p, H1 p = none → Q (.ref p) (upd H1 p (.tup xs))) : tTup tl σ H Q := q
theorem rd_lst (q : tl σ H fun xs H1 => xs.length ≤ sizeLine ∧ ∀ p, H1 p = none → Q (.ref p) (upd H1 p (.lst xs))) : tLst tl σ H Q := q
theorem rd_new {xs : List V} {A : Prop} (h : Nat.ble xs.length 1000 = true) (q : A) : xs.length ≤ sizeLine ∧ A := ⟨Nat.le_of_lt (small1000 (Nat.le_of_ble_eq_true h)), q⟩
def kT (Q : VK) (xs : List V) (H : Hp) : Prop := xs.length ≤ sizeLine ∧ ∀ p, H p = none → Q (.ref p) (upd H p (.tup xs))
def kL (Q : VK) (xs : List V) (H : Hp) : Prop := xs.length ≤ sizeLine ∧ ∀ p, H p = none → Q (.ref p) (upd H p (.lst xs))
theorem rd_tupK (q : tl σ H fun xs H1 => kT Q xs H1) : tTup tl σ H Q := q
theorem rd_lstK (q : tl σ H fun xs H1 => kL Q xs H1) : tLst tl σ H Q := q
theorem rd_kT {xs : List V} (h : Nat.ble xs.length 1000 = true) (q : ∀ p J, H p = none → Same H J → J p = some (.tup xs) → Q (.ref p) J) : kT Q xs H :=
  ⟨Nat.le_of_lt (small1000 (Nat.le_of_ble_eq_true h)), fun p np => q p _ np (fun a u e => by rw [upd_ne (ne_of_none e np)]; exact e) upd_same⟩
theorem rd_kL {xs : List V} (h : Nat.ble xs.length 1000 = true) (q : ∀ p J, H p = none → Same H J → J p = some (.lst xs) → Q (.ref p) J) : kL Q xs H :=
  ⟨Nat.le_of_lt (small1000 (Nat.le_of_ble_eq_true h)), fun p np => q p _ np (fun a u e => by rw [upd_ne (ne_of_none e np)]; exact e) upd_same⟩
theorem rd_call {sp : Sp} {dvs : List V} {E : XK} (q : tl σ H fun vs H1 => sp (vs ++ dvs) H1 Q E) : tCall sp dvs E tl σ H Q := q
theorem rd_CB {r : List V → Hp → VK → Prop} (q : tl σ H fun vs H1 => r vs H1 Q) : tCB r tl σ H Q := q
theorem rd_one {i : Int} {R : Int → Prop} (q : R i) : ∃ j, [V.int i] = [V.int j] ∧ R j := ⟨i, rfl, q⟩
theorem rd_two {i j : Int} {R : Int → Int → Prop} (q : R i j) : ∃ k l, [V.int i, V.int j] = [V.int k, V.int l] ∧ R k l := ⟨i, j, rfl, q⟩
theorem rd_int {i : Int} {R : Int → Prop} {S : Bool → Prop} (q : R i) : (∃ j, [V.int i] = [V.int j] ∧ R j) ∨ ∃ k, [V.int i] = [V.bl k] ∧ S k := .inl ⟨i, rfl, q⟩
theorem rd_intB {b : Bool} {R : Int → Prop} {S : Bool → Prop} (q : S b) : (∃ j, [V.bl b] = [V.int j] ∧ R j) ∨ ∃ k, [V.bl b] = [V.bl k] ∧ S k := .inr ⟨b, rfl, q⟩
theorem rd_sxL {p : Addr} {xs : List V} {i : Int} (h : SqL K H p xs) (ha : atI xs i = some v) (q : Q v H) : rIx K (.ref p) (.int i) H Q := .inl ⟨p, xs, i, v, rfl, rfl, h, ha, q⟩
theorem rd_sxT {p : Addr} {xs : List V} {i : Int} (h : SqT K H p xs) (ha : atI xs i = some v) (q : Q v H) : rIx K (.ref p) (.int i) H Q := .inr (.inl ⟨p, xs, i, v, rfl, rfl, h, ha, q⟩)
theorem fmod_rng {x n : Int} (h : 0 < n) : 0 ≤ x.fmod n ∧ x.fmod n < n := by
  rw [Int.fmod_eq_emod_of_nonneg x (by omega)]
  exact ⟨Int.emod_nonneg x (by omega), Int.emod_lt_of_pos x h⟩
/-- a rest of which only the bounds matter -/
theorem rd_md {i j : Int} (c : 0 < j) (q : ∀ r, 0 ≤ r → r < j → Q (.int r) H) : rI (fun _ j => j ≠ 0) (fun i j => V.int (i.fmod j)) (.int i) (.int j) H Q :=
  ⟨i, j, rfl, rfl, by omega, q _ (fmod_rng c).1 (fmod_rng c).2⟩
def Lp (J : It) (g : TG) (tb : TS) (D : Ends) (σ : L2.St) (H : Hp) : Prop := ∃ W : Nat → Nat → L2.St → Hp → Prop, (∃ m, W 0 m σ H) ∧ ∀ i m σ H, W i m σ H →
  (J.stop i H ∧ D.nx σ H) ∨ (J.go i H ∧ ∃ N : L2.St → Hp → Prop, (∀ σ' H', N σ' H' → ∃ m', m' < m ∧ W (i + 1) m' σ' H') ∧ ∀ x H', J.yld i H x H' → g x σ H' fun σ2 H2 => tb { D with nx := N, ct := N, bk := D.nx } σ2 H2)
theorem rd_for1 {ta : TA} {g : TG} {tb : TS} (q : ta σ H fun vs H1 => ∃ j : Int, vs = [.int j] ∧ -(2 ^ 62) ≤ j ∧ j < 2 ^ 62 ∧ Lp (Itr 0 j.toNat) g tb D σ H1) : tFor (iRng1 ta) g tb D σ H := q
theorem rd_for1b {j : Int} {R : Int → Prop} (h : -(2 ^ 62) ≤ j ∧ j < 2 ^ 62) (q : R j) : ∃ k : Int, [V.int j] = [V.int k] ∧ -(2 ^ 62) ≤ k ∧ k < 2 ^ 62 ∧ R k := ⟨j, rfl, h.1, h.2, q⟩
theorem lp_rng {lo : Int} {n : Nat} {g : TG} {tb : TS} (Pv : Nat → L2.St → Hp → Prop) (h0 : Pv 0 σ H) (hs : ∀ i σ H, i < n → Pv i σ H → g (.int (lo + i)) σ H fun σ2 H2 => tb { D with nx := Pv (i + 1), ct := Pv (i + 1), bk := D.nx } σ2 H2)
    (hd : ∀ σ H, Pv n σ H → D.nx σ H) : Lp (Itr lo n) g tb D σ H := for_range Pv h0 hs hd
theorem rd_len {a : Addr} {ys : List V} (h : SqL K H a ys) (q : Q (.int ys.length) H) : rLen K [.ref a] H Q := ⟨a, ys, rfl, .inl h, q⟩
theorem rd_lenTu {a : Addr} {ys : List V} (h : SqT K H a ys) (q : Q (.int ys.length) H) : rLen K [.ref a] H Q := ⟨a, ys, rfl, .inr h, q⟩
theorem rd_repr {a : Addr} {d : PyData} (h : Dp K H (.ref a) d) (h1 : sm d = true) (h2 : sz d ≤ 1000000) (h3 : d.depth ≤ 50) (q : Q (.str d.shown) H) : rRepr K [.ref a] H Q := ⟨a, d, rfl, h, h1, h2, h3, q⟩
theorem rd_gtup {a : Addr} {xs : List V} {n : Nat} {t : TGs} {F : L2.St → Hp → Prop} (h : SqT K H a xs) (hn : xs.length = n) (q : t xs σ H F) : gTup K n t (.ref a) σ H F := ⟨a, xs, rfl, h, hn, q⟩
theorem rd_gcons {t : TG} {u : TGs} {w : V} {r : List V} {F : L2.St → Hp → Prop} (q : t w σ H fun σ' H' => u r σ' H' F) : gCons t u (w :: r) σ H F := ⟨w, r, rfl, q⟩
theorem rd_gnil {F : L2.St → Hp → Prop} (q : F σ H) : gNil [] σ H F := ⟨rfl, q⟩
theorem rd_isi {x : V} {n t : String} {b : Bool} (ty : TyX K H x (.type t)) (h : kitB t n = some b) (q : Q (.bl b) H) : rIsi K [x, .ty n] H Q := ⟨x, .ty n, _, _, b, rfl, .ty n, ty, kit_ty h, q⟩
theorem rd_isiI {i : Int} {n : String} {b : Bool} (h : kitB "int" n = some b) (q : Q (.bl b) H) : rIsi K [.int i, .ty n] H Q := rd_isi (.base (.int i)) h q
theorem rd_isiB {i : Bool} {n : String} {b : Bool} (h : kitB "bool" n = some b) (q : Q (.bl b) H) : rIsi K [.bl i, .ty n] H Q := rd_isi (.base (.bl i)) h q
theorem rd_isiN {n : String} {b : Bool} (h : kitB "NoneType" n = some b) (q : Q (.bl b) H) : rIsi K [.non, .ty n] H Q := rd_isi (.base .non) h q
theorem rd_isiS {i : Str} {n : String} {b : Bool} (h : kitB "str" n = some b) (q : Q (.bl b) H) : rIsi K [.str i, .ty n] H Q := rd_isi (.base (.str i)) h q
theorem rd_isiT {a : Addr} {xs : List V} {n : String} {b : Bool} (e : H a = some (.tup xs)) (h : kitB "tuple" n = some b) (q : Q (.bl b) H) : rIsi K [.ref a, .ty n] H Q := rd_isi (.base (.tup e)) h q
theorem rd_isiL {a : Addr} {xs : List V} {n : String} {b : Bool} (e : H a = some (.lst xs)) (h : kitB "list" n = some b) (q : Q (.bl b) H) : rIsi K [.ref a, .ty n] H Q := rd_isi (.base (.lst e)) h q
theorem rd_chain {r r' : R2} {tc : TE} (q : ta σ H fun x H1 => tb σ H1 fun y H2 => r x y H2 fun z H3 => ∃ k, z = .bl k ∧ if k = true then tc σ H3 fun w H4 => r' y w H4 Q else Q (.bl false) H3) : tChain r r' ta tb tc σ H Q := q
theorem rd_eqDs {x y : V} {d : PyData} (h : Dp K H x d) (k : Dp K H y d) (s : SeqAt.shaped d = true) (q : Q (.bl true) H) : rEqD K x y H Q := ⟨d, d, h, k, s, s, by rw [SeqAt.eqv_refl d (SeqAt.canLay_of_shaped s)]; exact q⟩
theorem rd_neDs {x y : V} {d : PyData} (h : Dp K H x d) (k : Dp K H y d) (s : SeqAt.shaped d = true) (q : Q (.bl false) H) : rNeD K x y H Q := ⟨d, d, h, k, s, s, by rw [SeqAt.eqv_refl d (SeqAt.canLay_of_shaped s)]; exact q⟩
theorem rd_cat {l b : Addr} {xs zs : List V} (h : H l = some (.lst xs)) (k : H b = some (.lst zs)) (hz : xs.length + zs.length ≤ 1000) (q : ∀ p, H p = none → Q (.ref p) (upd H p (.lst (xs ++ zs)))) : rCat (.ref l) (.ref b) H Q :=
  ⟨l, b, xs, zs, rfl, rfl, h, k, Nat.le_of_lt (small1000 hz), q⟩
theorem rd_rep {l : Addr} {k : Int} {xs ys : List V} (h : H l = some (.lst xs)) (h0 : 0 ≤ k ∧ k ≤ 1000) (hz : xs.length * k.toNat ≤ 1000) (e : (List.replicate k.toNat xs).flatten = ys) (q : ∀ p, H p = none → Q (.ref p) (upd H p (.lst ys))) : rRep (.ref l) (.int k) H Q := by
  subst e
  exact ⟨l, k, xs, rfl, rfl, h, by omega, by omega, Nat.le_of_lt (small1000 hz), q⟩
theorem rd_BM {T : String} {r : V → List V → Hp → VK → Prop} (q : te σ H fun x H1 => tyV K T x H1 ∧ tl σ H1 fun vs H2 => r x vs H2 Q) : tBM K T r te tl σ H Q := q
theorem rd_tyl {l : Addr} {xs : List V} {A : Prop} (h : H l = some (.lst xs)) (q : A) : tyV K "list" (.ref l) H ∧ A := ⟨.inl ⟨rfl, _, SqL.of h⟩, q⟩
theorem rd_app {l : Addr} {y : V} {xs : List V} (h : H l = some (.lst xs)) (hz : xs.length ≤ 1000) (q : Q .non (upd H l (.lst (xs ++ [y])))) : rAppend (.ref l) [y] H Q := ⟨l, xs, y, rfl, rfl, h, small1000 hz, q⟩
/-- what a comprehension's loop is to reach -/
def Lc (J : It) (g : TG) (tt : TT) (te : TE) (vs : List Nat) (σ : L2.St) (Qd : Hp → Prop) (H1 : Hp) (D : Addr) : Prop := ∃ W : Nat → Nat → Hp → Prop, (∃ m, W 0 m (upd H1 D (.lst []))) ∧ ∀ i m H, W i m H →
  (J.stop i H ∧ Qd H) ∨ (J.go i H ∧ ∃ Nx : Hp → Prop, (∀ H', Nx H' → ∃ m', m' < m ∧ W (i + 1) m' H') ∧ ∀ x H', J.yld i H x H' → g x (wipe σ vs) H' fun σ2 H2 => wipe σ2 vs = wipe σ vs ∧ tt σ2 H2 fun b H3 =>
    if b = true then te σ2 H3 fun y H4 => ∃ acc, H4 D = some (.lst acc) ∧ acc.length < sizeLine ∧ Nx (upd H4 D (.lst (acc ++ [y]))) else Nx H3)
theorem rd_lc {wi : TI} {g : TG} {vs : List Nat} (q : wi σ H fun J H1 => ∀ D, H1 D = none → Lc J g tt te vs σ (fun H' => Q (.ref D) H') H1 D) : tLc wi g tt te vs σ H Q := q
theorem rd_iTup {R : It → Hp → Prop} (q : te σ H fun x H1 => ∃ a, x = .ref a ∧ (∃ xs, SqT K H1 a xs) ∧ R (Itt K a) H1) : iTup K te σ H R := q
theorem rd_iTupA {a : Addr} {xs : List V} {R : Addr → Prop} (h : SqT K H a xs) (q : R a) : ∃ p, V.ref a = .ref p ∧ (∃ xs, SqT K H p xs) ∧ R p := ⟨a, rfl, ⟨xs, h⟩, q⟩
theorem rd_iLst {R : It → Hp → Prop} (q : te σ H fun x H1 => ∃ a, x = .ref a ∧ (∃ xs, SqL K H1 a xs) ∧ R (Itl K a) H1) : iList K te σ H R := q
theorem rd_iLstA {a : Addr} {xs : List V} {R : Addr → Prop} (h : SqL K H a xs) (q : R a) : ∃ p, V.ref a = .ref p ∧ (∃ xs, SqL K H p xs) ∧ R p := ⟨a, rfl, ⟨xs, h⟩, q⟩
theorem rd_iR1 {ta : TA} {R : It → Hp → Prop} (q : ta σ H fun vs H1 => ∃ j : Int, vs = [.int j] ∧ -(2 ^ 62) ≤ j ∧ j < 2 ^ 62 ∧ R (Itr 0 j.toNat) H1) : iRng1 ta σ H R := q
theorem upd_upd {D : Addr} {x y : HO} : upd (upd H D x) D y = upd H D y := by
  funext b
  unfold upd
  split <;> rfl
/-- [f(x) for x in t], t a tuple, f's heap as it was -/
theorem lc_mapT {a D : Addr} {xs : List V} (f : V → V) {i0 : Nat} {Qd : Hp → Prop} (hT : H a = some (.tup xs)) (hl : xs.length ≤ 1000) (hD : H D = none)
    (he : ∀ x, x ∈ xs → ∀ (l : List V) (R : VK), R (f x) (upd H D (.lst l)) → te ((σ.set i0 none).set i0 (some x)) (upd H D (.lst l)) R) (hd : Qd (upd H D (.lst (xs.map f)))) : Lc (Itt K a) (gName i0) tYes te [i0] σ Qd H D := by
  have ne : a ≠ D := ne_of_none hT hD
  refine lc_tup (xs := xs) (fun i J => i ≤ xs.length ∧ J = upd H D (.lst ((xs.take i).map f))) ⟨Nat.zero_le _, by rw [List.take_zero]; rfl⟩ (fun i J _ w => by
    rw [w.2]
    exact SqT.of (by rw [upd_ne ne]; exact hT)) (fun i x J hx w => ?_) fun J w => ?_
  · obtain ⟨hi, rfl⟩ := w
    have lt : i < xs.length := (List.getElem?_eq_some_iff.mp hx).1
    refine ⟨?_, ?_⟩
    · show ((σ.set i0 none).set i0 (some x)).set i0 none = σ.set i0 none
      rw [List.set_set, List.set_set]
    · show te _ _ _
      refine he x (List.mem_of_getElem? hx) _ _ ⟨_, upd_same, ?_, ?_, ?_⟩
      · rw [List.length_map, List.length_take]
        exact small1000 (by omega)
      · omega
      · rw [upd_upd]
        have e : (xs.take (i + 1)).map f = (xs.take i).map f ++ [f x] := by rw [List.take_add_one, hx, List.map_append]; rfl
        rw [e]
  · rw [List.take_length] at w
    rw [w.2]
    exact hd
/-- [f for _ in range(n)] -/
theorem lc_mapR {D : Addr} {n : Nat} (f : Nat → V) {i0 : Nat} {Qd : Hp → Prop} (hl : n ≤ 1000) (hD : H D = none)
    (he : ∀ i, i < n → ∀ (l : List V) (R : VK), R (f i) (upd H D (.lst l)) → te ((σ.set i0 none).set i0 (some (.int (0 + (i : Int))))) (upd H D (.lst l)) R) (hd : Qd (upd H D (.lst ((List.range n).map f)))) : Lc (Itr 0 n) (gName i0) tYes te [i0] σ Qd H D := by
  refine lc_range (fun i J => J = upd H D (.lst ((List.range i).map f))) rfl (fun i J hi w => ?_) fun J w => ?_
  · subst w
    refine ⟨?_, ?_⟩
    · show ((σ.set i0 none).set i0 _).set i0 none = σ.set i0 none
      rw [List.set_set, List.set_set]
    · show te _ _ _
      refine he i hi _ _ ⟨_, upd_same, ?_, ?_⟩
      · rw [List.length_map, List.length_range]
        exact small1000 (by omega)
      · rw [upd_upd, List.range_succ, List.map_append]
        rfl
  · subst w
    exact hd
theorem rd_all {a : Addr} {bs : List Bool} (h : SqL K H a (bs.map V.bl)) (q : Q (.bl (bs.all id)) H) : rAll K [.ref a] H Q := ⟨a, bs, rfl, h, q⟩
theorem rd_any {a : Addr} {bs : List Bool} (h : SqL K H a (bs.map V.bl)) (q : Q (.bl (bs.any id)) H) : rAny K [.ref a] H Q := ⟨a, bs, rfl, h, q⟩
theorem rd_gcd {i j : Int} (q : Q (.int ((Nat.gcd i.natAbs j.natAbs : Nat) : Int)) H) : rGcd [.int i, .int j] H Q := ⟨i, j, rfl, q⟩
theorem rd_seq (q : s1 { D with nx := s2 D } σ H) : tSeq s1 s2 D σ H := q
theorem rd_next (q : D.nx σ H) : tNext D σ H := q
theorem rd_ret (q : te σ H D.rt) : tRet te D σ H := q
theorem rd_drop (q : te σ H fun _ H1 => D.nx σ H1) : tDrop te D σ H := q
theorem rd_asg {g : TG} (q : te σ H fun x H1 => g x σ H1 D.nx) : tAsg te g D σ H := q
theorem rd_name {i : Nat} {F : L2.St → Hp → Prop} {τ : L2.St} (e : σ.set i (some v) = τ) (q : F τ H) : gName i v σ H F := by subst e; exact q
theorem rd_sub {to ti : TE} {t : TSet} {F : L2.St → Hp → Prop} (q : to σ H fun o H1 => ti σ H1 fun i H2 => t o i v H2 fun H3 => F σ H3) : gSub to ti t v σ H F := q
theorem rd_setL {p : Addr} {xs ys : List V} {k : Int} {j : Nat} {F : Hp → Prop} (h : H p = some (.lst xs)) (hj : ixN xs.length k = some j) (e : xs.set j v = ys) (q : F (upd H p (.lst ys))) : rSetL (.ref p) (.int k) v H F := by
  subst e
  exact ⟨p, xs, k, j, rfl, rfl, h, hj, q⟩
theorem rd_ifS (q : tt σ H fun b H1 => if b = true then s1 D σ H1 else s2 D σ H1) : tIfS tt s1 s2 D σ H := q
theorem rd_par {i j : Nat} {x y : V} {τ : L2.St} (e : (σ.set i (some x)).set j (some y) = τ) (q : D.nx τ H) : ∃ v w, [x, y] = [v, w] ∧ D.nx ((σ.set i (some v)).set j (some w)) H := by
  subst e
  exact ⟨x, y, rfl, q⟩
theorem rd_tpar {i j : Nat} (q : tl σ H fun vs H1 => ∃ v w, vs = [v, w] ∧ D.nx ((σ.set i (some v)).set j (some w)) H1) : tPar i j tl D σ H := q
theorem rd_if {P : Prop} [Decidable P] {A B : Prop} (h1 : P → A) (h2 : ¬ P → B) : if decide P = true then A else B := ite2 (fun c => h1 (of_decide_eq_true c)) fun c => h2 fun z => c (decide_eq_true z)
theorem rd_ifn {P : Prop} [Decidable P] {A B : Prop} (h1 : ¬ P → A) (h2 : P → B) : if (!decide P) = true then A else B :=
  ite2 (fun c => h1 (by simpa using c)) fun c => h2 (by simpa using c)
theorem rd_mulok {i j : Int} (h : (-(2 ^ 64) < i ∧ i < 2 ^ 64) ∨ (-(2 ^ 64) < j ∧ j < 2 ^ 64)) : IntMulOk i j := CMul.ok h
theorem rd_mulB {m n : Nat} {i j : Int} (h : Bd m i) (k : Bd n j) (h0 : 0 < m := by decide) (h1 : 0 < n := by decide) (hs : m + n ≤ 1000000 := by decide) : IntMulOk i j := (h.cmul k h0 h1 hs).ok
theorem rd_dvI {j : Int} (i : Int) (h : j ≠ 0) (k : j.natAbs < 2 ^ 400) : CDv i j := ⟨h, Nat.lt_of_lt_of_le k (Nat.pow_le_pow_right (by decide) (by decide))⟩
theorem rd_dvB {n : Nat} {j : Int} (i : Int) (h : j ≠ 0) (k : Bd n j) (hn : n ≤ 9000 := by decide) : CDv i j := ⟨h, k.mono hn⟩
end
section
variable {X : Cx}
theorem op_ml : OpR X (binaryOp .Mult) (rI IntMulOk fun i j => .int (i * j)) := opI fun _ _ _ _ _ _ _ hc q => mul_int q hc
end
structure Cal (P : Program) (w : World) (K : PySem.W.Frag) (mg : Str → Option Value) (base : Heap) (x : Str) (k : Nat) (f : Addr) (fd : FuncData) (ps : List Str) (sp : Sp) : Prop where
  g : FnG P w K mg base CX0 k f fd ps sp
  b : Binds K fd ps []
  kp : PySem.W.keepIn K (.ref f) = true
  m : mg x = some (.ref f)
theorem pe_c {X : Cx} {k : Nat} {f : Addr} {fd : FuncData} {ps : List Str} {sp : Sp} {x : Str} {e : Expr} {es : List Expr} {t : TA} {p pos : Pos} (C : Cal X.prog X.w X.K X.mg X.base x k f fd ps sp) (hg : X.A.guards = some []) (hr : Room k X.A) (gl : Gl X x)
    (ha : PA X (e :: es) t) (hdb : (x == ("__debug__" : Str)) = false := by decide) (he : starEach (e :: es) X.env = (false, eval e X.env) :: starEach es X.env := by rfl) (hpl : (backTo pos (starEach es X.env)).any (·.1) = false := by rfl) :
    PE X (.Call (.Name x p) (e :: es) [] pos) (tCall sp [] E0 t) := pe_g C.g hg hr gl C.m C.kp C.b .nil pass0 ha hdb he hpl
theorem room_u {k : Nat} {A : Around} (h : Room k A) : A.units + 64 < cLine := h.units
section
variable {X : Cx} {K : PySem.W.Frag}
theorem ixK (h : X.K = K) : IxR X (rIx K) := h ▸ ix_seq
theorem lenK (h : X.K = K) : CallR X (.builtin "len") (rLen K) := h ▸ call_len_seq
theorem isiK (h : X.K = K) : CallR X (.builtin "isinstance") (rIsi K) := h ▸ call_isi
theorem allK (h : X.K = K) (hc : X.calm = true) : CallR X (.builtin "all") (rAll K) := h ▸ cr_all hc
theorem anyK (h : X.K = K) (hc : X.calm = true) : CallR X (.builtin "any") (rAny K) := h ▸ cr_any hc
theorem sumK (h : X.K = K) (hc : X.calm = true) : CallR X (.builtin "sum") (rSum K) := h ▸ cr_sum hc
theorem eqK (h : X.K = K) (hu : X.A.units + 64 < cLine) : OpR X (compareOp .Eq) (rEqD K) := h ▸ op_eqD hu
theorem neK (h : X.K = K) (hu : X.A.units + 64 < cLine) : OpR X (compareOp .NotEq) (rNeD K) := h ▸ op_neD hu
theorem inK (h : X.K = K) : OpR X (compareOp .In) (rIn K false) := h ▸ op_in_seq
theorem niK (h : X.K = K) : OpR X (compareOp .NotIn) (rIn K true) := h ▸ op_notIn_seq
theorem slK (h : X.K = K) : SlR X (rSlL K) := h ▸ sl_list
theorem piL (h : X.K = K) {tg l : Expr} {tl : TE} (hl : PE X l tl) : PI X tg l (iList K tl) := h ▸ pi_list hl
theorem piT (h : X.K = K) {tg l : Expr} {tl : TE} (hl : PE X l tl) : PI X tg l (iTup K tl) := h ▸ pi_tup hl
end
/-! ### what stays -/
/-- all but what stands at b stays as it is -/
def Kp (b : Addr) (H J : Hp) : Prop := ∀ a o, a ≠ b → H a = some o → J a = some o
def Bag (b : Addr) (H : Hp) : Prop := ∃ x y : Int, H b = some (.lst [.int x, .int y])
def Scr (K : PySem.W.Frag) (H : Hp) (a : Addr) (xs : List V) : Prop := (∃ o, H a = some (.frz o (.lst xs))) ∨ SqL K (fun _ => none) a xs
section
variable {K : PySem.W.Frag} {H J M : Hp} {a b p : Addr} {xs ys : List V} {o : HO}
theorem Kp.refl : Kp b H H := fun _ _ _ e => e
theorem Kp.trans (h : Kp b H J) (k : Kp b J M) : Kp b H M := fun a o n e => k a o n (h a o n e)
theorem Kp.new (h : H p = none) : Kp b H (upd H p o) := fun a u _ e => by rw [upd_ne (ne_of_none e h)]; exact e
theorem Kp.at : Kp b H (upd H b o) := fun a u n e => by rw [upd_ne n]; exact e
theorem Kp.tup (h : Kp b H J) (g : Bag b H) (e : H a = some (.tup xs)) : J a = some (.tup xs) := h a _ (fun z => by
  obtain ⟨x, y, q⟩ := g
  subst z
  cases e.symm.trans q) e
theorem Kp.lst (h : Kp b H J) (n : a ≠ b) (e : H a = some (.lst xs)) : J a = some (.lst xs) := h a _ n e
theorem Bag.new (g : Bag b H) (h : H p = none) : Bag b (upd H p o) := by
  obtain ⟨x, y, q⟩ := g
  exact ⟨x, y, by rw [upd_ne (ne_of_none q h)]; exact q⟩
theorem Bag.ne (g : Bag b H) (h : H p = none) : p ≠ b := fun z => by
  obtain ⟨x, y, q⟩ := g
  subst z
  cases h.symm.trans q
theorem Bag.off (h : H p = none) (g : Bag b H) : p ≠ b := g.ne h
theorem Kp.free (k : Kp b H J) (g : Bag b J) (h : J p = none) : H p = none := by
  cases e : H p with
  | none => rfl
  | some o => cases h.symm.trans (k p o (g.ne h) e)
theorem set_tup (h : H p = some (.lst ys)) (e : H a = some (.tup xs)) : upd H p o a = some (.tup xs) := by
  rw [upd_ne (fun z => by subst z; cases h.symm.trans e)]
  exact e
theorem Bag.put (n : p ≠ b) (g : Bag b H) : Bag b (upd H p o) := by
  obtain ⟨x, y, q⟩ := g
  exact ⟨x, y, by rw [upd_ne (fun z => n z.symm)]; exact q⟩
theorem new_any {u : HO} (h : H p = none) (e : H a = some u) : upd H p o a = some u := by rw [upd_ne (ne_of_none e h)]; exact e
theorem Scr.sq (h : Scr K H a xs) : SqL K H a xs := by
  rcases h with ⟨o, e⟩ | (e | e)
  · exact .inl (.inr ⟨o, e⟩)
  · rcases e with e | ⟨_, e⟩ <;> cases e
  · exact .inr e
theorem Scr.kp (h : Kp b H J) (g : Bag b H) (e : Scr K H a xs) : Scr K J a xs := by
  rcases e with ⟨o, e⟩ | e
  · refine .inl ⟨o, h a _ (fun z => ?_) e⟩
    obtain ⟨x, y, q⟩ := g
    subst z
    cases e.symm.trans q
  · exact .inr e
theorem Scr.new (h : H p = none) (e : Scr K H a xs) : Scr K (upd H p o) a xs := by
  rcases e with ⟨u, e⟩ | e
  · exact .inl ⟨u, new_any h e⟩
  · exact .inr e
theorem Scr.of (o : Only H) (h : SqL K H a xs) : Scr K H a xs := by
  rcases h with (e | e) | e
  · rcases o a with z | ⟨_, _, z⟩
    · cases e.symm.trans z
    · cases e.symm.trans z
  · exact .inl e
  · exact .inr (.inr e)
theorem same_any {u : HO} (h : Same H J) (e : H a = some u) : J a = some u := h a u e
theorem Bag.same (h : Same H J) (g : Bag b H) : Bag b J := by
  obtain ⟨x, y, q⟩ := g
  exact ⟨x, y, h _ _ q⟩
theorem Scr.same (h : Same H J) (e : Scr K H a xs) : Scr K J a xs := by
  rcases e with ⟨o, e⟩ | e
  · exact .inl ⟨o, h _ _ e⟩
  · exact .inr e
theorem rd_pick {K : PySem.W.Frag} {Q : VK} {r : Int} (h : H p = some (.lst xs)) (h0 : 0 ≤ r) (h1 : r < xs.length) (q : ∀ v, v ∈ xs → Q v H) : rIx K (.ref p) (.int r) H Q := by
  have l1 : r.toNat < xs.length := by omega
  have e : r = ((r.toNat : Nat) : Int) := by omega
  have z := atI_nat (xs := xs) (List.getElem?_eq_getElem l1)
  rw [← e] at z
  exact rd_sxL (SqL.of h) z (q _ (List.getElem_mem l1))
theorem same_new (h : H p = none) : Same H (upd H p o) := fun a u e => by rw [upd_ne (ne_of_none e h)]; exact e
/-- the list at l has been changed, all else is as it was -/
def Pu (l : Addr) (H J : Hp) : Prop := Kp l H J ∧ (∃ ys, H l = some (.lst ys)) ∧ ∃ zs, J l = some (.lst zs)
theorem Pu.tup {l : Addr} (k : Pu l H J) (e : H a = some (.tup xs)) : J a = some (.tup xs) := k.1 a _ (fun z => by
  obtain ⟨ys, q⟩ := k.2.1
  subst z
  cases e.symm.trans q) e
theorem Pu.lst {l : Addr} (k : Pu l H J) (n : a ≠ l) (e : H a = some (.lst xs)) : J a = some (.lst xs) := k.1 a _ n e
theorem Pu.bag {l : Addr} (k : Pu l H J) (n : l ≠ b) (g : Bag b H) : Bag b J := by
  obtain ⟨x, y, q⟩ := g
  exact ⟨x, y, k.1 b _ (fun z => n z.symm) q⟩
theorem Pu.scr {K : PySem.W.Frag} {l : Addr} (k : Pu l H J) (e : Scr K H a xs) : Scr K J a xs := by
  rcases e with ⟨o, e⟩ | e
  · refine .inl ⟨o, k.1 a _ (fun z => ?_) e⟩
    obtain ⟨ys, q⟩ := k.2.1
    subst z
    cases e.symm.trans q
  · exact .inr e
theorem rd_appK {Q : VK} {l : Addr} {y : V} (h : H l = some (.lst xs)) (hz : xs.length ≤ 1000) (q : ∀ J, Pu l H J → J l = some (.lst (xs ++ [y])) → Q .non J) : rAppend (.ref l) [y] H Q :=
  ⟨l, xs, y, rfl, rfl, h, small1000 hz, q _ ⟨Kp.at, ⟨_, h⟩, ⟨_, upd_same⟩⟩ upd_same⟩
theorem rd_catK {Q : VK} {l m : Addr} {zs : List V} (h : H l = some (.lst xs)) (k : H m = some (.lst zs)) (hz : xs.length + zs.length ≤ 1000) (q : ∀ p J, H p = none → Same H J → J p = some (.lst (xs ++ zs)) → Q (.ref p) J) : rCat (.ref l) (.ref m) H Q :=
  ⟨l, m, xs, zs, rfl, rfl, h, k, Nat.le_of_lt (small1000 hz), fun p np => q p _ np (same_new np) upd_same⟩
theorem rd_repK {Q : VK} {l : Addr} {k : Int} (h : H l = some (.lst xs)) (h0 : 0 ≤ k ∧ k ≤ 1000) (hz : xs.length * k.toNat ≤ 1000) (e : (List.replicate k.toNat xs).flatten = ys) (q : ∀ p J, H p = none → Same H J → J p = some (.lst ys) → Q (.ref p) J) : rRep (.ref l) (.int k) H Q := by
  subst e
  exact ⟨l, k, xs, rfl, rfl, h, by omega, by omega, Nat.le_of_lt (small1000 hz), fun p np => q p _ np (same_new np) upd_same⟩
theorem Kp.of (h : Same H J) : Kp b H J := fun a o _ e => h a o e
theorem pick_int {ns : List Int} {r : Int} (h0 : 0 ≤ r) (h : r < ns.length) : ∃ n, atI (ns.map V.int) r = some (.int n) ∧ n ∈ ns := by
  have h1 : r.toNat < ns.length := by omega
  have e : r = ((r.toNat : Nat) : Int) := by omega
  have q : atI (ns.map V.int) ((r.toNat : Nat) : Int) = some (.int ns[r.toNat]) := atI_nat (by rw [List.getElem?_map, List.getElem?_eq_getElem h1]; rfl)
  rw [← e] at q
  exact ⟨ns[r.toNat], q, List.getElem_mem h1⟩
def msr : L2.St → Nat
  | [_, some (.int y)] => y.natAbs
  | _ => 0
end
/-! ### greatest common divisors, lowest terms -/
theorem gcd_turn {x y : Int} : Int.gcd y (x.fmod y) = Int.gcd x y := by
  rw [Int.fmod_def, Int.gcd_sub_mul_left_right, Int.gcd_comm]
theorem fmod_abs {x y : Int} (h : y ≠ 0) : (x.fmod y).natAbs < y.natAbs := by
  rcases Int.lt_or_gt_of_ne h with h1 | h1
  · have := fmod_rng (x := -x) (n := -y) (by omega)
    rw [Int.neg_fmod_neg] at this
    omega
  · have := fmod_rng (x := x) h1
    omega
theorem natAbs_fdiv_le (u : Int) {v : Int} (h : 0 < v) : (u.fdiv v).natAbs ≤ u.natAbs := by
  rw [Int.fdiv_eq_ediv_of_nonneg u (by omega)]
  exact Int.natAbs_ediv_le_natAbs u v
theorem dvd_gcd1 {x y v : Int} (g : Int.gcd x y = 1) (h : y ∣ x * v) : y ∣ v := by
  have h1 : y.natAbs ∣ x.natAbs * v.natAbs := by rw [← Int.natAbs_mul]; exact Int.natAbs_dvd_natAbs.mpr h
  have g1 : Nat.Coprime y.natAbs x.natAbs := by rw [Nat.coprime_comm]; exact g
  exact Int.natAbs_dvd_natAbs.mp (g1.dvd_of_dvd_mul_left h1)
/-- a ratio in lowest terms is one alone -/
theorem low_one {x y u v : Int} (hy : 0 < y) (hv : 0 < v) (g : Int.gcd x y = 1) (k : Int.gcd u v = 1) (e : x * v = u * y) : x = u ∧ y = v := by
  have d1 : y ∣ v := dvd_gcd1 g ⟨u, by rw [e, Int.mul_comm]⟩
  have d2 : v ∣ y := dvd_gcd1 k ⟨x, by rw [← e, Int.mul_comm]⟩
  have e2 : y = v := Int.dvd_antisymm (by omega) (by omega) d1 d2
  subst e2
  exact ⟨Int.eq_of_mul_eq_mul_right (by omega) e, rfl⟩
def IsLow (t u x y : Int) : Prop := 0 < y ∧ Int.gcd x y = 1 ∧ x * u = t * y ∧ x.natAbs ≤ t.natAbs ∧ y.natAbs ≤ u.natAbs
theorem low_uniq {t u x y t' u' x' y' : Int} (h : IsLow t u x y) (k : IsLow t' u' x' y') (hu : u ≠ 0) (hv : u' ≠ 0) (e : t * u' = t' * u) : x = x' ∧ y = y' := by
  obtain ⟨y0, g, e1, _, _⟩ := h
  obtain ⟨v0, g', e2, _, _⟩ := k
  refine low_one y0 v0 g g' (Int.eq_of_mul_eq_mul_right (Int.mul_ne_zero hu hv) ?_)
  grind
theorem low_at {t u s : Int} (h : u ≠ 0) (es : s = if u < 0 then -((Int.gcd t u : Nat) : Int) else ((Int.gcd t u : Nat) : Int)) : IsLow t u (t.fdiv s) (u.fdiv s) ∧ s ≠ 0 ∧ s.natAbs ≤ u.natAbs := by
  have g0 : 0 < Int.gcd t u := Int.gcd_pos_of_ne_zero_right t h
  have gu : (Int.gcd t u) ≤ u.natAbs := Int.gcd_le_natAbs_right t (by omega)
  have ns : s.natAbs = Int.gcd t u := by rw [es]; split <;> omega
  have s0 : s ≠ 0 := by omega
  have du : s ∣ u := by rw [← Int.natAbs_dvd, ns]; exact Int.gcd_dvd_right t u
  have dt : s ∣ t := by rw [← Int.natAbs_dvd, ns]; exact Int.gcd_dvd_left t u
  have eu := Int.fdiv_mul_cancel du
  have et := Int.fdiv_mul_cancel dt
  generalize u.fdiv s = y at *
  generalize t.fdiv s = x at *
  refine ⟨⟨?_, ?_, ?_, ?_, ?_⟩, s0, by omega⟩
  · rcases Int.lt_or_gt_of_ne h with n | n
    · have sn : s < 0 := by rw [es, if_pos n]; omega
      by_cases z : 0 < y
      · exact z
      · have z : y ≤ 0 := by omega
        have := Int.mul_nonneg_of_nonpos_of_nonpos z (show s ≤ 0 by omega)
        omega
    · have sp : 0 < s := by rw [es, if_neg (by omega)]; omega
      by_cases z : 0 < y
      · exact z
      · have z : y ≤ 0 := by omega
        have := Int.mul_nonpos_of_nonpos_of_nonneg z (show 0 ≤ s by omega)
        omega
  · have q : Int.gcd t u = s.natAbs * Int.gcd x y := by rw [← et, ← eu, Int.mul_comm x s, Int.mul_comm y s, Int.gcd_mul_left]
    rw [ns] at q
    exact Nat.eq_of_mul_eq_mul_left g0 (by omega)
  · rw [← eu, ← et, Int.mul_assoc, Int.mul_comm s y]
  · rw [← et, Int.natAbs_mul]
    exact Nat.le_mul_of_pos_right _ (by omega)
  · rw [← eu, Int.natAbs_mul]
    exact Nat.le_mul_of_pos_right _ (by omega)
end Ob
namespace Ob
open PySem PySem.Spec PyProof.Rows L2
/-! ### a tuple of the module's own top -/
structure TupC (K : PySem.W.Frag) (mg : Str → Option Value) (x : Str) (z : Addr) (xs : List V) : Prop where
  m : mg x = some (.ref z)
  sq : ∀ H, SqT K H z xs
def TupObj (o : Obj) (xs : List V) : Prop := o.cls = .type "tuple" ∧ ∃ its n, o.data = .seq its n ∧ its.size ≤ sizeLine ∧ Vals xs its.toList
theorem TupC.of {K : PySem.W.Frag} {mg : Str → Option Value} {x : Str} {z : Addr} {xs : List V} {o : Obj} (h : mg x = some (.ref z)) (l : K.lookup z = some o) (t : TupObj o xs) : TupC K mg x z xs :=
  ⟨h, fun _ => let ⟨c, its, n, d, s, v⟩ := t; .inr ⟨o, its, n, l, c, d, s, v⟩⟩
section
variable {K : PySem.W.Frag} {H J : Hp} {a b p l : Addr} {xs ys zs : List V} {o : HO}
theorem sqt_same (s : Same H J) (h : SqT K H a xs) : SqT K J a xs := by
  rcases h with (e | ⟨u, e⟩) | e
  · exact .inl (.inl (s _ _ e))
  · exact .inl (.inr ⟨u, s _ _ e⟩)
  · exact .inr e
theorem sqt_new (n : H p = none) (h : SqT K H a xs) : SqT K (upd H p o) a xs := sqt_same (same_new n) h
theorem sqt_kp (k : Kp b H J) (hb : ∀ e : H b = some (.tup xs), False) (hf : ∀ u, H b = some (.frz u (.tup xs)) → False) (h : SqT K H a xs) : SqT K J a xs := by
  rcases h with (e | ⟨u, e⟩) | e
  · exact .inl (.inl (k _ _ (fun z => by subst z; exact hb e) e))
  · exact .inl (.inr ⟨u, k _ _ (fun z => by subst z; exact hf u e) e⟩)
  · exact .inr e
theorem sqt_lst (k : Kp l H J) (e : H l = some (.lst ys)) (h : SqT K H a xs) : SqT K J a xs := sqt_kp k (fun z => by cases e.symm.trans z) (fun u z => by cases e.symm.trans z) h
theorem sqt_bag (k : Kp b H J) (g : Bag b H) (h : SqT K H a xs) : SqT K J a xs := by
  obtain ⟨x, y, e⟩ := g
  exact sqt_lst k e h
theorem sqt_pu (k : Pu l H J) (h : SqT K H a xs) : SqT K J a xs := by
  obtain ⟨ys, e⟩ := k.2.1
  exact sqt_lst k.1 e h
theorem sqt_fresh (k : Kp l H J) (e : H l = none) (h : SqT K H a xs) : SqT K J a xs := sqt_kp k (fun z => by cases e.symm.trans z) (fun u z => by cases e.symm.trans z) h
theorem tyT (h : SqT K H a xs) : TyX K H (.ref a) (.type "tuple") := by
  rcases h with (e | ⟨u, e⟩) | ⟨o, its, n, l, c, _⟩
  · exact .base (.tup e)
  · exact .fTuple e
  · exact .kTuple l c
theorem rd_isiQ {Q : VK} {n : String} {b : Bool} (e : SqT K H a xs) (h : kitB "tuple" n = some b) (q : Q (.bl b) H) : rIsi K [.ref a, .ty n] H Q := rd_isi (tyT e) h q
variable {σ : L2.St} {te : TE} {D : Addr}
theorem rd_sl {Q : VK} {r : V → Option Int → Option Int → Hp → VK → Prop} {tl th : TO} (q : te σ H fun x H1 => tl σ H1 fun l H2 => th σ H2 fun u H3 => r x l u H3 Q) : tSl r te tl th σ H Q := q
theorem rd_part {R : Option Int → Hp → Prop} (q : te σ H fun x H1 => ∃ i, x = .int i ∧ R (some i) H1) : tPart te σ H R := q
theorem rd_partI {i : Int} {R : Int → Prop} (q : R i) : ∃ j, V.int i = .int j ∧ R j := ⟨i, rfl, q⟩
theorem rd_nopart {R : Option Int → Hp → Prop} (q : R none H) : tNoPart σ H R := q
theorem rd_slL {Q : VK} {lo hi : Option Int} (h : SqL K H a xs) (e : cutV xs lo hi = ys) (q : ∀ p J, H p = none → Same H J → J p = some (.lst ys) → Q (.ref p) J) : rSlL K (.ref a) lo hi H Q := by
  subst e
  exact ⟨a, xs, rfl, h, fun p np => q p _ np (same_new np) upd_same⟩
theorem rd_zip {ta : TA} {R : It → Hp → Prop} (q : ta σ H fun vs H1 => ∃ a b xs ys, vs = [.ref a, .ref b] ∧ SqL K H1 a xs ∧ SqL K H1 b ys ∧ R (Itz K a b) H1) : iZip K ta σ H R := q
theorem rd_zipA {R : Addr → Addr → Prop} (h : SqL K H a xs) (k : SqL K H b ys) (q : R a b) : ∃ a' b' xs ys, [V.ref a, V.ref b] = [.ref a', .ref b'] ∧ SqL K H a' xs ∧ SqL K H b' ys ∧ R a' b' := ⟨a, b, xs, ys, rfl, h, k, q⟩
theorem pgT {X : Cx} (h : X.K = K) {es : List Expr} {k n : Nat} {t : TGs} {pos : Pos} (hc : X.calm = true) (hs : PGs X es t) (hn : (assignEach es X.env).length = n := by rfl) (hst : (assignEach es X.env).findIdx? (·.1) = none := by rfl) : PG X (.Tuple es k pos) (gTup K n t) := h ▸ pg_tup hc hs hn hst
/-! ### a ratio at an address, spans, a list of spans -/
structure Ra (K : PySem.W.Frag) (H : Hp) (p : Addr) (x y : Int) : Prop where
  sq : SqT K H p [.int x, .int y]
  pos : 0 < y
  gcd : Int.gcd x y = 1
  bx : Bd 1000 x
  bu : Bd 1000 y
theorem Ra.mono {x y : Int} (h : Ra K H p x y) (m : ∀ xs, SqT K H p xs → SqT K J p xs) : Ra K J p x y := ⟨m _ h.sq, h.pos, h.gcd, h.bx, h.bu⟩
structure Sn where
  x : Int
  y : Int
  u : Int
  v : Int
def SnAt (K : PySem.W.Frag) (H : Hp) (r : V) (s : Sn) : Prop := ∃ c p q, r = .ref c ∧ SqT K H c [.ref p, .ref q] ∧ Ra K H p s.x s.y ∧ Ra K H q s.u s.v
theorem SnAt.mono {r : V} {s : Sn} (h : SnAt K H r s) (m : ∀ p xs, SqT K H p xs → SqT K J p xs) : SnAt K J r s :=
  let ⟨c, p, q, e, h1, h2, h3⟩ := h; ⟨c, p, q, e, m _ _ h1, h2.mono (m _), h3.mono (m _)⟩
inductive SnsAt (K : PySem.W.Frag) (H : Hp) : List V → List Sn → Prop
  | nil : SnsAt K H [] []
  | cons {r : V} {rs : List V} {s : Sn} {ss : List Sn} (h : SnAt K H r s) (t : SnsAt K H rs ss) : SnsAt K H (r :: rs) (s :: ss)
theorem SnsAt.mono (m : ∀ p xs, SqT K H p xs → SqT K J p xs) : ∀ {rs : List V} {ss : List Sn}, SnsAt K H rs ss → SnsAt K J rs ss
  | _, _, .nil => .nil
  | _, _, .cons h t => .cons (h.mono m) (t.mono m)
theorem SnsAt.len : ∀ {rs : List V} {ss : List Sn}, SnsAt K H rs ss → rs.length = ss.length
  | _, _, .nil => rfl
  | _, _, .cons _ t => congrArg (· + 1) t.len
theorem SnsAt.get : ∀ {rs : List V} {ss : List Sn} {i : Nat} {r : V}, SnsAt K H rs ss → rs[i]? = some r → ∃ s, ss[i]? = some s ∧ SnAt K H r s
  | _, _, _, _, .nil, e => by simp at e
  | _, _, 0, _, .cons h t, e => by
    cases Option.some.inj (show some _ = some _ from e)
    exact ⟨_, rfl, h⟩
  | _, _, i + 1, _, .cons h t, e => t.get (i := i) e
theorem SnsAt.tail : ∀ {rs : List V} {ss : List Sn}, SnsAt K H rs ss → SnsAt K H rs.tail ss.tail
  | _, _, .nil => .nil
  | _, _, .cons _ t => t
/-! the same as data -/
def snD (s : Sn) : PyData := .tuple [.tuple [.int s.x, .int s.y], .tuple [.int s.u, .int s.v]]
theorem Ra.dp {x y : Int} (h : Ra K H p x y) : Dp K H (.ref p) (.tuple [.int x, .int y]) := .tup h.sq (.cons (.int _) (.cons (.int _) .nil))
theorem SnsAt.dp : ∀ {rs : List V} {ss : List Sn}, SnsAt K H rs ss → DpAll K H rs (ss.map snD)
  | _, _, .nil => .nil
  | _, _, .cons h t => by
    obtain ⟨c, p, q, rfl, hc, h1, h2⟩ := h
    exact .cons (.tup hc (.cons h1.dp (.cons h2.dp .nil))) t.dp
theorem SnsAt.small : ∀ {rs : List V} {ss : List Sn}, SnsAt K H rs ss → sms (ss.map snD) = true ∧ szs (ss.map snD) ≤ 5000 * rs.length ∧ PyData.depthAll (ss.map snD) ≤ 2 ∧ PyData.canLayAll0 (ss.map snD) = true
  | _, _, .nil => ⟨by simp [sms], by simp [szs], by simp [PyData.depthAll], by simp [PyData.canLayAll0]⟩
  | _, _, .cons h t => by
    obtain ⟨c, p, q, rfl, hc, h1, h2⟩ := h
    obtain ⟨a1, a2, a3, a4⟩ := t.small
    have b1 := h1.bx.log
    have b2 := h1.bu.log
    have b3 := h2.bx.log
    have b4 := h2.bu.log
    refine ⟨?_, ?_, ?_, ?_⟩
    · simp only [List.map_cons, snD, sms, sm, a1, Bool.and_true, Bool.and_eq_true, decide_eq_true_eq]
      omega
    · simp only [List.map_cons, snD, szs, sz, List.length_cons]
      omega
    · simp only [List.map_cons, snD, PyData.depthAll, PyData.depth]
      omega
    · simp [List.map_cons, snD, PyData.canLayAll0, PyData.canLay0, a4]
theorem eqv_two {x y u v : Int} : PyData.eqv (.tuple [.int x, .int y]) (.tuple [.int u, .int v]) = decide (x = u ∧ y = v) := by
  by_cases h : x = u <;> by_cases k : y = v <;> simp [PyData.eqv, PyData.eqvAll, h, k]
theorem rd_eqR {Q : VK} {x y u v : Int} (h : SqT K H a [.int x, .int y]) (k : SqT K H b [.int u, .int v]) (q : Q (.bl (decide (x = u ∧ y = v))) H) : rEqD K (.ref a) (.ref b) H Q :=
  ⟨_, _, Dp.tup h (.cons (.int _) (.cons (.int _) .nil)), Dp.tup k (.cons (.int _) (.cons (.int _) .nil)), by simp [SeqAt.shaped, PyData.canLay0, PyData.canLayAll0, PyData.depth, PyData.depthAll], by simp [SeqAt.shaped, PyData.canLay0, PyData.canLayAll0, PyData.depth, PyData.depthAll], by rw [eqv_two]; exact q⟩
/-- the spans of the arc -/
def arcD (x y u v : Int) : List Sn := if x = u ∧ y = v then [] else if x * v < u * y then [⟨x, y, u, v⟩] else (if u = 0 ∧ v = 1 then [] else [⟨0, 1, u, v⟩]) ++ [⟨x, y, 1, 1⟩]
def okS (s : Sn) : Bool := decide (¬ s.x * 1 < 0 * s.y) && (decide (s.x * s.v < s.u * s.y) && decide (¬ 1 * s.v < s.u * 1))
def okN (s t : Sn) : Bool := decide (s.u * t.y < t.x * s.v)
def cutsB (ss : List Sn) : Bool := (ss.map okS).all id && (List.zipWith okN ss ss.tail).all id
end
end Ob
/-! What the head's run asks of own classes of errors over built-in ones. -/
namespace Ob
open PySem PySem.Spec PyProof.Rows L2
end Ob
/-! What the head's run asks of a text at the module's top, and of own classes of errors over ValueError. -/
namespace Ob
open PySem PySem.Spec PyProof.Rows L2
end Ob
set_option maxHeartbeats 2000000
namespace Ob
open PySem PySem.Spec PyProof.Rows L2
/-! ### the head by one run: facts looked up in what the top has left -/
abbrev AlO : Type := Bool × List He.FnV
/-- a def: where it stands, its name, qualified name, parameters, body, scope -/
structure FnO where
  ad : PySem.W.Frag → Addr
  name : Str
  qual : Str
  params : Arguments
  body : List Stmt
  scope : Scope
def FnO.val (d : FnO) : He.FnV := some (d.name, d.qual, d.params, .stmts d.body, d.scope, mainGlobals, [], .none, builtinsNs)
def fnLook (K : PySem.W.Frag) (a : Addr) : He.FnV := match K.lookup a with
  | some ⟨_, _, .func fd, _⟩ => some (fd.name, fd.qualname, fd.params, fd.body, fd.scope, fd.globals, fd.closure, fd.defaults, fd.builtins)
  | _ => none
def fnCode (K : PySem.W.Frag) (a : Addr) (q : Str) : Bool := match K.lookup a with
  | some ⟨_, _, .func fd, _⟩ => PySem.W.codeIn K fd.code q
  | _ => false
theorem fnO_ok {K : PySem.W.Frag} {d : FnO} {a : Addr} (e : fnLook K a = d.val) (c : fnCode K a d.qual = true) :
    ∃ oc od osl kV doc pm an cdv ct, K.lookup a = some ⟨oc, od, .func (PySem.W.fnOf d.name d.qual d.params d.body d.scope .none kV doc pm an cdv ct), osl⟩ ∧ PySem.W.codeIn K cdv d.qual = true := by
  unfold fnLook at e
  unfold fnCode at c
  cases q : K.lookup a with
  | none =>
    rw [q] at c
    cases c
  | some o =>
    obtain ⟨oc, od, dt, osl⟩ := o
    rw [q] at c e
    cases dt with
    | func fd =>
      obtain ⟨n1, n2, n3, n4, n5, n6, n7, n8, n9, n10, n11, n12, n13, n14, n15⟩ := fd
      have e2 : (some (n1, n2, n3, n4, n5, n6, n7, n8, n15) : He.FnV) = some (d.name, d.qual, d.params, .stmts d.body, d.scope, mainGlobals, [], .none, builtinsNs) := e
      simp only [Option.some.injEq, Prod.mk.injEq] at e2
      obtain ⟨h1, h2, h3, h4, h5, h6, h7, h8, h9⟩ := e2
      subst h1 h2 h3 h4 h5 h6 h7 h8 h9
      exact ⟨oc, od, osl, n9, n10, n11, n12, n13, n14, rfl, c⟩
    | _ => cases c
def obsO (fa : List (PySem.W.Frag → Bool)) (fn : List FnO) (K : PySem.W.Frag) : AlO :=
  ((fa.all fun f => f K) && fn.all fun d => fnCode K (d.ad K) d.qual && PySem.W.keepIn K (.ref (d.ad K)), fn.map fun d => fnLook K (d.ad K))
def valO (fn : List FnO) : AlO := (true, fn.map FnO.val)
def SaysO (fa : List (PySem.W.Frag → Bool)) (fn : List FnO) (K : PySem.W.Frag) : Prop := obsO fa fn K = valO fn
def obsOG (as : List Addr) (fa : List (PySem.W.Frag → Bool)) (fn : List FnO) (g : Addr → Option Obj) : AlO := obsO fa fn (He.frG g as)
def hookO (as : List Addr) (fa : List (PySem.W.Frag → Bool)) (fn : List FnO) : PySem.W.Hook where
  α := AlO
  obs := fun s => obsOG as fa fn s.heap.get?
  val := fun _ => valO fn
  says := fun _ h => ∃ K : PySem.W.Frag, K.In h ∧ SaysO fa fn K
  of := fun _ _ e => ⟨_, He.frG_in, e⟩
  keeps := fun _ _ _ ⟨K, hK, c⟩ k => ⟨K, PySem.W.Frag.In.keeps hK k, c⟩
theorem obsOG_eq {as : List Addr} {fa : List (PySem.W.Frag → Bool)} {fn : List FnO} {g : Addr → Option Obj} {s : Shared} (h : ∀ a, g a = s.heap.get? a) : obsOG as fa fn g = (hookO as fa fn).obs s := by
  have e : g = s.heap.get? := funext h
  rw [e]
  rfl
section
variable {fa : List (PySem.W.Frag → Bool)} {fn : List FnO} {K : PySem.W.Frag}
theorem SaysO.fact (c : SaysO fa fn K) (i : Nat) {f : PySem.W.Frag → Bool} (h : fa[i]? = some f := by rfl) : f K = true := by
  have c1 := (He.ba (show ((fa.all fun f => f K) && fn.all fun d => fnCode K (d.ad K) d.qual && PySem.W.keepIn K (.ref (d.ad K))) = true from congrArg (fun z : AlO => z.1) c)).1
  exact List.all_eq_true.mp c1 f (List.mem_of_getElem? h)
theorem SaysO.def_ (c : SaysO fa fn K) (i : Nat) {d : FnO} (h : fn[i]? = some d := by rfl) :
    ∃ oc od osl kV doc pm an cdv ct, K.lookup (d.ad K) = some ⟨oc, od, .func (PySem.W.fnOf d.name d.qual d.params d.body d.scope .none kV doc pm an cdv ct), osl⟩ ∧ PySem.W.codeIn K cdv d.qual = true ∧ PySem.W.keepIn K (.ref (d.ad K)) = true := by
  have c2 := (He.ba (show ((fa.all fun f => f K) && fn.all fun d => fnCode K (d.ad K) d.qual && PySem.W.keepIn K (.ref (d.ad K))) = true from congrArg (fun z : AlO => z.1) c)).2
  have e : fn.map (fun d => fnLook K (d.ad K)) = fn.map FnO.val := congrArg (fun z : AlO => z.2) c
  have e2 : (fn.map fun d => fnLook K (d.ad K))[i]? = (fn.map FnO.val)[i]? := by rw [e]
  rw [List.getElem?_map, List.getElem?_map, h] at e2
  obtain ⟨c3, c4⟩ := He.ba (List.all_eq_true.mp c2 d (List.mem_of_getElem? h))
  obtain ⟨oc, od, osl, kV, doc, pm, an, cdv, ct, h1, h2⟩ := fnO_ok (Option.some.inj e2) c3
  exact ⟨oc, od, osl, kV, doc, pm, an, cdv, ct, h1, h2, c4⟩
/-- a name's int, and that it is no descriptor -/
def intB (K : PySem.W.Frag) (o : Option (Option Value)) (i : Int) : Bool := match o with
  | some (some (.int j t)) => decide (j = i) && He.eqO (PySem.W.specialIn K (.int j t) "__get__") (some none)
  | _ => false
theorem intB_ok {o : Option (Option Value)} {i : Int} (h : intB K o i = true) : ∃ t, o = some (some (.int i t)) ∧ PySem.W.specialIn K (.int i t) "__get__" = some none := by
  unfold intB at h
  split at h
  · rename_i j t
    obtain ⟨h1, h2⟩ := He.ba h
    have e : j = i := of_decide_eq_true h1
    subst e
    exact ⟨t, rfl, He.eqO_ok h2⟩
  · cases h
def intC (o : Option (Option Value)) (i : Int) : Bool := match o with
  | some (some (.int j _)) => decide (j = i)
  | _ => false
theorem intC_ok {o : Option (Option Value)} {i : Int} (h : intC o i = true) : ∃ t, o = some (some (.int i t)) := by
  unfold intC at h
  split at h
  · rename_i j t
    have e : j = i := of_decide_eq_true h
    subst e
    exact ⟨t, rfl⟩
  · cases h
/-- a tuple of the top -/
def tupO (K : PySem.W.Frag) (a : Addr) (vs : List V) : Bool := match K.lookup a with
  | some ⟨.type c, _, .seq its _, _⟩ => decide (c = "tuple") && (decide (its.size ≤ sizeLine) && He.relAll vs its.toList)
  | _ => false
theorem tupO_ok {a : Addr} {vs : List V} (h : tupO K a vs = true) : ∃ o, K.lookup a = some o ∧ TupObj o vs := by
  unfold tupO at h
  split at h
  · rename_i c od its n sl e
    obtain ⟨h1, h2⟩ := He.ba h
    obtain ⟨h3, h4⟩ := He.ba h2
    have e1 : c = "tuple" := of_decide_eq_true h1
    subst e1
    exact ⟨_, e, rfl, its, n, rfl, of_decide_eq_true h3, He.relAll_ok h4⟩
  · cases h
end
/-- three looks at one run, made one -/
theorem opt3 {τ α β γ δ : Type} {x : Option τ} {f : τ → α} {g : τ → β} {k : τ → γ} {k2 : τ → δ} {a : α} {b : β} {c : γ} {d : δ} (h1 : x.map (fun z => (f z, g z)) = some (a, b)) (h2 : x.map k = some c) (h3 : x.map k2 = some d) : x.map (fun z => (f z, g z, (k z, k2 z))) = some (a, b, (c, d)) := by
  cases x with
  | none => cases h1
  | some t =>
    obtain ⟨e1, e2⟩ := Prod.mk.inj (Option.some.inj h1)
    exact congrArg some (Prod.ext e1 (Prod.ext e2 (Prod.ext (Option.some.inj h2) (Option.some.inj h3))))
theorem walk_gE {l : PySem.W.OpenLaw} {n k : Nat} {q : Program} {loose : List Str} {XP : (Str → Option Value) → Heap → Prop} {YP : World → Heap → Prop} {d : DefRec} {CX : CXT} {x : Str}
    (hn : l.most = some n) (hn2 : n ≤ sizeLine) (hdf : d.params.defaults = []) (hr : Room k callerA)
    (F : ∀ (w : World) (mg : Str → Option Value) (fa : Addr) (h : Heap), YP w h → h.Ns mainGlobals mg → mg d.name = some (.ref fa) → ∃ (K : PySem.W.Frag) (fd : FuncData) (sp : Sp), K.In h ∧ (∀ (s : Shared) (u : Value), BindsTo s fd ⟨[u], []⟩ [(x, u)]) ∧
      (∀ (H : Hp) (a : Addr) (ns : List Int), ns.length ≤ n → (∀ z ∈ ns, Builtin.Int.intBits z ≤ 1048576) → Only H → SqL K H a (ns.map V.int) → sp [.ref a] H (fun v _ => v = .bl true) fun _ _ _ => False) ∧
      ∀ base : Heap, K.In base → base.Ns mainGlobals mg → FnG l.prog w K mg base CX k fa fd [x] sp)
    (hCX : ∀ (H : Hp) (s : Shared) (e : Value) (s' : Shared), CX [] H s (fun _ _ _ => False) e s' → False) : PySem.W.WalkO q loose XP YP l.row.toRowW d [] (fun f vs => PySem.call f vs) :=
  Att.attach_callB hn hdf fun w s₀ s₁ mg mb fa o pm cd doc a vs ns G Y ho hd hcd hmg hobj hints hlen hbits hg =>
    let ⟨_, _, _, KX, hb, hsp, hF⟩ := F w mg fa _ Y G.T.g hmg
    law_g KX G.T.g G.T.b G.T.builtins G.T.nolimit hg hobj hints (Nat.le_trans hlen hn2) hr hF hb (fun H o z => hsp H a ns hlen hbits o z) fun H e s' => hCX H s₁ e s'
end Ob
namespace Ob
open PySem PySem.Spec PyProof.Rows L2
def top (i : Nat) : Stmt := PySem.Challenge.pw_onecut_k46_best_wishes.main.body.getD i (.Pass ⟨0, 0, 0, 0⟩)
abbrev S__law_bag : Stmt := top 52
abbrev S__law_take : Stmt := top 53
abbrev S__law_part : Stmt := top 54
abbrev S__law_lowest : Stmt := top 55
abbrev S_is_int : Stmt := top 11
abbrev S_lowest : Stmt := top 13
abbrev S_plus : Stmt := top 14
abbrev S_minus : Stmt := top 15
abbrev S_floor_of : Stmt := top 16
abbrev S_is_less : Stmt := top 18
abbrev S_arc : Stmt := top 39
abbrev S_both : Stmt := top 40
abbrev S_has : Stmt := top 41
abbrev S_is_day : Stmt := top 23
abbrev S__is_many : Stmt := top 24
abbrev S_check_day : Stmt := top 29
abbrev S_is_stretch : Stmt := top 25
abbrev S_check_stretch : Stmt := top 30
abbrev S_rest_of : Stmt := top 17
abbrev S__total : Stmt := top 33
abbrev S__given_before : Stmt := top 34
abbrev S_sum_before : Stmt := top 35
abbrev S_point : Stmt := top 36
abbrev S_exact : Stmt := top 37
abbrev S_is_ratio : Stmt := top 12
abbrev S_is_amount : Stmt := top 26
abbrev S__is_amounts : Stmt := top 27
abbrev S_wrong_part : Stmt := top 28
abbrev S_check_item : Stmt := top 31
abbrev S_Ledger___init__ : Stmt := inClass (top 50) 2
abbrev S_Ledger__of_kind : Stmt := inClass (top 50) 6
abbrev S_Ledger_entries : Stmt := inClass (top 50) 12
abbrev S_Ledger_statements : Stmt := inClass (top 50) 13
abbrev S_Ledger_numbered : Stmt := inClass (top 50) 11
abbrev S_Ledger_add : Stmt := inClass (top 50) 8
abbrev S_choices : Stmt := top 43
abbrev S__telling : Stmt := top 44
abbrev S_allowed : Stmt := top 45
abbrev S__law_amount : Stmt := top 56
abbrev S__law_entry : Stmt := top 57
abbrev S__law_entries : Stmt := top 58
abbrev S__law_grain : Stmt := top 59
abbrev S__law_before : Stmt := top 60
abbrev S__law_told : Stmt := top 61
abbrev S__law_stretch : Stmt := top 65
abbrev S__law_statements : Stmt := top 66
abbrev S__law_case : Stmt := top 67
abbrev S__law_points : Stmt := top 62
abbrev S__law_ends : Stmt := top 63
abbrev S__law_left : Stmt := top 64
abbrev S_telling_all : Stmt := top 46
abbrev S_left : Stmt := top 47
abbrev S_best : Stmt := top 48
abbrev S__law_due : Stmt := top 71
abbrev S__law_exactly : Stmt := top 69
abbrev S__law_wish : Stmt := top 70
abbrev S__law_filled_up : Stmt := top 68
abbrev S__law_right : Stmt := top 72
abbrev S_law : Stmt := top 73
def lsH0 : List Str := ["_wall", "CutError", "BadItem", "BadDay", "BadStretch", "Full", "ZERO", "ONE", "is_int", "is_ratio", "lowest", "plus", "minus", "floor_of", "rest_of", "is_less", "LAST_DAY", "MOST_AMOUNTS", "AMOUNT_BOUND", "is_day", "_is_many", "is_stretch", "is_amount", "_is_amounts", "wrong_part", "check_day", "check_stretch", "check_item", "_total", "_given_before"]
def lsH1 : List Str := ["sum_before", "point", "exact", "arc", "both", "has", "choices", "_telling", "allowed", "telling_all", "left", "best", "Ledger", "_law_bag", "_law_take", "_law_part", "_law_lowest", "_law_amount", "_law_entry", "_law_entries", "_law_grain", "_law_before", "_law_told", "_law_points", "_law_ends", "_law_left", "_law_stretch", "_law_statements", "_law_case", "_law_filled_up"]
def lsH2 : List Str := ["_law_exactly", "_law_wish", "_law_due", "_law_right"]
abbrev lsH : List Str := lsH0 ++ lsH1 ++ lsH2
def fc0 (K : PySem.W.Frag) : Bool := He.eqO (PySem.W.nsIn K mainGlobals "Ledger") (some (some (.ref (He.ga K "Ledger"))))
def fc1 (K : PySem.W.Frag) : Bool := PySem.W.plainGet K (He.ga K "Ledger") Str.empty
def fc2 (K : PySem.W.Frag) : Bool := PySem.W.hasDictIn K (He.ga K "Ledger")
def fc3 (K : PySem.W.Frag) : Bool := PySem.W.plainOver K (He.ga K "Ledger")
def fc4 (K : PySem.W.Frag) : Bool := He.eqO (PySem.W.findIn K (.ref (He.ga K "Ledger")) "__setattr__") (some (some (.builtin "object.__setattr__")))
def fc5 (K : PySem.W.Frag) : Bool := PySem.W.makesIn K (He.ga K "Ledger")
def fc6 (K : PySem.W.Frag) : Bool := PySem.W.keepIn K (.ref (He.ga K "Ledger"))
def fc7 (K : PySem.W.Frag) : Bool := He.eqO (PySem.W.findIn K (.ref (He.ga K "Ledger")) "_items") (some none)
def fc8 (K : PySem.W.Frag) : Bool := He.eqO (PySem.W.findIn K (.ref (He.ga K "Ledger")) "_next_number") (some none)
def fc9 (K : PySem.W.Frag) : Bool := intB K (PySem.W.findIn K (.ref (He.ga K "Ledger")) "MOST_ENTRIES") 6
def fc10 (K : PySem.W.Frag) : Bool := intB K (PySem.W.findIn K (.ref (He.ga K "Ledger")) "MOST_STATEMENTS") 24
def fc11 (K : PySem.W.Frag) : Bool := He.eqO (PySem.W.nsIn K mainGlobals "_law_bag") (some (some (.ref (He.ga K "_law_bag"))))
def fc12 (K : PySem.W.Frag) : Bool := He.eqO (PySem.W.nsIn K mainGlobals "_law_take") (some (some (.ref (He.ga K "_law_take"))))
def fc13 (K : PySem.W.Frag) : Bool := He.eqO (PySem.W.nsIn K mainGlobals "_law_part") (some (some (.ref (He.ga K "_law_part"))))
def fc14 (K : PySem.W.Frag) : Bool := He.eqO (PySem.W.nsIn K mainGlobals "_law_lowest") (some (some (.ref (He.ga K "_law_lowest"))))
def fc15 (K : PySem.W.Frag) : Bool := He.eqO (PySem.W.nsIn K mainGlobals "is_int") (some (some (.ref (He.ga K "is_int"))))
def fc16 (K : PySem.W.Frag) : Bool := He.eqO (PySem.W.nsIn K mainGlobals "lowest") (some (some (.ref (He.ga K "lowest"))))
def fc17 (K : PySem.W.Frag) : Bool := He.eqO (PySem.W.nsIn K mainGlobals "plus") (some (some (.ref (He.ga K "plus"))))
def fc18 (K : PySem.W.Frag) : Bool := He.eqO (PySem.W.nsIn K mainGlobals "minus") (some (some (.ref (He.ga K "minus"))))
def fc19 (K : PySem.W.Frag) : Bool := He.eqO (PySem.W.nsIn K mainGlobals "floor_of") (some (some (.ref (He.ga K "floor_of"))))
def fc20 (K : PySem.W.Frag) : Bool := He.eqO (PySem.W.nsIn K mainGlobals "is_less") (some (some (.ref (He.ga K "is_less"))))
def fc21 (K : PySem.W.Frag) : Bool := He.eqO (PySem.W.nsIn K mainGlobals "arc") (some (some (.ref (He.ga K "arc"))))
def fc22 (K : PySem.W.Frag) : Bool := He.eqO (PySem.W.nsIn K mainGlobals "both") (some (some (.ref (He.ga K "both"))))
def fc23 (K : PySem.W.Frag) : Bool := He.eqO (PySem.W.nsIn K mainGlobals "has") (some (some (.ref (He.ga K "has"))))
def fc24 (K : PySem.W.Frag) : Bool := He.eqO (PySem.W.nsIn K mainGlobals "is_day") (some (some (.ref (He.ga K "is_day"))))
def fc25 (K : PySem.W.Frag) : Bool := He.eqO (PySem.W.nsIn K mainGlobals "_is_many") (some (some (.ref (He.ga K "_is_many"))))
def fc26 (K : PySem.W.Frag) : Bool := He.eqO (PySem.W.nsIn K mainGlobals "check_day") (some (some (.ref (He.ga K "check_day"))))
def fc27 (K : PySem.W.Frag) : Bool := He.eqO (PySem.W.nsIn K mainGlobals "is_stretch") (some (some (.ref (He.ga K "is_stretch"))))
def fc28 (K : PySem.W.Frag) : Bool := He.eqO (PySem.W.nsIn K mainGlobals "check_stretch") (some (some (.ref (He.ga K "check_stretch"))))
def fc29 (K : PySem.W.Frag) : Bool := He.eqO (PySem.W.nsIn K mainGlobals "rest_of") (some (some (.ref (He.ga K "rest_of"))))
def fc30 (K : PySem.W.Frag) : Bool := He.eqO (PySem.W.nsIn K mainGlobals "_total") (some (some (.ref (He.ga K "_total"))))
def fc31 (K : PySem.W.Frag) : Bool := He.eqO (PySem.W.nsIn K mainGlobals "_given_before") (some (some (.ref (He.ga K "_given_before"))))
def fc32 (K : PySem.W.Frag) : Bool := He.eqO (PySem.W.nsIn K mainGlobals "sum_before") (some (some (.ref (He.ga K "sum_before"))))
def fc33 (K : PySem.W.Frag) : Bool := He.eqO (PySem.W.nsIn K mainGlobals "point") (some (some (.ref (He.ga K "point"))))
def fc34 (K : PySem.W.Frag) : Bool := He.eqO (PySem.W.nsIn K mainGlobals "exact") (some (some (.ref (He.ga K "exact"))))
def fc35 (K : PySem.W.Frag) : Bool := He.eqO (PySem.W.nsIn K mainGlobals "is_ratio") (some (some (.ref (He.ga K "is_ratio"))))
def fc36 (K : PySem.W.Frag) : Bool := He.eqO (PySem.W.nsIn K mainGlobals "is_amount") (some (some (.ref (He.ga K "is_amount"))))
def fc37 (K : PySem.W.Frag) : Bool := He.eqO (PySem.W.nsIn K mainGlobals "_is_amounts") (some (some (.ref (He.ga K "_is_amounts"))))
def fc38 (K : PySem.W.Frag) : Bool := He.eqO (PySem.W.nsIn K mainGlobals "wrong_part") (some (some (.ref (He.ga K "wrong_part"))))
def fc39 (K : PySem.W.Frag) : Bool := He.eqO (PySem.W.nsIn K mainGlobals "check_item") (some (some (.ref (He.ga K "check_item"))))
def fc40 (K : PySem.W.Frag) : Bool := He.eqO (PySem.W.findIn K (.ref (He.ga K "Ledger")) "__init__") (some (some (.ref (He.ma K (He.ga K "Ledger") "__init__"))))
def fc41 (K : PySem.W.Frag) : Bool := PySem.W.isFn K (.ref (He.ma K (He.ga K "Ledger") "__init__"))
def fc42 (K : PySem.W.Frag) : Bool := He.eqO (PySem.W.findIn K (.ref (He.ga K "Ledger")) "_of_kind") (some (some (.ref (He.ma K (He.ga K "Ledger") "_of_kind"))))
def fc43 (K : PySem.W.Frag) : Bool := PySem.W.isFn K (.ref (He.ma K (He.ga K "Ledger") "_of_kind"))
def fc44 (K : PySem.W.Frag) : Bool := He.eqO (PySem.W.findIn K (.ref (He.ga K "Ledger")) "entries") (some (some (.ref (He.ma K (He.ga K "Ledger") "entries"))))
def fc45 (K : PySem.W.Frag) : Bool := PySem.W.isFn K (.ref (He.ma K (He.ga K "Ledger") "entries"))
def fc46 (K : PySem.W.Frag) : Bool := He.eqO (PySem.W.findIn K (.ref (He.ga K "Ledger")) "statements") (some (some (.ref (He.ma K (He.ga K "Ledger") "statements"))))
def fc47 (K : PySem.W.Frag) : Bool := PySem.W.isFn K (.ref (He.ma K (He.ga K "Ledger") "statements"))
def fc48 (K : PySem.W.Frag) : Bool := He.eqO (PySem.W.findIn K (.ref (He.ga K "Ledger")) "numbered") (some (some (.ref (He.ma K (He.ga K "Ledger") "numbered"))))
def fc49 (K : PySem.W.Frag) : Bool := PySem.W.isFn K (.ref (He.ma K (He.ga K "Ledger") "numbered"))
def fc50 (K : PySem.W.Frag) : Bool := He.eqO (PySem.W.findIn K (.ref (He.ga K "Ledger")) "add") (some (some (.ref (He.ma K (He.ga K "Ledger") "add"))))
def fc51 (K : PySem.W.Frag) : Bool := PySem.W.isFn K (.ref (He.ma K (He.ga K "Ledger") "add"))
def fc52 (K : PySem.W.Frag) : Bool := He.eqO (PySem.W.nsIn K mainGlobals "choices") (some (some (.ref (He.ga K "choices"))))
def fc53 (K : PySem.W.Frag) : Bool := He.eqO (PySem.W.nsIn K mainGlobals "_telling") (some (some (.ref (He.ga K "_telling"))))
def fc54 (K : PySem.W.Frag) : Bool := He.eqO (PySem.W.nsIn K mainGlobals "allowed") (some (some (.ref (He.ga K "allowed"))))
def fc55 (K : PySem.W.Frag) : Bool := He.eqO (PySem.W.nsIn K mainGlobals "_law_amount") (some (some (.ref (He.ga K "_law_amount"))))
def fc56 (K : PySem.W.Frag) : Bool := He.eqO (PySem.W.nsIn K mainGlobals "_law_entry") (some (some (.ref (He.ga K "_law_entry"))))
def fc57 (K : PySem.W.Frag) : Bool := He.eqO (PySem.W.nsIn K mainGlobals "_law_entries") (some (some (.ref (He.ga K "_law_entries"))))
def fc58 (K : PySem.W.Frag) : Bool := He.eqO (PySem.W.nsIn K mainGlobals "_law_grain") (some (some (.ref (He.ga K "_law_grain"))))
def fc59 (K : PySem.W.Frag) : Bool := He.eqO (PySem.W.nsIn K mainGlobals "_law_before") (some (some (.ref (He.ga K "_law_before"))))
def fc60 (K : PySem.W.Frag) : Bool := He.eqO (PySem.W.nsIn K mainGlobals "_law_told") (some (some (.ref (He.ga K "_law_told"))))
def fc61 (K : PySem.W.Frag) : Bool := He.eqO (PySem.W.nsIn K mainGlobals "_law_stretch") (some (some (.ref (He.ga K "_law_stretch"))))
def fc62 (K : PySem.W.Frag) : Bool := He.eqO (PySem.W.nsIn K mainGlobals "_law_statements") (some (some (.ref (He.ga K "_law_statements"))))
def fc63 (K : PySem.W.Frag) : Bool := He.eqO (PySem.W.nsIn K mainGlobals "_law_case") (some (some (.ref (He.ga K "_law_case"))))
def fc64 (K : PySem.W.Frag) : Bool := He.eqO (PySem.W.nsIn K mainGlobals "_law_points") (some (some (.ref (He.ga K "_law_points"))))
def fc65 (K : PySem.W.Frag) : Bool := He.eqO (PySem.W.nsIn K mainGlobals "_law_ends") (some (some (.ref (He.ga K "_law_ends"))))
def fc66 (K : PySem.W.Frag) : Bool := He.eqO (PySem.W.nsIn K mainGlobals "_law_left") (some (some (.ref (He.ga K "_law_left"))))
def fc67 (K : PySem.W.Frag) : Bool := He.eqO (PySem.W.nsIn K mainGlobals "telling_all") (some (some (.ref (He.ga K "telling_all"))))
def fc68 (K : PySem.W.Frag) : Bool := He.eqO (PySem.W.nsIn K mainGlobals "left") (some (some (.ref (He.ga K "left"))))
def fc69 (K : PySem.W.Frag) : Bool := He.eqO (PySem.W.nsIn K mainGlobals "best") (some (some (.ref (He.ga K "best"))))
def fc70 (K : PySem.W.Frag) : Bool := He.eqO (PySem.W.nsIn K mainGlobals "_law_due") (some (some (.ref (He.ga K "_law_due"))))
def fc71 (K : PySem.W.Frag) : Bool := He.eqO (PySem.W.nsIn K mainGlobals "_law_exactly") (some (some (.ref (He.ga K "_law_exactly"))))
def fc72 (K : PySem.W.Frag) : Bool := He.eqO (PySem.W.nsIn K mainGlobals "_law_wish") (some (some (.ref (He.ga K "_law_wish"))))
def fc73 (K : PySem.W.Frag) : Bool := He.eqO (PySem.W.nsIn K mainGlobals "_law_filled_up") (some (some (.ref (He.ga K "_law_filled_up"))))
def fc74 (K : PySem.W.Frag) : Bool := He.eqO (PySem.W.nsIn K mainGlobals "_law_right") (some (some (.ref (He.ga K "_law_right"))))
def fc75 (K : PySem.W.Frag) : Bool := He.eqO (PySem.W.nsIn K mainGlobals "law") (some (some (.ref (He.ga K "law"))))
def fc76 (K : PySem.W.Frag) : Bool := He.eqO (PySem.W.nsIn K mainGlobals "gcd") (some (some (.builtin "math.gcd")))
def fc77 (K : PySem.W.Frag) : Bool := He.eqO (PySem.W.nsIn K mainGlobals "ONE") (some (some (.ref (He.ga K "ONE"))))
def fc78 (K : PySem.W.Frag) : Bool := tupO K (He.ga K "ONE") [V.int 1, V.int 1]
def fc79 (K : PySem.W.Frag) : Bool := He.eqO (PySem.W.nsIn K mainGlobals "ZERO") (some (some (.ref (He.ga K "ZERO"))))
def fc80 (K : PySem.W.Frag) : Bool := tupO K (He.ga K "ZERO") [V.int 0, V.int 1]
def fc81 (K : PySem.W.Frag) : Bool := intC (PySem.W.nsIn K mainGlobals "LAST_DAY") 1000000000000000000000000000000
def fc82 (K : PySem.W.Frag) : Bool := intC (PySem.W.nsIn K mainGlobals "AMOUNT_BOUND") 1000000
def fc83 (K : PySem.W.Frag) : Bool := intC (PySem.W.nsIn K mainGlobals "MOST_AMOUNTS") 4
def fc84 (K : PySem.W.Frag) : Bool := He.eqO (PySem.W.nsIn K mainGlobals "abs") (some none)
def fc85 (K : PySem.W.Frag) : Bool := He.eqO (PySem.W.nsIn K mainGlobals "len") (some none)
def fc86 (K : PySem.W.Frag) : Bool := He.eqO (PySem.W.nsIn K mainGlobals "isinstance") (some none)
def fc87 (K : PySem.W.Frag) : Bool := He.eqO (PySem.W.nsIn K mainGlobals "bool") (some none)
def fc88 (K : PySem.W.Frag) : Bool := He.eqO (PySem.W.nsIn K mainGlobals "int") (some none)
def fc89 (K : PySem.W.Frag) : Bool := He.eqO (PySem.W.nsIn K mainGlobals "any") (some none)
def fc90 (K : PySem.W.Frag) : Bool := He.eqO (PySem.W.nsIn K mainGlobals "tuple") (some none)
def fc91 (K : PySem.W.Frag) : Bool := He.eqO (PySem.W.nsIn K mainGlobals "zip") (some none)
def fc92 (K : PySem.W.Frag) : Bool := He.eqO (PySem.W.nsIn K mainGlobals "range") (some none)
def fc93 (K : PySem.W.Frag) : Bool := He.eqO (PySem.W.nsIn K mainGlobals "divmod") (some none)
def fc94 (K : PySem.W.Frag) : Bool := He.eqO (PySem.W.nsIn K mainGlobals "min") (some none)
def fc95 (K : PySem.W.Frag) : Bool := He.eqO (PySem.W.nsIn K mainGlobals "max") (some none)
def fc96 (K : PySem.W.Frag) : Bool := He.eqO (PySem.W.nsIn K mainGlobals "all") (some none)
def fc97 (K : PySem.W.Frag) : Bool := He.eqO (PySem.W.nsIn K mainGlobals "list") (some none)
def fc98 (K : PySem.W.Frag) : Bool := He.eqO (PySem.W.nsIn K mainGlobals "sum") (some none)
def fc99 (K : PySem.W.Frag) : Bool := He.eqO (PySem.W.nsIn K mainGlobals "set") (some none)
def fc100 (K : PySem.W.Frag) : Bool := He.eqO (PySem.W.nsIn K mainGlobals "sorted") (some none)
def fc101 (K : PySem.W.Frag) : Bool := He.eqO (PySem.W.nsIn K mainGlobals "repr") (some none)
def faH0 : List (PySem.W.Frag → Bool) := [fc0, fc1, fc2, fc3, fc4, fc5, fc6, fc7, fc8, fc9, fc10, fc11, fc12, fc13, fc14, fc15, fc16, fc17, fc18, fc19, fc20, fc21, fc22, fc23, fc24, fc25, fc26, fc27, fc28, fc29, fc30, fc31, fc32, fc33, fc34, fc35, fc36, fc37, fc38, fc39, fc40, fc41, fc42, fc43, fc44, fc45, fc46, fc47, fc48, fc49]
def faH1 : List (PySem.W.Frag → Bool) := [fc50, fc51, fc52, fc53, fc54, fc55, fc56, fc57, fc58, fc59, fc60, fc61, fc62, fc63, fc64, fc65, fc66, fc67, fc68, fc69, fc70, fc71, fc72, fc73, fc74, fc75, fc76, fc77, fc78, fc79, fc80, fc81, fc82, fc83, fc84, fc85, fc86, fc87, fc88, fc89, fc90, fc91, fc92, fc93, fc94, fc95, fc96, fc97, fc98, fc99]
def faH2 : List (PySem.W.Frag → Bool) := [fc100, fc101]
def faH : List (PySem.W.Frag → Bool) := faH0 ++ faH1 ++ faH2
def fnH : List FnO := [⟨fun K => (He.ga K "_law_bag"), "_law_bag", "_law_bag", defArgs S__law_bag, defBody S__law_bag, defScope S__law_bag⟩,
  ⟨fun K => (He.ga K "_law_take"), "_law_take", "_law_take", defArgs S__law_take, defBody S__law_take, defScope S__law_take⟩,
  ⟨fun K => (He.ga K "_law_part"), "_law_part", "_law_part", defArgs S__law_part, defBody S__law_part, defScope S__law_part⟩,
  ⟨fun K => (He.ga K "_law_lowest"), "_law_lowest", "_law_lowest", defArgs S__law_lowest, defBody S__law_lowest, defScope S__law_lowest⟩,
  ⟨fun K => (He.ga K "is_int"), "is_int", "is_int", defArgs S_is_int, defBody S_is_int, defScope S_is_int⟩,
  ⟨fun K => (He.ga K "lowest"), "lowest", "lowest", defArgs S_lowest, defBody S_lowest, defScope S_lowest⟩,
  ⟨fun K => (He.ga K "plus"), "plus", "plus", defArgs S_plus, defBody S_plus, defScope S_plus⟩,
  ⟨fun K => (He.ga K "minus"), "minus", "minus", defArgs S_minus, defBody S_minus, defScope S_minus⟩,
  ⟨fun K => (He.ga K "floor_of"), "floor_of", "floor_of", defArgs S_floor_of, defBody S_floor_of, defScope S_floor_of⟩,
  ⟨fun K => (He.ga K "is_less"), "is_less", "is_less", defArgs S_is_less, defBody S_is_less, defScope S_is_less⟩,
  ⟨fun K => (He.ga K "arc"), "arc", "arc", defArgs S_arc, defBody S_arc, defScope S_arc⟩,
  ⟨fun K => (He.ga K "both"), "both", "both", defArgs S_both, defBody S_both, defScope S_both⟩,
  ⟨fun K => (He.ga K "has"), "has", "has", defArgs S_has, defBody S_has, defScope S_has⟩,
  ⟨fun K => (He.ga K "is_day"), "is_day", "is_day", defArgs S_is_day, defBody S_is_day, defScope S_is_day⟩,
  ⟨fun K => (He.ga K "_is_many"), "_is_many", "_is_many", defArgs S__is_many, defBody S__is_many, defScope S__is_many⟩,
  ⟨fun K => (He.ga K "check_day"), "check_day", "check_day", defArgs S_check_day, defBody S_check_day, defScope S_check_day⟩,
  ⟨fun K => (He.ga K "is_stretch"), "is_stretch", "is_stretch", defArgs S_is_stretch, defBody S_is_stretch, defScope S_is_stretch⟩,
  ⟨fun K => (He.ga K "check_stretch"), "check_stretch", "check_stretch", defArgs S_check_stretch, defBody S_check_stretch, defScope S_check_stretch⟩,
  ⟨fun K => (He.ga K "rest_of"), "rest_of", "rest_of", defArgs S_rest_of, defBody S_rest_of, defScope S_rest_of⟩,
  ⟨fun K => (He.ga K "_total"), "_total", "_total", defArgs S__total, defBody S__total, defScope S__total⟩,
  ⟨fun K => (He.ga K "_given_before"), "_given_before", "_given_before", defArgs S__given_before, defBody S__given_before, defScope S__given_before⟩,
  ⟨fun K => (He.ga K "sum_before"), "sum_before", "sum_before", defArgs S_sum_before, defBody S_sum_before, defScope S_sum_before⟩,
  ⟨fun K => (He.ga K "point"), "point", "point", defArgs S_point, defBody S_point, defScope S_point⟩,
  ⟨fun K => (He.ga K "exact"), "exact", "exact", defArgs S_exact, defBody S_exact, defScope S_exact⟩,
  ⟨fun K => (He.ga K "is_ratio"), "is_ratio", "is_ratio", defArgs S_is_ratio, defBody S_is_ratio, defScope S_is_ratio⟩,
  ⟨fun K => (He.ga K "is_amount"), "is_amount", "is_amount", defArgs S_is_amount, defBody S_is_amount, defScope S_is_amount⟩,
  ⟨fun K => (He.ga K "_is_amounts"), "_is_amounts", "_is_amounts", defArgs S__is_amounts, defBody S__is_amounts, defScope S__is_amounts⟩,
  ⟨fun K => (He.ga K "wrong_part"), "wrong_part", "wrong_part", defArgs S_wrong_part, defBody S_wrong_part, defScope S_wrong_part⟩,
  ⟨fun K => (He.ga K "check_item"), "check_item", "check_item", defArgs S_check_item, defBody S_check_item, defScope S_check_item⟩,
  ⟨fun K => (He.ma K (He.ga K "Ledger") "__init__"), "__init__", "Ledger.__init__", defArgs S_Ledger___init__, defBody S_Ledger___init__, defScope S_Ledger___init__⟩,
  ⟨fun K => (He.ma K (He.ga K "Ledger") "_of_kind"), "_of_kind", "Ledger._of_kind", defArgs S_Ledger__of_kind, defBody S_Ledger__of_kind, defScope S_Ledger__of_kind⟩,
  ⟨fun K => (He.ma K (He.ga K "Ledger") "entries"), "entries", "Ledger.entries", defArgs S_Ledger_entries, defBody S_Ledger_entries, defScope S_Ledger_entries⟩,
  ⟨fun K => (He.ma K (He.ga K "Ledger") "statements"), "statements", "Ledger.statements", defArgs S_Ledger_statements, defBody S_Ledger_statements, defScope S_Ledger_statements⟩,
  ⟨fun K => (He.ma K (He.ga K "Ledger") "numbered"), "numbered", "Ledger.numbered", defArgs S_Ledger_numbered, defBody S_Ledger_numbered, defScope S_Ledger_numbered⟩,
  ⟨fun K => (He.ma K (He.ga K "Ledger") "add"), "add", "Ledger.add", defArgs S_Ledger_add, defBody S_Ledger_add, defScope S_Ledger_add⟩,
  ⟨fun K => (He.ga K "choices"), "choices", "choices", defArgs S_choices, defBody S_choices, defScope S_choices⟩,
  ⟨fun K => (He.ga K "_telling"), "_telling", "_telling", defArgs S__telling, defBody S__telling, defScope S__telling⟩,
  ⟨fun K => (He.ga K "allowed"), "allowed", "allowed", defArgs S_allowed, defBody S_allowed, defScope S_allowed⟩,
  ⟨fun K => (He.ga K "_law_amount"), "_law_amount", "_law_amount", defArgs S__law_amount, defBody S__law_amount, defScope S__law_amount⟩,
  ⟨fun K => (He.ga K "_law_entry"), "_law_entry", "_law_entry", defArgs S__law_entry, defBody S__law_entry, defScope S__law_entry⟩,
  ⟨fun K => (He.ga K "_law_entries"), "_law_entries", "_law_entries", defArgs S__law_entries, defBody S__law_entries, defScope S__law_entries⟩,
  ⟨fun K => (He.ga K "_law_grain"), "_law_grain", "_law_grain", defArgs S__law_grain, defBody S__law_grain, defScope S__law_grain⟩,
  ⟨fun K => (He.ga K "_law_before"), "_law_before", "_law_before", defArgs S__law_before, defBody S__law_before, defScope S__law_before⟩,
  ⟨fun K => (He.ga K "_law_told"), "_law_told", "_law_told", defArgs S__law_told, defBody S__law_told, defScope S__law_told⟩,
  ⟨fun K => (He.ga K "_law_stretch"), "_law_stretch", "_law_stretch", defArgs S__law_stretch, defBody S__law_stretch, defScope S__law_stretch⟩,
  ⟨fun K => (He.ga K "_law_statements"), "_law_statements", "_law_statements", defArgs S__law_statements, defBody S__law_statements, defScope S__law_statements⟩,
  ⟨fun K => (He.ga K "_law_case"), "_law_case", "_law_case", defArgs S__law_case, defBody S__law_case, defScope S__law_case⟩,
  ⟨fun K => (He.ga K "_law_points"), "_law_points", "_law_points", defArgs S__law_points, defBody S__law_points, defScope S__law_points⟩,
  ⟨fun K => (He.ga K "_law_ends"), "_law_ends", "_law_ends", defArgs S__law_ends, defBody S__law_ends, defScope S__law_ends⟩,
  ⟨fun K => (He.ga K "_law_left"), "_law_left", "_law_left", defArgs S__law_left, defBody S__law_left, defScope S__law_left⟩,
  ⟨fun K => (He.ga K "telling_all"), "telling_all", "telling_all", defArgs S_telling_all, defBody S_telling_all, defScope S_telling_all⟩,
  ⟨fun K => (He.ga K "left"), "left", "left", defArgs S_left, defBody S_left, defScope S_left⟩,
  ⟨fun K => (He.ga K "best"), "best", "best", defArgs S_best, defBody S_best, defScope S_best⟩,
  ⟨fun K => (He.ga K "_law_due"), "_law_due", "_law_due", defArgs S__law_due, defBody S__law_due, defScope S__law_due⟩,
  ⟨fun K => (He.ga K "_law_exactly"), "_law_exactly", "_law_exactly", defArgs S__law_exactly, defBody S__law_exactly, defScope S__law_exactly⟩,
  ⟨fun K => (He.ga K "_law_wish"), "_law_wish", "_law_wish", defArgs S__law_wish, defBody S__law_wish, defScope S__law_wish⟩,
  ⟨fun K => (He.ga K "_law_filled_up"), "_law_filled_up", "_law_filled_up", defArgs S__law_filled_up, defBody S__law_filled_up, defScope S__law_filled_up⟩,
  ⟨fun K => (He.ga K "_law_right"), "_law_right", "_law_right", defArgs S__law_right, defBody S__law_right, defScope S__law_right⟩,
  ⟨fun K => (He.ga K "law"), "law", "law", defArgs S_law, defBody S_law, defScope S_law⟩]
abbrev asH : List Addr := List.range 1000
abbrev RH : PySem.W.OpenRow := PySem.W.OpenLaw.row PySem.Challenge.rw_onecut_k46_best_wishes
abbrev hkH : PySem.W.Hook := hookO asH faH fnH
def obH (s : PySem.W.SharedT) : AlO := obsOG asH faH fnH (HandSHeadRun.getT s)
theorem obH_eq (s : PySem.W.SharedT) : obH s = hkH.obs s.abs := obsOG_eq (HandSHeadRun.getT_eq s)
noncomputable abbrev wrH (w : World) := HandSHeadRun.wholeF (fun p => HandSHeadRun.stepQ (HandSHeadRun.denQ HandSHeadRun.tabQ) p w) HandSHeadRun.fenceQ 12000 RH.prog
abbrev vwH : Program := PySem.W.view RH.prog [0, 73]
theorem runH1 (w : World) : (wrH w).map (fun x => (HandSHeadRun.looksF RH.prog x.1.heap x.2.abs, HandSHeadRun.seenQ vwH lsH (PySem.importedModules RH.prog.main.body) (fun s => PySem.W.xlAt vwH [] s && PySem.W.recOk RH.toRowW.records s) x.2.abs)) = some (true, PySem.W.openGood vwH lsH) := by kernel_rfl
theorem runH2 (w : World) : (wrH w).map (fun x => (obH x.2).1) = some true := by kernel_rfl
theorem runH3 (w : World) : (wrH w).map (fun x => (obH x.2).2) = some (fnH.map FnO.val) := by kernel_rfl
theorem runH (w : World) : HandSHeadRun.RunEqI RH vwH hkH obH 12000 lsH w := opt3 (runH1 w) (runH2 w) (runH3 w)
end Ob
namespace Ob
open PySem PySem.Spec PyProof.Rows L2
section
variable {K : PySem.W.Frag} {H J : Hp} {a b p l D : Addr} {xs ys : List V} {o : HO} {σ : L2.St} {te : TE} {g : TG} {vs : List Nat}
theorem rd_tpar3 {i j k : Nat} {ta : TA} {E : Ends} (q : ta σ H fun vs H1 => ∃ u v w, vs = [u, v, w] ∧ E.nx (((σ.set i (some u)).set j (some v)).set k (some w)) H1) : tPar3 i j k ta E σ H := q
theorem rd_par3 {i j k : Nat} {x y z : V} {E : Ends} {τ : L2.St} (e : ((σ.set i (some x)).set j (some y)).set k (some z) = τ) (q : E.nx τ H) : ∃ u v w, [x, y, z] = [u, v, w] ∧ E.nx (((σ.set i (some u)).set j (some v)).set k (some w)) H := by
  subst e
  exact ⟨x, y, z, rfl, q⟩
theorem ix_last (r : V) : ixN (xs ++ [r]).length (-1) = some xs.length := by
  have e : (xs ++ [r]).length = xs.length + 1 := by simp
  unfold ixN
  rw [e, if_neg (by decide), if_pos (by omega)]
  congr 1
  omega
theorem set_last (r s : V) : (xs ++ [r]).set xs.length s = xs ++ [s] := by
  simp
/-- xs[-1] = v -/
theorem rd_setLast {r v : V} {F : Hp → Prop} (h : H l = some (.lst (xs ++ [r]))) (q : ∀ J, Pu l H J → J l = some (.lst (xs ++ [v])) → F J) : rSetL (.ref l) (.int (-1)) v H F := by
  refine ⟨l, _, -1, xs.length, rfl, rfl, h, ix_last r, ?_⟩
  rw [set_last]
  exact q _ ⟨Kp.at, ⟨_, h⟩, ⟨_, upd_same⟩⟩ upd_same
theorem Kp.pu {M : Hp} (k : Kp b H M) (u : Pu l M J) (n : H l = none) : Kp b H J := fun a o ne e => u.1 a o (ne_of_none e n) (k a o ne e)
theorem Same.pu {M : Hp} (k : Same H M) (u : Pu l M J) (n : H l = none) : Same H J := fun a o e => u.1 a o (ne_of_none e n) (k a o e)
/-! ### a comprehension whose element may lay objects -/
def LcEnd (D : Addr) (H : Hp) (P : List V → Hp → Prop) (i : Nat) (y : V) (J : Hp) : Prop := ∃ acc, J D = some (.lst acc) ∧ acc.length < sizeLine ∧ ∃ ys, ys.length = i ∧ Kp D H (upd J D (.lst (acc ++ [y]))) ∧ (upd J D (.lst (acc ++ [y]))) D = some (.lst ys) ∧ P ys (upd J D (.lst (acc ++ [y])))
theorem lcEnd_mk {P : List V → Hp → Prop} {i : Nat} {y : V} (h : J D = some (.lst ys)) (hl : ys.length = i) (hz : i ≤ 500) (k : Kp D H J) (q : ∀ J4, Pu D J J4 → J4 D = some (.lst (ys ++ [y])) → P (ys ++ [y]) J4) : LcEnd D H P (i + 1) y J :=
  ⟨ys, h, small1000 (by omega), ys ++ [y], by rw [List.length_append, hl]; rfl, k.trans Kp.at, upd_same, q _ ⟨Kp.at, ⟨_, h⟩, ⟨_, upd_same⟩⟩ upd_same⟩
theorem lc_growL (P : List V → Hp → Prop) {Qd : Hp → Prop} (hT : H a = some (.lst xs)) (hl : xs.length ≤ 500) (hD : H D = none) (h0 : ∀ J, Kp D H J → P [] J)
    (he : ∀ (i : Nat) x ys J, xs[i]? = some x → i ≤ 500 → ys.length = i → Kp D H J → J D = some (.lst ys) → P ys J → g x (wipe σ vs) J fun σ2 J2 => wipe σ2 vs = wipe σ vs ∧ te σ2 J2 fun y J3 => LcEnd D H P (i + 1) y J3)
    (hd : ∀ ys J, ys.length = xs.length → Kp D H J → J D = some (.lst ys) → P ys J → Qd J) : Lc (Itl K a) g tYes te vs σ Qd H D := by
  have ne : a ≠ D := ne_of_none hT hD
  refine lc_list (xs := xs) (fun i J => ∃ ys, ys.length = i ∧ Kp D H J ∧ J D = some (.lst ys) ∧ P ys J) ⟨[], rfl, Kp.new hD, upd_same, h0 _ (Kp.new hD)⟩ (fun i J _ w => ?_) (fun i x J hx w => ?_) fun J w => ?_
  · obtain ⟨ys, _, k, _⟩ := w
    exact SqL.of (k a _ ne hT)
  · obtain ⟨ys, e, k, hJ, p⟩ := w
    have lt : i < xs.length := (List.getElem?_eq_some_iff.mp hx).1
    exact he i x ys J hx (by omega) e k hJ p
  · obtain ⟨ys, e, k, hJ, p⟩ := w
    exact hd ys J e k hJ p
theorem rd_forL {tl : TE} {tb : TS} {E : Ends} (q : tl σ H fun x H1 => ∃ a, x = .ref a ∧ (∃ xs, SqL K H1 a xs) ∧ Lp (Itl K a) g tb E σ H1) : tFor (iList K tl) g tb E σ H := q
theorem lp_lst {tb : TS} {E : Ends} (Pv : Nat → L2.St → Hp → Prop) (h0 : Pv 0 σ H) (hl : ∀ i σ H, i ≤ xs.length → Pv i σ H → SqL K H a xs)
    (hs : ∀ i x σ H, xs[i]? = some x → Pv i σ H → g x σ H fun σ2 H2 => tb { E with nx := Pv (i + 1), ct := Pv (i + 1), bk := E.nx } σ2 H2) (hd : ∀ σ H, Pv xs.length σ H → E.nx σ H) : Lp (Itl K a) g tb E σ H := for_list Pv h0 hl hs hd
/-! ### pairs of places -/
inductive PrsAt (H : Hp) : List V → List (Nat × Nat) → Prop
  | nil : PrsAt H [] []
  | cons {c : Addr} {rs : List V} {lo hi : Nat} {ps : List (Nat × Nat)} (h : H c = some (.tup [.int lo, .int hi])) (t : PrsAt H rs ps) : PrsAt H (.ref c :: rs) ((lo, hi) :: ps)
theorem PrsAt.mono (m : ∀ c xs, H c = some (.tup xs) → J c = some (.tup xs)) : ∀ {rs : List V} {ps : List (Nat × Nat)}, PrsAt H rs ps → PrsAt J rs ps
  | _, _, .nil => .nil
  | _, _, .cons h t => .cons (m _ _ h) (t.mono m)
theorem PrsAt.app : ∀ {rs ts : List V} {ps qs : List (Nat × Nat)}, PrsAt H rs ps → PrsAt H ts qs → PrsAt H (rs ++ ts) (ps ++ qs)
  | _, _, _, _, .nil, k => k
  | _, _, _, _, .cons h t, k => .cons h (t.app k)
theorem PrsAt.get : ∀ {rs : List V} {ps : List (Nat × Nat)} {i : Nat} {r : V}, PrsAt H rs ps → rs[i]? = some r → ∃ c lo hi, r = .ref c ∧ ps[i]? = some (lo, hi) ∧ H c = some (.tup [.int lo, .int hi])
  | _, _, _, _, .nil, e => by simp at e
  | _, _, 0, _, .cons h t, e => by
    cases Option.some.inj (show some _ = some _ from e)
    exact ⟨_, _, _, rfl, rfl, h⟩
  | _, _, i + 1, _, .cons h t, e => t.get (i := i) e
theorem PrsAt.len : ∀ {rs : List V} {ps : List (Nat × Nat)}, PrsAt H rs ps → rs.length = ps.length
  | _, _, .nil => rfl
  | _, _, .cons _ t => congrArg (· + 1) t.len
/-- found != [] -/
theorem PrsAt.dp : ∀ {rs : List V} {ps : List (Nat × Nat)}, PrsAt H rs ps → ∃ ds, DpAll K H rs ds ∧ ds.length = rs.length ∧ PyData.canLayAll0 ds = true ∧ PyData.depthAll ds ≤ 1
  | _, _, .nil => ⟨[], .nil, rfl, by simp [PyData.canLayAll0], by simp [PyData.depthAll]⟩
  | _, _, .cons (lo := lo) (hi := hi) h t => by
    obtain ⟨ds, d, e, c, z⟩ := t.dp
    refine ⟨.tuple [.int lo, .int hi] :: ds, .cons (.tup (SqT.of h) (.cons (.int _) (.cons (.int _) .nil))) d, by simp [e], by simp [PyData.canLayAll0, PyData.canLay0, c], ?_⟩
    simp only [PyData.depthAll, PyData.depth]
    omega
end
/-! ### lists of units -/
def nV (n : Nat) : V := .int (n : Int)
/-! ### runs of units: the last run first -/
def rruns (f : Nat → Bool) : Nat → List (Nat × Nat)
  | 0 => []
  | i + 1 => if f i = true then (match rruns f i with
    | (lo, hi) :: t => if hi = i then (lo, i + 1) :: t else (i, i + 1) :: (lo, hi) :: t
    | [] => [(i, i + 1)]) else rruns f i
theorem rruns_succ (f : Nat → Bool) (i : Nat) : rruns f (i + 1) = if f i = true then (match rruns f i with
    | (lo, hi) :: t => if hi = i then (lo, i + 1) :: t else (i, i + 1) :: (lo, hi) :: t
    | [] => [(i, i + 1)]) else rruns f i := rfl
/-- ascending runs below i, none touches the next -/
inductive Runs : Nat → List (Nat × Nat) → Prop
  | nil {i : Nat} : Runs i []
  | cons {i lo hi : Nat} {t : List (Nat × Nat)} (h : lo < hi) (k : hi ≤ i) (n : ∀ x ∈ t, x.2 < lo) (r : Runs lo t) : Runs i ((lo, hi) :: t)
theorem Runs.up {i j : Nat} {t : List (Nat × Nat)} (h : Runs i t) (k : i ≤ j) : Runs j t := by
  cases h with
  | nil => exact .nil
  | cons a b c d => exact .cons a (Nat.le_trans b k) c d
theorem Runs.bnd {i : Nat} {t : List (Nat × Nat)} (h : Runs i t) : ∀ x ∈ t, x.2 ≤ i := by
  induction h with
  | nil => intro x hx; cases hx
  | cons a b c d ih =>
    intro x hx
    rcases List.mem_cons.mp hx with rfl | hx
    · exact b
    · have := c x hx
      omega
theorem rruns_ok (f : Nat → Bool) : ∀ i, Runs i (rruns f i)
  | 0 => .nil
  | i + 1 => by
    have ih := rruns_ok f i
    rw [rruns_succ]
    by_cases h : f i = true
    · rw [if_pos h]
      cases e : rruns f i with
      | nil => exact .cons (Nat.lt_succ_self i) (Nat.le_refl _) (fun x hx => by cases hx) .nil
      | cons r t =>
        obtain ⟨lo, hi⟩ := r
        rw [e] at ih
        cases ih with
        | cons a b c d =>
          show Runs (i + 1) (if hi = i then (lo, i + 1) :: t else (i, i + 1) :: (lo, hi) :: t)
          by_cases z : hi = i
          · rw [if_pos z]
            exact .cons (by omega) (Nat.le_refl _) c d
          · rw [if_neg z]
            refine .cons (Nat.lt_succ_self i) (Nat.le_refl _) (fun x hx => ?_) (.cons a b c d)
            rcases List.mem_cons.mp hx with rfl | hx
            · show hi < i
              omega
            · have := c x hx
              omega
    · rw [if_neg h]
      exact ih.up (Nat.le_succ i)
/-- what the drawn form of the runs is -/
inductive SnsOf (g : Nat) : List (Nat × Nat) → List Sn → Prop
  | nil : SnsOf g [] []
  | cons {lo hi : Nat} {ps : List (Nat × Nat)} {s : Sn} {ss : List Sn} (h : IsLow (lo : Int) (g : Int) s.x s.y) (k : IsLow (hi : Int) (g : Int) s.u s.v) (t : SnsOf g ps ss) : SnsOf g ((lo, hi) :: ps) (s :: ss)
theorem SnsOf.snoc {g : Nat} : ∀ {ps : List (Nat × Nat)} {ss : List Sn} {lo hi : Nat} {s : Sn}, SnsOf g ps ss → IsLow (lo : Int) (g : Int) s.x s.y → IsLow (hi : Int) (g : Int) s.u s.v → SnsOf g (ps ++ [(lo, hi)]) (ss ++ [s])
  | _, _, _, _, _, .nil, h, k => .cons h k .nil
  | _, _, _, _, _, .cons a b t, h, k => .cons a b (t.snoc h k)
theorem SnsAt.snoc {K : PySem.W.Frag} {H : Hp} {r : V} {s : Sn} : ∀ {rs : List V} {ss : List Sn}, SnsAt K H rs ss → SnAt K H r s → SnsAt K H (rs ++ [r]) (ss ++ [s])
  | _, _, .nil, h => .cons h .nil
  | _, _, .cons a t, h => .cons a (t.snoc h)
theorem Runs.pos {i : Nat} {t : List (Nat × Nat)} (h : Runs i t) : ∀ x ∈ t, x.1 < x.2 := by
  induction h with
  | nil => intro x hx; cases hx
  | cons a b c d ih =>
    intro x hx
    rcases List.mem_cons.mp hx with rfl | hx
    · exact a
    · exact ih x hx
/-! ### what sums and comparisons of drawn forms come to -/
theorem low_of {t u x y : Int} (y0 : 0 < y) (g : Int.gcd x y = 1) (e : x * u = t * y) (hu : u ≠ 0) : IsLow t u x y := by
  have d1 : y ∣ u := dvd_gcd1 g ⟨t, by rw [e, Int.mul_comm]⟩
  have b1 : y.natAbs ≤ u.natAbs := Nat.le_of_dvd (by omega) (Int.natAbs_dvd_natAbs.mpr d1)
  refine ⟨y0, g, e, ?_, b1⟩
  by_cases ht : t = 0
  · subst ht
    rw [Int.zero_mul] at e
    rcases Int.mul_eq_zero.mp e with z | z
    · rw [z]
      exact Nat.le_refl _
    · exact absurd z hu
  · have d2 : x ∣ t := by
      have : x ∣ y * t := ⟨u, by rw [Int.mul_comm, ← e]⟩
      exact dvd_gcd1 (by rw [Int.gcd_comm]; exact g) this
    exact Nat.le_of_dvd (by omega) (Int.natAbs_dvd_natAbs.mpr d2)
theorem dif_form {lo hi g x y u v m n : Int} (h1 : x * g = lo * y) (h2 : u * g = hi * v) (y0 : 0 < y) (v0 : 0 < v) (h : m * (v * y) = (u * y - x * v) * n) : m * g = (hi - lo) * n := by
  refine Int.eq_of_mul_eq_mul_right (show v * y ≠ 0 from Int.mul_ne_zero (by omega) (by omega)) ?_
  grind
theorem sum_form {T d g m n m1 n1 m2 n2 : Int} (h1 : m * g = T * n) (h2 : m1 * g = d * n1) (n0 : 0 < n) (n10 : 0 < n1) (h : m2 * (n * n1) = (m * n1 + m1 * n) * n2) : m2 * g = (T + d) * n2 := by
  refine Int.eq_of_mul_eq_mul_right (show n * n1 ≠ 0 from Int.mul_ne_zero (by omega) (by omega)) ?_
  grind
def hasS (x y : Int) (s : Sn) : Bool := !decide (x * s.y < s.x * y) && decide (x * s.v < s.u * y)
theorem cut_lt {unit fine off g x y lo p q : Int} (h : x * (g * fine) = (unit * fine + off) * y) (k : p * g = lo * q) (y0 : 0 < y) (q0 : 0 < q) (g0 : 0 < g) (f0 : 0 < fine) (o0 : 0 ≤ off) (o1 : off < fine) : (x * q < p * y) ↔ unit < lo := by
  have e1 : (x * q) * (g * fine) = (unit * fine + off) * (y * q) := by grind
  have e2 : (p * y) * (g * fine) = (lo * fine) * (y * q) := by grind
  have gf : 0 < g * fine := Int.mul_pos g0 f0
  have yq : 0 < y * q := Int.mul_pos y0 q0
  have a1 : x * q < p * y ↔ (x * q) * (g * fine) < (p * y) * (g * fine) := (Int.mul_lt_mul_right gf).symm
  have a2 : (unit * fine + off) * (y * q) < (lo * fine) * (y * q) ↔ unit * fine + off < lo * fine := Int.mul_lt_mul_right yq
  rw [a1, e1, e2, a2]
  constructor
  · intro h
    rcases Int.lt_or_le unit lo with w | w
    · exact w
    · have := Int.mul_le_mul_of_nonneg_right w (Int.le_of_lt f0)
      omega
  · intro w
    have h1 := Int.mul_le_mul_of_nonneg_right (show unit + 1 ≤ lo by omega) (Int.le_of_lt f0)
    rw [Int.add_mul, Int.one_mul] at h1
    omega
theorem has_form {g : Nat} {unit fine off x y : Int} (h : IsLow (unit * fine + off) ((g : Int) * fine) x y) (g0 : 0 < (g : Int)) (f0 : 0 < fine) (o0 : 0 ≤ off) (o1 : off < fine) :
    ∀ {ps : List (Nat × Nat)} {ss : List Sn}, SnsOf g ps ss → (ss.any (hasS x y) = true ↔ ∃ r ∈ ps, (r.1 : Int) ≤ unit ∧ unit < (r.2 : Int))
  | _, _, .nil => ⟨fun z => (by cases z), fun ⟨r, hr, _⟩ => (by cases hr)⟩
  | _, _, .cons (lo := lo) (hi := hi) (s := s) a b t => by
    have ih := has_form h g0 f0 o0 o1 t
    have c1 := cut_lt (lo := lo) h.2.2.1 a.2.2.1 h.1 a.1 g0 f0 o0 o1
    have c2 := cut_lt (lo := hi) h.2.2.1 b.2.2.1 h.1 b.1 g0 f0 o0 o1
    have e : hasS x y s = true ↔ (lo : Int) ≤ unit ∧ unit < (hi : Int) := by
      unfold hasS
      rw [Bool.and_eq_true, Bool.not_eq_true', decide_eq_false_iff_not, decide_eq_true_eq, c1, c2]
      omega
    rw [List.any_cons, Bool.or_eq_true, e, ih]
    constructor
    · rintro (z | ⟨r, hr, z⟩)
      · exact ⟨_, List.mem_cons_self, z⟩
      · exact ⟨r, List.mem_cons_of_mem _ hr, z⟩
    · rintro ⟨r, hr, z⟩
      rcases List.mem_cons.mp hr with rfl | hr
      · exact .inl z
      · exact .inr ⟨r, hr, z⟩
theorem rruns_mem (f : Nat → Bool) : ∀ i u, u < i → (f u = true ↔ ∃ r ∈ rruns f i, r.1 ≤ u ∧ u < r.2)
  | 0, u, h => by omega
  | i + 1, u, h => by
    have ih := rruns_mem f i
    have ok := rruns_ok f i
    rw [rruns_succ]
    by_cases hf : f i = true
    · rw [if_pos hf]
      cases e : rruns f i with
      | nil =>
        rw [e] at ih
        show _ ↔ ∃ r ∈ [(i, i + 1)], _
        by_cases z : u = i
        · subst z
          exact ⟨fun _ => ⟨_, List.mem_singleton.mpr rfl, Nat.le_refl _, Nat.lt_succ_self _⟩, fun _ => hf⟩
        · refine (ih u (by omega)).trans ⟨fun ⟨r, hr, _⟩ => (by cases hr), fun ⟨r, hr, q1, q2⟩ => ?_⟩
          obtain rfl := List.mem_singleton.mp hr
          have : i ≤ u := q1
          omega
      | cons r t =>
        obtain ⟨lo, hi⟩ := r
        rw [e] at ok ih
        cases ok with
        | cons a b c d =>
          show _ ↔ ∃ r ∈ (if hi = i then (lo, i + 1) :: t else (i, i + 1) :: (lo, hi) :: t), _
          by_cases z : hi = i
          · rw [if_pos z]
            by_cases w : u = i
            · subst w
              exact ⟨fun _ => ⟨_, List.mem_cons_self, by show lo ≤ u; omega, Nat.lt_succ_self _⟩, fun _ => hf⟩
            · refine (ih u (by omega)).trans ⟨fun ⟨r, hr, q1, q2⟩ => ?_, fun ⟨r, hr, q1, q2⟩ => ?_⟩
              · rcases List.mem_cons.mp hr with rfl | hr
                · exact ⟨_, List.mem_cons_self, q1, by show u < i + 1; omega⟩
                · exact ⟨r, List.mem_cons_of_mem _ hr, q1, q2⟩
              · rcases List.mem_cons.mp hr with rfl | hr
                · exact ⟨_, List.mem_cons_self, q1, by show u < hi; omega⟩
                · exact ⟨r, List.mem_cons_of_mem _ hr, q1, q2⟩
          · rw [if_neg z]
            by_cases w : u = i
            · subst w
              exact ⟨fun _ => ⟨_, List.mem_cons_self, Nat.le_refl _, Nat.lt_succ_self _⟩, fun _ => hf⟩
            · refine (ih u (by omega)).trans ⟨fun ⟨r, hr, q1, q2⟩ => ⟨r, List.mem_cons_of_mem _ hr, q1, q2⟩, fun ⟨r, hr, q1, q2⟩ => ?_⟩
              rcases List.mem_cons.mp hr with rfl | hr
              · have : i ≤ u := q1
                omega
              · exact ⟨r, hr, q1, q2⟩
    · rw [if_neg hf]
      by_cases w : u = i
      · subst w
        refine ⟨fun q => absurd q hf, fun ⟨r, hr, q1, q2⟩ => ?_⟩
        have := ok.bnd r hr
        omega
      · exact ih u (by omega)
end Ob
namespace Ob
open PySem PySem.Spec PyProof.Rows L2
/-! ### runs (the last first) with the same members are the same -/
/-! ### ascending runs -/
inductive Asc : Nat → List (Nat × Nat) → Prop
  | nil {i : Nat} : Asc i []
  | cons {i lo hi : Nat} {t : List (Nat × Nat)} (k : i ≤ lo) (h : lo < hi) (r : Asc (hi + 1) t) : Asc i ((lo, hi) :: t)
theorem Asc.dn {i j : Nat} {t : List (Nat × Nat)} (h : Asc i t) (k : j ≤ i) : Asc j t := by
  cases h with
  | nil => exact .nil
  | cons a b c => exact .cons (Nat.le_trans k a) b c
theorem Asc.low {i : Nat} {t : List (Nat × Nat)} (h : Asc i t) : ∀ x ∈ t, i ≤ x.1 ∧ x.1 < x.2 := by
  induction h with
  | nil => intro x hx; cases hx
  | cons a b c ih =>
    intro x hx
    rcases List.mem_cons.mp hx with rfl | hx
    · exact ⟨a, b⟩
    · have := ih x hx
      exact ⟨by omega, this.2⟩
/-- the two-pointer walk -/
def bothN : List (Nat × Nat) → List (Nat × Nat) → List (Nat × Nat)
  | [], _ => []
  | _ :: _, [] => []
  | (a, b) :: s, (c, d) :: t =>
    let st := if a < c then c else a
    if b < d then (if st < b then [(st, b)] else []) ++ bothN s ((c, d) :: t) else (if st < d then [(st, d)] else []) ++ bothN ((a, b) :: s) t
termination_by s t => s.length + t.length
def In (u : Nat) (t : List (Nat × Nat)) : Prop := ∃ r ∈ t, r.1 ≤ u ∧ u < r.2
theorem in_cons {u lo hi : Nat} {t : List (Nat × Nat)} : In u ((lo, hi) :: t) ↔ (lo ≤ u ∧ u < hi) ∨ In u t := by
  unfold In
  constructor
  · rintro ⟨r, hr, h⟩
    rcases List.mem_cons.mp hr with rfl | hr
    · exact .inl h
    · exact .inr ⟨r, hr, h⟩
  · rintro (h | ⟨r, hr, h⟩)
    · exact ⟨_, List.mem_cons_self, h⟩
    · exact ⟨r, List.mem_cons_of_mem _ hr, h⟩
theorem in_nil {u : Nat} : ¬ In u [] := fun ⟨_, h, _⟩ => nomatch h
theorem Asc.out {i u : Nat} {t : List (Nat × Nat)} (h : Asc i t) (k : u < i) : ¬ In u t := fun ⟨r, hr, h1, _⟩ => by
  have := (h.low r hr).1
  omega
theorem in_seg {u st b : Nat} {t : List (Nat × Nat)} : In u ((if st < b then [(st, b)] else []) ++ t) ↔ (st ≤ u ∧ u < b) ∨ In u t := by
  by_cases h : st < b
  · rw [if_pos h]
    exact in_cons
  · rw [if_neg h, List.nil_append]
    exact ⟨.inr, fun z => z.elim (fun ⟨h1, h2⟩ => by omega) id⟩
theorem bothN_mem : ∀ {s t : List (Nat × Nat)} {i j : Nat}, Asc i s → Asc j t → ∀ u, In u (bothN s t) ↔ In u s ∧ In u t
  | [], t, _, _, _, _, u => by
    rw [bothN]
    exact ⟨fun h => absurd h in_nil, fun h => h.1⟩
  | x :: s, [], _, _, _, _, u => by
    rw [bothN]
    exact ⟨fun h => absurd h in_nil, fun h => h.2⟩
  | (a, b) :: s, (c, d) :: t, _, _, hs, ht, u => by
    rw [bothN]
    cases hs with
    | cons k1 h1 r1 =>
    cases ht with
    | cons k2 h2 r2 =>
      by_cases w : b < d
      · rw [if_pos w, in_seg, bothN_mem r1 (Asc.cons k2 h2 r2) u, in_cons, in_cons]
        have o1 := r1.out (u := u)
        constructor
        · rintro (⟨z1, z2⟩ | ⟨z1, z2⟩)
          · have : a ≤ u ∧ c ≤ u := by split at z1 <;> omega
            exact ⟨.inl ⟨by omega, z2⟩, .inl ⟨by omega, by omega⟩⟩
          · exact ⟨.inr z1, z2⟩
        · rintro ⟨z1 | z1, z2⟩
          · rcases z2 with z2 | z2
            · exact .inl ⟨by split <;> omega, z1.2⟩
            · exact absurd z2 (r2.out (by omega))
          · exact .inr ⟨z1, z2⟩
      · rw [if_neg w, in_seg, bothN_mem (Asc.cons k1 h1 r1) r2 u, in_cons, in_cons]
        constructor
        · rintro (⟨z1, z2⟩ | ⟨z1, z2⟩)
          · have : a ≤ u ∧ c ≤ u := by split at z1 <;> omega
            exact ⟨.inl ⟨by omega, by omega⟩, .inl ⟨by omega, z2⟩⟩
          · exact ⟨z1, .inr z2⟩
        · rintro ⟨z1, z2 | z2⟩
          · rcases z1 with z1 | z1
            · exact .inl ⟨by split <;> omega, z2.2⟩
            · exact absurd z1 (r1.out (by omega))
          · exact .inr ⟨z1, z2⟩
termination_by s t => s.length + t.length
theorem asc_seg {i st b : Nat} {t : List (Nat × Nat)} (k : i ≤ st) (h : Asc (b + 1) t) (ib : i ≤ b + 1) : Asc i ((if st < b then [(st, b)] else []) ++ t) := by
  by_cases w : st < b
  · rw [if_pos w]
    exact .cons k w h
  · rw [if_neg w]
    exact h.dn ib
theorem bothN_asc : ∀ {s t : List (Nat × Nat)} {i j : Nat}, Asc i s → Asc j t → Asc (max i j) (bothN s t)
  | [], t, _, _, _, _ => by rw [bothN]; exact .nil
  | x :: s, [], _, _, _, _ => by rw [bothN]; exact .nil
  | (a, b) :: s, (c, d) :: t, i, j, hs, ht => by
    rw [bothN]
    cases hs with
    | cons k1 h1 r1 =>
    cases ht with
    | cons k2 h2 r2 =>
      by_cases w : b < d
      · rw [if_pos w]
        have ih := bothN_asc r1 (Asc.cons (i := c) (Nat.le_refl c) h2 r2)
        by_cases z : max i j ≤ b + 1
        · exact asc_seg (by split <;> omega) (ih.dn (by omega)) z
        · have e : ¬ (if a < c then c else a) < b := by split <;> omega
          rw [if_neg e]
          exact (bothN_asc r1 (Asc.cons k2 h2 r2)).dn (by omega)
      · rw [if_neg w]
        have ih := bothN_asc (Asc.cons (i := a) (Nat.le_refl a) h1 r1) r2
        by_cases z : max i j ≤ d + 1
        · exact asc_seg (by split <;> omega) (ih.dn (by omega)) z
        · have e : ¬ (if a < c then c else a) < d := by split <;> omega
          rw [if_neg e]
          exact (bothN_asc (Asc.cons k1 h1 r1) r2).dn (by omega)
termination_by s t => s.length + t.length
end Ob
namespace Ob
open PySem PySem.Spec PyProof.Rows L2
section
variable {H : Hp} {σ : L2.St}
theorem rd_asg2 {te : TE} {g1 g2 : TG} {D : Ends} (q : te σ H fun x H1 => g1 x σ H1 fun σ1 H2 => g2 x σ1 H2 D.nx) : tAsg2 te g1 g2 D σ H := q
theorem rd_aug {i : Nat} {te : TE} {ti : TIp} {a : V} {D : Ends} (h : σ[i]? = some (some a)) (q : te σ H fun y H1 => ti a y H1 fun z H2 => D.nx (σ.set i (some z)) H2) : tAug i te ti D σ H := ⟨a, h, q⟩
theorem rd_ipI {f : Int → Int → Int} {a b : Int} {Q : VK} (q : Q (.int (f a b)) H) : ipI f (.int a) (.int b) H Q := ⟨a, b, rfl, rfl, q⟩
end
theorem rd_ifv {P : Prop} [Decidable P] {H : Hp} {σ : L2.St} {i j : Nat} {x y : V} {F : VK} (hx : σ[i]? = some (some x)) (hy : σ[j]? = some (some y)) (q : ∀ p, (P → p = x) → (¬ P → p = y) → F p H) : if decide P = true then tVar i σ H F else tVar j σ H F :=
  rd_if (fun c => rd_var hx (q _ (fun _ => rfl) fun n => absurd c n)) fun c => rd_var hy (q _ (fun n => absurd n c) fun _ => rfl)
def stS (a b : Sn) : Int × Int := if a.x * b.y < b.x * a.y then (b.x, b.y) else (a.x, a.y)
def segS (p : Int × Int) (u v : Int) : List Sn := if p.1 * v < u * p.2 then [⟨p.1, p.2, u, v⟩] else []
/-- what `both` gives, over the spans' numbers -/
def bothS : List Sn → List Sn → List Sn
  | [], _ => []
  | _ :: _, [] => []
  | a :: s, b :: t => if a.u * b.v < b.u * a.v then segS (stS a b) a.u a.v ++ bothS s (b :: t) else segS (stS a b) b.u b.v ++ bothS (a :: s) t
termination_by s t => s.length + t.length
theorem bothS_nil (t : List Sn) : bothS [] t = [] := by rw [bothS]
theorem bothS_nil' (s : List Sn) : bothS s [] = [] := by cases s <;> rw [bothS]
/-- what `_gaps` gives, over the spans' numbers -/
def gapsS : Int × Int → List Sn → List Sn
  | st, [] => segS st 1 1
  | st, s :: t => segS st s.x s.y ++ gapsS (s.u, s.v) t
/-! ### the same over units -/
theorem low_lt {lo hi g : Nat} {x y u v : Int} (h : IsLow (lo : Int) (g : Int) x y) (k : IsLow (hi : Int) (g : Int) u v) (g0 : 0 < g) : x * v < u * y ↔ lo < hi := by
  have e : x * ((g : Int) * 1) = ((lo : Int) * 1 + 0) * y := by
    rw [Int.mul_one, Int.mul_one, Int.add_zero]
    exact h.2.2.1
  have c := cut_lt (fine := 1) (off := 0) e k.2.2.1 h.1 k.1 (by omega) (by decide) (by decide) (by decide)
  rw [c]
  omega
theorem SnsOf.app {g : Nat} {qs : List (Nat × Nat)} {ts : List Sn} (k : SnsOf g qs ts) : ∀ {ps : List (Nat × Nat)} {ss : List Sn}, SnsOf g ps ss → SnsOf g (ps ++ qs) (ss ++ ts)
  | _, _, .nil => k
  | _, _, .cons a b t => .cons a b (SnsOf.app k t)
theorem seg_of {g st b : Nat} {p : Int × Int} {u v : Int} (g0 : 0 < g) (h : IsLow (st : Int) (g : Int) p.1 p.2) (k : IsLow (b : Int) (g : Int) u v) : SnsOf g (if st < b then [(st, b)] else []) (segS p u v) := by
  unfold segS
  by_cases w : st < b
  · rw [if_pos w, if_pos ((low_lt h k g0).mpr w)]
    exact .cons h k .nil
  · rw [if_neg w, if_neg fun z => w ((low_lt h k g0).mp z)]
    exact .nil
theorem both_of {g : Nat} (g0 : 0 < g) : ∀ {ps qs : List (Nat × Nat)} {ss ts : List Sn}, SnsOf g ps ss → SnsOf g qs ts → SnsOf g (bothN ps qs) (bothS ss ts)
  | _, _, _, _, .nil, _ => by
    rw [bothN, bothS]
    exact .nil
  | _, _, _, _, .cons a b t, .nil => by
    rw [bothN, bothS]
    exact .nil
  | (lo, hi) :: ps, (lo', hi') :: qs, s :: ss, z :: ts, .cons a b t, .cons a' b' t' => by
    rw [bothN, bothS]
    have st : IsLow (((if lo < lo' then lo' else lo) : Nat) : Int) (g : Int) (stS s z).1 (stS s z).2 := by
      unfold stS
      by_cases w : lo < lo'
      · rw [if_pos w, if_pos ((low_lt a a' g0).mpr w)]
        exact a'
      · rw [if_neg w, if_neg fun y => w ((low_lt a a' g0).mp y)]
        exact a
    by_cases w : hi < hi'
    · rw [if_pos w, if_pos ((low_lt b b' g0).mpr w)]
      exact SnsOf.app (both_of g0 t (.cons a' b' t')) (seg_of g0 st b)
    · rw [if_neg w, if_neg fun y => w ((low_lt b b' g0).mp y)]
      exact SnsOf.app (both_of g0 (.cons a b t) t') (seg_of g0 st b')
termination_by ps qs => ps.length + qs.length
def gapsN (g : Nat) : Nat → List (Nat × Nat) → List (Nat × Nat)
  | st, [] => if st < g then [(st, g)] else []
  | st, (lo, hi) :: t => (if st < lo then [(st, lo)] else []) ++ gapsN g hi t
theorem gaps_of {g : Nat} (g0 : 0 < g) : ∀ {ps : List (Nat × Nat)} {ss : List Sn} {st : Nat} {p : Int × Int}, SnsOf g ps ss → IsLow (st : Int) (g : Int) p.1 p.2 → SnsOf g (gapsN g st ps) (gapsS p ss)
  | _, _, _, _, .nil, h => seg_of g0 h (low_of (by decide) (by decide) (by rw [Int.one_mul, Int.mul_one]) (by omega))
  | _, _, _, _, .cons a b t, h => SnsOf.app (gaps_of g0 t b) (seg_of g0 h a)
theorem gapsN_mem {g : Nat} : ∀ {ps : List (Nat × Nat)} {i st : Nat}, Asc i ps → (∀ x ∈ ps, x.2 ≤ g) → st ≤ i → ∀ u, In u (gapsN g st ps) ↔ st ≤ u ∧ u < g ∧ ¬ In u ps
  | [], i, st, _, _, _, u => by
    unfold gapsN
    have := in_seg (u := u) (st := st) (b := g) (t := [])
    rw [List.append_nil] at this
    rw [this]
    have n := in_nil (u := u)
    exact ⟨fun h => h.elim (fun h => ⟨h.1, h.2, n⟩) fun h => absurd h n, fun h => .inl ⟨h.1, h.2.1⟩⟩
  | (lo, hi) :: t, i, st, h, hg, hi', u => by
    cases h with
    | cons k hh r =>
    have o := r.out (u := u)
    have hb : hi ≤ g := hg _ List.mem_cons_self
    unfold gapsN
    rw [in_seg, gapsN_mem r (fun x hx => hg x (List.mem_cons_of_mem _ hx)) (Nat.le_succ _) u, in_cons]
    constructor
    · rintro (⟨a, b⟩ | ⟨a, b, c⟩)
      · exact ⟨a, by omega, fun z => z.elim (fun z => by omega) (o (by omega))⟩
      · exact ⟨by omega, b, fun z => z.elim (fun z => by omega) c⟩
    · rintro ⟨a, b, c⟩
      by_cases w : u < lo
      · exact .inl ⟨a, w⟩
      · refine .inr ⟨?_, b, fun z => c (.inr z)⟩
        rcases Nat.lt_or_ge u hi with y | y
        · exact absurd (.inl ⟨by omega, y⟩) c
        · exact y
theorem gapsN_asc {g : Nat} : ∀ {ps : List (Nat × Nat)} {i st : Nat}, Asc i ps → st ≤ i → Asc st (gapsN g st ps)
  | [], _, st, _, _ => by
    unfold gapsN
    have := asc_seg (i := st) (st := st) (b := g) (t := [])
    rw [List.append_nil] at this
    by_cases w : st < g
    · exact this (Nat.le_refl _) .nil (by omega)
    · rw [if_neg w]
      exact .nil
  | (lo, hi) :: t, _, st, h, k => by
    cases h with
    | cons k1 hh r =>
    unfold gapsN
    exact asc_seg (Nat.le_refl _) ((gapsN_asc r (Nat.le_succ _)).dn (by omega)) (by omega)
theorem asc_ext : ∀ {a b : List (Nat × Nat)} {i j : Nat}, Asc i a → Asc j b → (∀ u, In u a ↔ In u b) → a = b
  | [], [], _, _, _, _, _ => rfl
  | [], (lo, hi) :: t, _, _, _, hb, e => by
    cases hb with
    | cons k h r => exact absurd ((e lo).mpr (in_cons.mpr (.inl ⟨Nat.le_refl _, h⟩))) in_nil
  | (lo, hi) :: t, [], _, _, ha, _, e => by
    cases ha with
    | cons k h r => exact absurd ((e lo).mp (in_cons.mpr (.inl ⟨Nat.le_refl _, h⟩))) in_nil
  | (lo, hi) :: t, (lo', hi') :: t', _, _, ha, hb, e => by
    cases ha with
    | cons k h r =>
    cases hb with
    | cons k' h' r' =>
    have f1 := in_cons.mp ((e lo).mp (in_cons.mpr (.inl ⟨Nat.le_refl _, h⟩)))
    have f2 := in_cons.mp ((e lo').mpr (in_cons.mpr (.inl ⟨Nat.le_refl _, h'⟩)))
    have g1 : lo' ≤ lo := by
      rcases Nat.lt_or_ge lo lo' with w | w
      · exact f1.elim (fun z => z.1) fun z => absurd z (r'.out (by omega))
      · exact w
    have g2 : lo ≤ lo' := by
      rcases Nat.lt_or_ge lo' lo with w | w
      · exact f2.elim (fun z => z.1) fun z => absurd z (r.out (by omega))
      · exact w
    have g3 : hi' ≤ hi := by
      rcases Nat.lt_or_ge hi hi' with w | w
      · have := in_cons.mp ((e hi).mpr (in_cons.mpr (.inl ⟨by omega, w⟩)))
        exact this.elim (fun z => by omega) fun z => absurd z (r.out (by omega))
      · exact w
    have g4 : hi ≤ hi' := by
      rcases Nat.lt_or_ge hi' hi with w | w
      · have := in_cons.mp ((e hi').mp (in_cons.mpr (.inl ⟨by omega, w⟩)))
        exact this.elim (fun z => by omega) fun z => absurd z (r'.out (by omega))
      · exact w
    have e1 : lo = lo' := Nat.le_antisymm g2 g1
    have e2 : hi = hi' := Nat.le_antisymm g4 g3
    subst e1 e2
    congr 1
    refine asc_ext r r' fun u => ⟨fun z => ?_, fun z => ?_⟩
    · have q := in_cons.mp ((e u).mp (in_cons.mpr (.inr z)))
      rcases q with q | q
      · exact absurd z (r.out (by omega))
      · exact q
    · have q := in_cons.mp ((e u).mpr (in_cons.mpr (.inr z)))
      rcases q with q | q
      · exact absurd z (r'.out (by omega))
      · exact q
theorem asc_snoc : ∀ {s : List (Nat × Nat)} {i lo hi : Nat}, Asc i s → (∀ x ∈ s, x.2 < lo) → i ≤ lo → lo < hi → Asc i (s ++ [(lo, hi)])
  | [], _, _, _, _, _, k, h => .cons k h .nil
  | (a, b) :: t, _, _, _, hs, n, k, h => by
    cases hs with
    | cons k1 h1 r => exact .cons k1 h1 (asc_snoc r (fun x hx => n x (List.mem_cons_of_mem _ hx)) (n _ List.mem_cons_self) h)
theorem asc_rev {i : Nat} {t : List (Nat × Nat)} (h : Runs i t) : Asc 0 t.reverse := by
  induction h with
  | nil => exact .nil
  | cons a b c d ih =>
    rw [List.reverse_cons]
    exact asc_snoc ih (fun x hx => c x (List.mem_reverse.mp hx)) (Nat.zero_le _) a
theorem sns_uniq {g : Nat} (g0 : 0 < g) : ∀ {ps : List (Nat × Nat)} {ss ts : List Sn}, SnsOf g ps ss → SnsOf g ps ts → ss = ts
  | _, _, _, .nil, .nil => rfl
  | _, s :: _, z :: _, .cons a b t, .cons a' b' t' => by
    obtain ⟨e1, e2⟩ := low_uniq a a' (by omega) (by omega) rfl
    obtain ⟨e3, e4⟩ := low_uniq b b' (by omega) (by omega) rfl
    rw [sns_uniq g0 t t']
    cases s
    cases z
    simp only at e1 e2 e3 e4
    subst e1 e2 e3 e4
    rfl
/-! ### what both and without come to, as drawn forms -/
theorem in_rruns (f : Nat → Bool) (g u : Nat) : In u (rruns f g).reverse ↔ u < g ∧ f u = true := by
  constructor
  · rintro ⟨r, hr, h1, h2⟩
    have hr := List.mem_reverse.mp hr
    have := (rruns_ok f g).bnd r hr
    exact ⟨by omega, (rruns_mem f g u (by omega)).mpr ⟨r, hr, h1, h2⟩⟩
  · rintro ⟨h, k⟩
    obtain ⟨r, hr, z⟩ := (rruns_mem f g u h).mp k
    exact ⟨r, List.mem_reverse.mpr hr, z⟩
theorem both_form {g : Nat} (g0 : 0 < g) {f h : Nat → Bool} {ss ts : List Sn} (a : SnsOf g (rruns f g).reverse ss) (b : SnsOf g (rruns h g).reverse ts) : SnsOf g (rruns (fun u => f u && h u) g).reverse (bothS ss ts) := by
  have A := asc_rev (rruns_ok f g)
  have B := asc_rev (rruns_ok h g)
  have e : bothN (rruns f g).reverse (rruns h g).reverse = (rruns (fun u => f u && h u) g).reverse := asc_ext (bothN_asc A B) (asc_rev (rruns_ok _ g)) fun u => by
    rw [bothN_mem A B, in_rruns, in_rruns, in_rruns, Bool.and_eq_true]
    exact ⟨fun ⟨⟨x, y⟩, _, z⟩ => ⟨x, y, z⟩, fun ⟨x, y, z⟩ => ⟨⟨x, y⟩, x, z⟩⟩
  exact e ▸ both_of g0 a b
theorem without_form {g : Nat} (g0 : 0 < g) {f h : Nat → Bool} {ss ts : List Sn} (a : SnsOf g (rruns f g).reverse ss) (b : SnsOf g (rruns h g).reverse ts) : SnsOf g (rruns (fun u => f u && !h u) g).reverse (bothS ss (gapsS (0, 1) ts)) := by
  have A := asc_rev (rruns_ok f g)
  have B := asc_rev (rruns_ok h g)
  have bd : ∀ x ∈ (rruns h g).reverse, x.2 ≤ g := fun x hx => (rruns_ok h g).bnd x (List.mem_reverse.mp hx)
  have G : Asc 0 (gapsN g 0 (rruns h g).reverse) := gapsN_asc B (Nat.le_refl _)
  have e : bothN (rruns f g).reverse (gapsN g 0 (rruns h g).reverse) = (rruns (fun u => f u && !h u) g).reverse := asc_ext (bothN_asc A G) (asc_rev (rruns_ok _ g)) fun u => by
    rw [bothN_mem A G, in_rruns, gapsN_mem B bd (Nat.le_refl _), in_rruns, in_rruns, Bool.and_eq_true, Bool.not_eq_true']
    constructor
    · rintro ⟨⟨x, y⟩, _, _, z⟩
      refine ⟨x, y, ?_⟩
      cases hu : h u with
      | false => rfl
      | true => exact absurd ⟨x, hu⟩ z
    · rintro ⟨x, y, z⟩
      exact ⟨⟨x, y⟩, Nat.zero_le _, x, fun w => by rw [z] at w; cases w.2⟩
  refine e ▸ both_of g0 a (gaps_of g0 b (p := (0, 1)) (low_of (by decide) (by decide) (by simp) (by omega)))
end Ob
namespace Ob
/-! ### sums of floors: the plain mathematics -/
def fs : Nat → Int → Int → Int → Int
  | 0, _, _, _ => 0
  | n + 1, a, b, m => fs n a b m + (a * n + b) / m
theorem div_is {e m : Int} {y : Int} (h : 0 < m) (h1 : y * m ≤ e) (h2 : e < (y + 1) * m) : e / m = y := by
  have a1 : y ≤ e / m := (Int.le_ediv_iff_mul_le h).2 h1
  have a2 : e / m < y + 1 := (Int.ediv_lt_iff_lt_mul h).2 h2
  omega
/-! ### k14: remainders between bounds -/
end Ob
namespace Ob
/-! ### k13: the far sums -/
/-! ### counts of two parts -/
end Ob
namespace Ob
/-! ### k15: the first remainder between bounds -/
def InR (s u lo hi k : Int) : Prop := lo ≤ (s * k) % u ∧ (s * k) % u ≤ hi
def NoneIs (P : Int → Prop) : Prop := ∀ i, 0 ≤ i → ¬ P i
def Prob (s u lo hi : Int) : Prop := 0 ≤ s ∧ s < u ∧ 0 < lo ∧ lo ≤ hi ∧ hi < u
def up (x s : Int) : Int := -((-x) / s)
theorem mod_at {x u r j : Int} (hu : 0 < u) (e : x = u * j + r) (h0 : 0 ≤ r) (h1 : r < u) : x % u = r ∧ x / u = j := by
  have h2 : x / u = j := div_is hu (by grind) (by grind)
  have := Int.emod_add_mul_ediv x u
  rw [h2] at this
  exact ⟨by omega, h2⟩
/-- no multiple of s between the bounds -/
theorem gap_of {s lo hi : Int} (hs : 0 < s) (h1 : lo ≤ hi) (h : hi < lo + (-lo) % s) : 0 < lo % s ∧ lo % s ≤ hi % s ∧ hi % s < s ∧ hi / s = lo / s := by
  have e := Int.emod_add_mul_ediv lo s
  have r0 := Int.emod_nonneg lo (show s ≠ 0 by omega)
  have r1 := Int.emod_lt_of_pos lo hs
  have hr : lo % s ≠ 0 := by
    intro z
    have : (-lo) % s = 0 := Int.emod_eq_zero_of_dvd (Int.dvd_neg.2 (Int.dvd_of_emod_eq_zero z))
    omega
  have hm : (-lo) % s = s - lo % s := by
    refine (mod_at (j := -(lo / s) - 1) hs ?_ (by omega) (by omega)).1
    grind
  have hh := mod_at (x := hi) (u := s) (j := lo / s) (r := lo % s + (hi - lo)) hs (by omega) (by omega) (by omega)
  omega
theorem turn_prob {s u lo hi : Int} (p : Prob s u lo hi) (hs : 0 < s) (h : hi < lo + (-lo) % s) : Prob (u % s) s (s - hi % s) (s - lo % s) := by
  obtain ⟨_, p1, p2, p3, p4⟩ := p
  obtain ⟨g1, g2, g3, g4⟩ := gap_of hs p3 h
  exact ⟨Int.emod_nonneg _ (by omega), Int.emod_lt_of_pos _ hs, by omega, by omega, by omega⟩
theorem turn_iff {s u lo hi : Int} (p : Prob s u lo hi) (hs : 0 < s) (h : hi < lo + (-lo) % s) (j : Int) :
    InR (u % s) s (s - hi % s) (s - lo % s) j ↔ ∃ k, lo + u * j ≤ s * k ∧ s * k ≤ hi + u * j := by
  obtain ⟨_, p1, p2, p3, p4⟩ := p
  obtain ⟨g1, g2, g3, g4⟩ := gap_of hs p3 h
  have el := Int.emod_add_mul_ediv lo s
  have eh := Int.emod_add_mul_ediv hi s
  rw [g4] at eh
  have er : (u % s * j) % s = (u * j) % s := by rw [Int.mul_emod, Int.emod_emod, ← Int.mul_emod]
  unfold InR
  rw [er]
  have eu := Int.emod_add_mul_ediv (u * j) s
  have r0 := Int.emod_nonneg (u * j) (show s ≠ 0 by omega)
  have r1 := Int.emod_lt_of_pos (u * j) hs
  generalize (u * j) % s = r at *
  generalize u * j = U at *
  generalize U / s = q at *
  generalize lo / s = t at *
  generalize lo % s = l at *
  generalize hi % s = g at *
  constructor
  · intro ⟨a1, a2⟩
    have : s * (t + q + 1) = s * t + s * q + s := by grind
    exact ⟨t + q + 1, by omega, by omega⟩
  · intro ⟨k, a1, a2⟩
    have b1 : t + q < k := by
      have : s * (t + q) < s * k := by
        have : s * (t + q) = s * t + s * q := by grind
        omega
      exact Int.lt_of_mul_lt_mul_left this (by omega)
    have b2 : k < t + q + 2 := by
      have : s * k < s * (t + q + 2) := by
        have : s * (t + q + 2) = s * t + s * q + s + s := by grind
        omega
      exact Int.lt_of_mul_lt_mul_left this (by omega)
    have b3 : k = t + q + 1 := by omega
    subst b3
    have : s * (t + q + 1) = s * t + s * q + s := by grind
    omega
theorem inR_iff {s u lo hi : Int} (p : Prob s u lo hi) (k : Int) : InR s u lo hi k ↔ ∃ j, lo + u * j ≤ s * k ∧ s * k ≤ hi + u * j := by
  obtain ⟨_, p1, p2, p3, p4⟩ := p
  have hu : 0 < u := by omega
  have e := Int.emod_add_mul_ediv (s * k) u
  constructor
  · intro ⟨a1, a2⟩
    exact ⟨s * k / u, by omega, by omega⟩
  · intro ⟨j, a1, a2⟩
    have := (mod_at (x := s * k) (r := s * k - u * j) (j := j) hu (by omega) (by omega) (by omega)).1
    exact ⟨by omega, by omega⟩
theorem j_nonneg {s u lo hi k j : Int} (p : Prob s u lo hi) (hk : 0 ≤ k) (h : s * k ≤ hi + u * j) : 0 ≤ j := by
  obtain ⟨p0, p1, p2, p3, p4⟩ := p
  have h0 : 0 ≤ s * k := Int.mul_nonneg p0 hk
  rcases Int.lt_or_le j 0 with c | c
  · have : u * j ≤ u * (-1) := Int.mul_le_mul_of_nonneg_left (by omega) (by omega)
    omega
  · exact c
theorem turn_none {s u lo hi : Int} (p : Prob s u lo hi) (hs : 0 < s) (h : hi < lo + (-lo) % s) (n : NoneIs (InR (u % s) s (s - hi % s) (s - lo % s))) : NoneIs (InR s u lo hi) := by
  intro k k0 hk
  obtain ⟨j, a1, a2⟩ := (inR_iff p k).1 hk
  exact n j (j_nonneg p k0 a2) ((turn_iff p hs h j).2 ⟨k, a1, a2⟩)
/-- the trail of the outer questions -/
inductive Trail (S U L G : Int) : List (Int × Int × Int) → Int → Int → Int → Int → Prop
  | nil (p : Prob S U L G) : Trail S U L G [] S U L G
  | cons {r s u lo hi} (t : Trail S U L G r s u lo hi) (hs : 0 < s) (h : hi < lo + (-lo) % s) : Trail S U L G ((s, u, lo) :: r) (u % s) s (s - hi % s) (s - lo % s)
theorem Trail.prob {S U L G : Int} {r : List (Int × Int × Int)} {s u lo hi : Int} (t : Trail S U L G r s u lo hi) : Prob s u lo hi := by
  induction t with
  | nil p => exact p
  | cons t hs h ih => exact turn_prob ih hs h
theorem Trail.le {S U L G : Int} {r : List (Int × Int × Int)} {s u lo hi : Int} (t : Trail S U L G r s u lo hi) : u ≤ U := by
  induction t with
  | nil p => exact Int.le_refl _
  | cons t hs h ih =>
    have := t.prob
    unfold Prob at this
    omega
theorem Trail.none {S U L G : Int} {r : List (Int × Int × Int)} {s u lo hi : Int} (t : Trail S U L G r s u lo hi) (n : NoneIs (InR s u lo hi)) : NoneIs (InR S U L G) := by
  induction t with
  | nil p => exact n
  | cons t hs h ih => exact ih (turn_none t.prob hs h n)
/-! the bounds turned round the ring -/
end Ob
namespace Ob
open PySem PySem.Spec PyProof.Rows L2
/-! ### repr of a number, of None, of data -/
section
variable {X : Cx} {K : PySem.W.Frag}
end
section
variable {K : PySem.W.Frag} {H J : Hp} {D a : Addr} {σ : L2.St} {xs : List V} {Q : VK}
end
section
variable {K : PySem.W.Frag} {H : Hp} {a : Addr} {Q : VK}
theorem rd_sum {ks : List Int} {xs : List V} (h : SqL K H a xs) (e : xs = ks.map V.int) (q : Q (.int ks.sum) H) : rSum K [.ref a] H Q := ⟨a, ks, rfl, e ▸ h, q⟩
end
section
variable {K : PySem.W.Frag} {H : Hp} {a : Addr} {xs ys : List V} {Q : VK} {σ : L2.St}
end
end Ob
namespace Ob
open PySem PySem.Spec PyProof.Rows L2
/-! ### min(list, default=None) -/
section
variable {X : Cx} {K : PySem.W.Frag} {H : Hp} {a : Addr} {Q : VK} {σ : L2.St} {t tk : TA} {xs : List V}
/-! ### is None -/
end
end Ob
namespace Ob
open PySem PySem.Spec PyProof.Rows L2
section
variable {K : PySem.W.Frag} {H J : Hp} {D a c l : Addr} {σ : L2.St} {xs rs zs : List V} {ss ts : List Sn} {Q : VK}
end
section
variable {K : PySem.W.Frag} {H : Hp} {σ : L2.St} {Q : VK} {ta : TE}
end
end Ob
namespace Ob
open PySem PySem.Spec PyProof.Rows L2
/-! ### sums of ratios, as tops and unders that are not made small -/
def totR : List (Int × Int) → Int × Int
  | [] => (0, 1)
  | r :: l => (r.1 * (totR l).2 + (totR l).1 * r.2, r.2 * (totR l).2)
theorem totR_perm {l l' : List (Int × Int)} (h : l.Perm l') : totR l = totR l' := by
  induction h with
  | nil => rfl
  | cons x _ ih => rw [totR, totR, ih]
  | swap x y l =>
    simp only [totR]
    refine Prod.ext ?_ ?_
    · show _ = _
      simp only
      grind
    · show _ = _
      simp only
      grind
  | trans _ _ i1 i2 => rw [i1, i2]
theorem totR_append : ∀ l l' : List (Int × Int), totR (l ++ l') = ((totR l).1 * (totR l').2 + (totR l').1 * (totR l).2, (totR l).2 * (totR l').2)
  | [], l' => by
    simp only [List.nil_append, totR]
    refine Prod.ext ?_ ?_ <;> simp
  | r :: l, l' => by
    rw [List.cons_append, totR, totR_append l l', totR]
    refine Prod.ext ?_ ?_
    · simp only
      grind
    · simp only
      grind
def Pos (l : List (Int × Int)) : Prop := ∀ r ∈ l, 0 < r.2
theorem totR_pos : ∀ {l : List (Int × Int)}, Pos l → 0 < (totR l).2
  | [], _ => by simp [totR]
  | r :: l, h => by
    rw [totR]
    exact Int.mul_pos (h r (by simp)) (totR_pos fun x hx => h x (by simp [hx]))
/-- m / n, in lowest terms, is the sum -/
def IsTot (l : List (Int × Int)) (m n : Int) : Prop := 0 < n ∧ Int.gcd m n = 1 ∧ m * (totR l).2 = (totR l).1 * n
theorem IsTot.uniq {l : List (Int × Int)} {m n m' n' : Int} (hl : Pos l) (h : IsTot l m n) (k : IsTot l m' n') : m = m' ∧ n = n' := by
  have u := totR_pos hl
  obtain ⟨n0, g, e⟩ := h
  obtain ⟨n0', g', e'⟩ := k
  refine low_one n0 n0' g g' (Int.eq_of_mul_eq_mul_right (show (totR l).2 ≠ 0 by omega) ?_)
  grind
theorem IsTot.perm {l l' : List (Int × Int)} {m n : Int} (h : l.Perm l') (k : IsTot l m n) : IsTot l' m n := by
  unfold IsTot at *
  rw [← totR_perm h]
  exact k
theorem IsTot.nil : IsTot [] 0 1 := ⟨by decide, by decide, by simp [totR]⟩
theorem IsTot.add {l l' : List (Int × Int)} {m n m' n' M N : Int} (h : IsTot l m n) (k : IsTot l' m' n') (low : IsLow (m * n' + m' * n) (n * n') M N) : IsTot (l ++ l') M N := by
  obtain ⟨n0, _, e⟩ := h
  obtain ⟨n0', _, e'⟩ := k
  obtain ⟨N0, G, E, _⟩ := low
  refine ⟨N0, G, ?_⟩
  rw [totR_append]
  have nz : n * n' ≠ 0 := Int.mul_ne_zero (by omega) (by omega)
  refine Int.eq_of_mul_eq_mul_right nz ?_
  simp only
  grind
theorem IsTot.one {x y : Int} (y0 : 0 < y) (g : Int.gcd x y = 1) : IsTot [(x, y)] x y := ⟨y0, g, by simp [totR]⟩
theorem IsTot.sub {l : List (Int × Int)} {x y m n M N : Int} (y0 : 0 < y) (hl : Pos l) (h : IsTot ((x, y) :: l) m n) (low : IsLow (m * y - x * n) (n * y) M N) : IsTot l M N := by
  obtain ⟨n0, _, e⟩ := h
  obtain ⟨N0, G, E, _⟩ := low
  refine ⟨N0, G, ?_⟩
  rw [totR] at e
  simp only at e
  have nz : n * y ≠ 0 := Int.mul_ne_zero (by omega) (by omega)
  refine Int.eq_of_mul_eq_mul_right nz ?_
  grind
/-- the rests, and the sum of the floors -/
def rests (l : List (Int × Int)) : List (Int × Int) := l.map fun r => (r.1.fmod r.2, r.2)
def floors (l : List (Int × Int)) : Int := (l.map fun r => r.1.fdiv r.2).sum
theorem totR_rests : ∀ l : List (Int × Int), totR l = (floors l * (totR (rests l)).2 + (totR (rests l)).1, (totR (rests l)).2)
  | [] => by simp [totR, rests, floors]
  | r :: l => by
    have e := Int.fmod_def r.1 r.2
    have ih := totR_rests l
    have h1 : rests (r :: l) = (r.1.fmod r.2, r.2) :: rests l := rfl
    have h2 : floors (r :: l) = r.1.fdiv r.2 + floors l := by simp [floors]
    rw [h1, h2, totR, ih, totR]
    refine Prod.ext ?_ ?_
    · simp only
      grind
    · simp only
theorem IsTot.whole {l : List (Int × Int)} {m n M N : Int} (h : IsTot (rests l) m n) (low : IsLow (floors l * n + m * 1) (1 * n) M N) : IsTot l M N := by
  obtain ⟨n0, _, e⟩ := h
  obtain ⟨N0, G, E, _⟩ := low
  refine ⟨N0, G, ?_⟩
  rw [totR_rests]
  simp only
  refine Int.eq_of_mul_eq_mul_right (show n ≠ 0 by omega) ?_
  grind
/-! ### a list of ratios at an address -/
inductive RtsAt (K : PySem.W.Frag) (H : Hp) : List V → List (Int × Int) → Prop
  | nil : RtsAt K H [] []
  | cons {p : Addr} {rs : List V} {x y : Int} {l : List (Int × Int)} (h : H p = some (.tup [.int x, .int y])) (y0 : 0 < y) (g : Int.gcd x y = 1) (bx : Bd 110 x) (bu : Bd 110 y) (t : RtsAt K H rs l) : RtsAt K H (.ref p :: rs) ((x, y) :: l)
section
variable {K : PySem.W.Frag} {H J : Hp}
theorem RtsAt.mono (m : ∀ p xs, H p = some (.tup xs) → J p = some (.tup xs)) : ∀ {rs : List V} {l : List (Int × Int)}, RtsAt K H rs l → RtsAt K J rs l
  | _, _, .nil => .nil
  | _, _, .cons h a b c d t => .cons (m _ _ h) a b c d (t.mono m)
theorem RtsAt.len : ∀ {rs : List V} {l : List (Int × Int)}, RtsAt K H rs l → rs.length = l.length
  | _, _, .nil => rfl
  | _, _, .cons _ _ _ _ _ t => by rw [List.length_cons, List.length_cons, t.len]
theorem RtsAt.pos : ∀ {rs : List V} {l : List (Int × Int)}, RtsAt K H rs l → Pos l
  | _, _, .nil => fun r hr => by cases hr
  | _, _, .cons _ y0 _ _ _ t => fun r hr => by
    rcases List.mem_cons.mp hr with rfl | hr
    · exact y0
    · exact t.pos r hr
theorem RtsAt.snoc {p : Addr} {x y : Int} (h : H p = some (.tup [.int x, .int y])) (y0 : 0 < y) (g : Int.gcd x y = 1) (bx : Bd 110 x) (bu : Bd 110 y) : ∀ {rs : List V} {l : List (Int × Int)}, RtsAt K H rs l → RtsAt K H (rs ++ [.ref p]) (l ++ [(x, y)])
  | _, _, .nil => .cons h y0 g bx bu .nil
  | _, _, .cons a b c d e t => .cons a b c d e (t.snoc h y0 g bx bu)
theorem RtsAt.get : ∀ {rs : List V} {l : List (Int × Int)}, RtsAt K H rs l → ∀ {i : Nat} {v : V}, rs[i]? = some v → ∃ p x y, v = .ref p ∧ l[i]? = some (x, y) ∧ H p = some (.tup [.int x, .int y]) ∧ 0 < y ∧ Int.gcd x y = 1 ∧ Bd 110 x ∧ Bd 110 y
  | _, _, .nil, i, v, e => by simp at e
  | _, _, .cons h a b c d t, 0, v, e => by
    simp at e
    exact ⟨_, _, _, e.symm, rfl, h, a, b, c, d⟩
  | _, _, .cons h a b c d t, i + 1, v, e => by
    simp at e
    obtain ⟨p, x, y, e1, e2, e3⟩ := t.get e
    exact ⟨p, x, y, e1, by simpa using e2, e3⟩
theorem RtsAt.drop : ∀ {rs : List V} {l : List (Int × Int)}, RtsAt K H rs l → ∀ n, RtsAt K H (rs.drop n) (l.drop n)
  | _, _, t, 0 => t
  | _, _, .nil, n + 1 => .nil
  | _, _, .cons _ _ _ _ _ t, n + 1 => t.drop n
theorem RtsAt.take : ∀ {rs : List V} {l : List (Int × Int)}, RtsAt K H rs l → ∀ n, RtsAt K H (rs.take n) (l.take n)
  | _, _, _, 0 => by rw [List.take_zero, List.take_zero]; exact .nil
  | _, _, .nil, n + 1 => .nil
  | _, _, .cons a b c d e t, n + 1 => .cons a b c d e (t.take n)
theorem RtsAt.perm {rs rs' : List V} (h : rs.Perm rs') : ∀ {l : List (Int × Int)}, RtsAt K H rs l → ∃ l', l.Perm l' ∧ RtsAt K H rs' l' := by
  induction h with
  | nil => intro l t; exact ⟨l, List.Perm.refl _, t⟩
  | cons x _ ih =>
    intro l t
    cases t with
    | cons h a b c d t =>
      obtain ⟨l', p, t'⟩ := ih t
      exact ⟨_, p.cons _, .cons h a b c d t'⟩
  | swap x y l0 =>
    intro l t
    cases t with
    | cons h a b c d t =>
      cases t with
      | cons h' a' b' c' d' t' => exact ⟨_, List.Perm.swap _ _ _, .cons h' a' b' c' d' (.cons h a b c d t')⟩
  | trans _ _ i1 i2 =>
    intro l t
    obtain ⟨l1, p1, t1⟩ := i1 t
    obtain ⟨l2, p2, t2⟩ := i2 t1
    exact ⟨l2, p1.trans p2, t2⟩
/-- the same as data -/
def ratD (r : Int × Int) : PyData := .tuple [.int r.1, .int r.2]
theorem RtsAt.dp : ∀ {rs : List V} {l : List (Int × Int)}, RtsAt K H rs l → DpAll K H rs (l.map ratD)
  | _, _, .nil => .nil
  | _, _, .cons h _ _ _ _ t => .cons (.tup (SqT.of h) (.cons (.int _) (.cons (.int _) .nil))) t.dp
theorem RtsAt.lay : ∀ (l : List (Int × Int)), PyData.depthAll (l.map ratD) ≤ 2 ∧ PyData.canLayAll0 (l.map ratD) = true
  | [] => ⟨by simp [PyData.depthAll], by simp [PyData.canLayAll0]⟩
  | r :: l => by
    obtain ⟨a, b⟩ := RtsAt.lay l
    refine ⟨?_, ?_⟩
    · simp only [List.map_cons, ratD, PyData.depthAll, PyData.depth]
      omega
    · simp [List.map_cons, ratD, PyData.canLayAll0, PyData.canLay0, b]
theorem ra_of {p : Addr} {x y : Int} (h : H p = some (.tup [.int x, .int y])) (y0 : 0 < y) (g : Int.gcd x y = 1) (bx : Bd 1000 x) (bu : Bd 1000 y) : Ra K H p x y := ⟨SqT.of h, y0, g, bx, bu⟩
end
section
variable {K : PySem.W.Frag} {H J : Hp} {Q : VK}
def rLstOf (K : PySem.W.Frag) : List V → Hp → VK → Prop := fun xs H Q => ∃ p ys, xs = [.ref p] ∧ (SqL K H p ys ∨ SqT K H p ys) ∧ ∀ l, H l = none → Q (.ref l) (upd H l (.lst ys))
theorem lstK {X : Cx} (h : X.K = K) : CallR X (.type "list") (rLstOf K) := h ▸ call_list_of
theorem rd_lstOf {p : Addr} {ys : List V} (h : SqL K H p ys) (q : ∀ l J, H l = none → Same H J → J l = some (.lst ys) → Q (.ref l) J) : rLstOf K [.ref p] H Q := ⟨p, ys, rfl, .inl h, fun l nl => q l _ nl (same_new nl) upd_same⟩
end
/-! ### a comprehension whose element draws from the bag -/
def LcEndB (D : Addr) (P : Nat → List V → Hp → Prop) (i : Nat) (y : V) (J : Hp) : Prop := ∃ acc, J D = some (.lst acc) ∧ acc.length < sizeLine ∧ ∃ ys, ys.length = i ∧ (upd J D (.lst (acc ++ [y]))) D = some (.lst ys) ∧ P i ys (upd J D (.lst (acc ++ [y])))
theorem lcEndB_mk {D : Addr} {P : Nat → List V → Hp → Prop} {i : Nat} {y : V} {J : Hp} {ys : List V} (h : J D = some (.lst ys)) (hl : ys.length = i) (hz : i ≤ 500) (q : ∀ J4, Pu D J J4 → J4 D = some (.lst (ys ++ [y])) → P (i + 1) (ys ++ [y]) J4) : LcEndB D P (i + 1) y J :=
  ⟨ys, h, small1000 (by omega), ys ++ [y], by rw [List.length_append, hl]; rfl, upd_same, q _ ⟨Kp.at, ⟨_, h⟩, ⟨_, upd_same⟩⟩ upd_same⟩
theorem lc_growB {g : TG} {te : TE} {vs : List Nat} {σ : L2.St} {H : Hp} {D : Addr} (P : Nat → List V → Hp → Prop) {n : Nat} {Qd : Hp → Prop} (h0 : P 0 [] (upd H D (.lst [])))
    (he : ∀ (i : Nat) ys J, i < n → ys.length = i → J D = some (.lst ys) → P i ys J → g (.int (0 + (i : Int))) (wipe σ vs) J fun σ2 J2 => wipe σ2 vs = wipe σ vs ∧ te σ2 J2 fun y J3 => LcEndB D P (i + 1) y J3)
    (hd : ∀ ys J, ys.length = n → J D = some (.lst ys) → P n ys J → Qd J) : Lc (Itr 0 n) g tYes te vs σ Qd H D := by
  refine lc_range (fun i J => ∃ ys, ys.length = i ∧ J D = some (.lst ys) ∧ P i ys J) ⟨[], rfl, upd_same, h0⟩ (fun i J hi w => ?_) fun J w => ?_
  · obtain ⟨ys, e, hJ, p⟩ := w
    exact he i ys J hi e hJ p
  · obtain ⟨ys, e, hJ, p⟩ := w
    exact hd ys J e hJ p
/-! ### what k06 keeps in view -/
structure St6 (K : PySem.W.Frag) (H : Hp) (b D p f : Addr) (ys ws : List V) (ls wl : List (Int × Int)) (m n : Int) (J : Hp) : Prop where
  kH : Kp b H J
  g : Bag b J
  eD : J D = some (.lst ys)
  ep : J p = some (.tup [.int m, .int n])
  ef : J f = some (.lst ws)
  ht : RtsAt K J ys ls
  tw : RtsAt K J ws wl
theorem St6.same {K : PySem.W.Frag} {H J M : Hp} {b D p f : Addr} {ys ws : List V} {ls wl : List (Int × Int)} {m n : Int} (S : St6 K H b D p f ys ws ls wl m n J) (s : Same J M) : St6 K H b D p f ys ws ls wl m n M :=
  ⟨S.kH.trans (Kp.of s), S.g.same s, s _ _ S.eD, s _ _ S.ep, s _ _ S.ef, S.ht.mono fun p xs h => s _ _ h, S.tw.mono fun p xs h => s _ _ h⟩
theorem cut_take {xs : List V} {c : Nat} (h : c ≤ xs.length) : cutV xs none (some (c : Int)) = xs.take c := by
  unfold cutV
  rw [HT.sIx_nat, HT.sIx_none, Nat.min_eq_left h]
  rfl
theorem RtsAt.three {K : PySem.W.Frag} {H : Hp} {rs : List V} {l : List (Int × Int)} (t : RtsAt K H rs l) (hz : 3 ≤ rs.length) : ∃ q1 q2 q3 x1 y1 x2 y2 x3 y3, rs.take 3 = [.ref q1, .ref q2, .ref q3] ∧ Ra K H q1 x1 y1 ∧ Ra K H q2 x2 y2 ∧ Ra K H q3 x3 y3 ∧ Bd 110 x1 ∧ Bd 110 y1 ∧ Bd 110 x2 ∧ Bd 110 y2 ∧ Bd 110 x3 ∧ Bd 110 y3 := by
  cases t with
  | nil => simp at hz
  | cons h1 a1 b1 c1 d1 t =>
    cases t with
    | nil => simp at hz
    | cons h2 a2 b2 c2 d2 t =>
      cases t with
      | nil => simp at hz
      | cons h3 a3 b3 c3 d3 t => exact ⟨_, _, _, _, _, _, _, _, _, rfl, ra_of h1 a1 b1 (c1.mono (by decide)) (d1.mono (by decide)), ra_of h2 a2 b2 (c2.mono (by decide)) (d2.mono (by decide)), ra_of h3 a3 b3 (c3.mono (by decide)) (d3.mono (by decide)), c1, d1, c2, d2, c3, d3⟩
end Ob
namespace Ob
open PySem PySem.Spec PyProof.Rows L2
/-! ### own functions called by the names of their parameters alone -/
structure KB (fd : FuncData) (ps ks : List Str) (g : List Value → List Value) (gV : List V → List V) : Prop where
  to : ∀ (s : Shared) (ws : List Value), ws.length = ks.length → BindsTo s fd ⟨[], ks.zip ws⟩ (ps.zip (g ws))
  rel : ∀ {zs : List V} {ws : List Value}, Vals zs ws → zs.length = ks.length → Vals (gV zs) (g ws)
theorem Fun.kb {K : PySem.W.Frag} {x qual : Str} {st : Stmt} {f : Addr} {fd : FuncData} (F : Fun K x qual st f fd) {ps ks : List Str} {g : List Value → List Value} {gV : List V → List V}
    (h : ∀ (kV doc pm : Value) (an : Option Addr) (cdv ct : Value) (ws : List Value), ws.length = ks.length → bindArgs (PySem.W.fnOf x qual (defArgs st) (defBody st) (defScope st) .none kV doc pm an cdv ct) ⟨[], ks.zip ws⟩ = pure (ps.zip (g ws)))
    (r : ∀ {zs : List V} {ws : List Value}, Vals zs ws → zs.length = ks.length → Vals (gV zs) (g ws)) : KB fd ps ks g gV := by
  obtain ⟨oc, od, kV, doc, pm, an, c, ct, osl, rfl, look, code⟩ := F.ex
  exact ⟨fun s ws hl => .of_eq (h kV doc pm an c ct ws hl), r⟩
/-- reordering by places -/
def by_ {α : Type} [Inhabited α] (is : List Nat) (xs : List α) : List α := is.map fun i => xs.getD i default
def tCallK (m : Nat) (sp : Sp) (gV : List V → List V) (E : XK) (tk : TA) : TE := fun σ H Q => tk σ H fun zs H1 => zs.length = m ∧ sp (gV zs) H1 Q E
section
variable {K : PySem.W.Frag} {H : Hp} {σ : L2.St} {Q : VK} {tk : TA}
theorem rd_callK {m : Nat} {sp : Sp} {gV : List V → List V} {E : XK} (q : tk σ H fun zs H1 => zs.length = m ∧ sp (gV zs) H1 Q E) : tCallK m sp gV E tk σ H Q := q
theorem rd_kwl {zs : List V} {m : Nat} {A : Prop} (h : zs.length = m) (q : A) : zs.length = m ∧ A := ⟨h, q⟩
end
/-! ### lengths, by the numbers alone -/
section
variable {K : PySem.W.Frag} {H : Hp} {Q : VK}
end
end Ob
namespace Ob
open PySem PySem.Spec PyProof.Rows L2
/-! ### sets of cuts as truth over the units of a grain -/
def Frm (g : Nat) (f : Nat → Bool) (ss : List Sn) : Prop := 0 < g ∧ SnsOf g (rruns f g).reverse ss
def inB (ps : List (Nat × Nat)) (u : Nat) : Bool := ps.any fun r => decide (r.1 ≤ u) && decide (u < r.2)
theorem inB_iff {ps : List (Nat × Nat)} {u : Nat} : inB ps u = true ↔ In u ps := by
  unfold inB In
  rw [List.any_eq_true]
  constructor
  · rintro ⟨r, hr, h⟩
    rw [Bool.and_eq_true, decide_eq_true_eq, decide_eq_true_eq] at h
    exact ⟨r, hr, h⟩
  · rintro ⟨r, hr, h⟩
    exact ⟨r, hr, by rw [Bool.and_eq_true, decide_eq_true_eq, decide_eq_true_eq]; exact h⟩
theorem frm_of {g : Nat} {ps : List (Nat × Nat)} {ss : List Sn} (g0 : 0 < g) (a : Asc 0 ps) (bd : ∀ x ∈ ps, x.2 ≤ g) (s : SnsOf g ps ss) : Frm g (inB ps) ss := by
  have e : ps = (rruns (inB ps) g).reverse := asc_ext a (asc_rev (rruns_ok _ g)) fun u => by
    rw [in_rruns, inB_iff]
    refine ⟨fun h => ⟨?_, h⟩, fun h => h.2⟩
    obtain ⟨r, hr, h1, h2⟩ := h
    exact Nat.lt_of_lt_of_le h2 (bd r hr)
  exact ⟨g0, e ▸ s⟩
theorem rruns_congr {g : Nat} {f h : Nat → Bool} (e : ∀ u, u < g → f u = h u) : (rruns f g).reverse = (rruns h g).reverse :=
  asc_ext (asc_rev (rruns_ok f g)) (asc_rev (rruns_ok h g)) fun u => by
    rw [in_rruns, in_rruns]
    constructor
    · rintro ⟨a, b⟩
      exact ⟨a, by rw [← e u a]; exact b⟩
    · rintro ⟨a, b⟩
      exact ⟨a, by rw [e u a]; exact b⟩
theorem Frm.congr {g : Nat} {f h : Nat → Bool} {ss : List Sn} (k : Frm g f ss) (e : ∀ u, u < g → f u = h u) : Frm g h ss := ⟨k.1, rruns_congr e ▸ k.2⟩
theorem Frm.uniq {g : Nat} {f h : Nat → Bool} {ss ts : List Sn} (k : Frm g f ss) (l : Frm g h ts) (e : ∀ u, u < g → f u = h u) : ss = ts := sns_uniq k.1 (k.congr e).2 l.2
theorem low_inj {lo lo' g : Nat} {x y : Int} (h : IsLow (lo : Int) (g : Int) x y) (k : IsLow (lo' : Int) (g : Int) x y) : lo = lo' := by
  have e : (lo : Int) * y = (lo' : Int) * y := h.2.2.1.symm.trans k.2.2.1
  have := Int.eq_of_mul_eq_mul_right (show y ≠ 0 by have := h.1; omega) e
  omega
theorem sns_inj {g : Nat} : ∀ {ps qs : List (Nat × Nat)} {ss : List Sn}, SnsOf g ps ss → SnsOf g qs ss → ps = qs
  | _, _, _, .nil, .nil => rfl
  | _, _, _, .cons a b t, .cons a' b' t' => by rw [low_inj a a', low_inj b b', sns_inj t t']
theorem Frm.inj {g : Nat} {f h : Nat → Bool} {ss : List Sn} (k : Frm g f ss) (l : Frm g h ss) : ∀ u, u < g → f u = h u := by
  have e := sns_inj k.2 l.2
  intro u hu
  have a := in_rruns f g u
  have b := in_rruns h g u
  rw [e] at a
  rw [Bool.eq_iff_iff]
  constructor
  · intro z
    exact (b.mp (a.mpr ⟨hu, z⟩)).2
  · intro z
    exact (a.mp (b.mpr ⟨hu, z⟩)).2
theorem low_zero {g : Nat} (g0 : 0 < g) : IsLow ((0 : Nat) : Int) (g : Int) 0 1 := low_of (by decide) (by decide) (by simp) (by omega)
theorem low_full {g : Nat} (g0 : 0 < g) : IsLow (g : Int) (g : Int) 1 1 := low_of (by decide) (by decide) (by simp) (by omega)
theorem frm_all {g : Nat} (g0 : 0 < g) : Frm g (fun _ => true) [⟨0, 1, 1, 1⟩] := by
  refine (frm_of (ps := [(0, g)]) g0 (.cons (Nat.le_refl _) g0 .nil) (fun x hx => ?_) (.cons (low_zero g0) (low_full g0) .nil)).congr fun u hu => ?_
  · obtain rfl := List.mem_singleton.mp hx
    exact Nat.le_refl _
  · simp [inB, hu]
theorem frm_nil {g : Nat} (g0 : 0 < g) : Frm g (fun _ => false) [] := frm_of (ps := []) g0 .nil (fun x hx => by cases hx) .nil
theorem Frm.both {g : Nat} {f h : Nat → Bool} {ss ts : List Sn} (a : Frm g f ss) (b : Frm g h ts) : Frm g (fun u => f u && h u) (bothS ss ts) := ⟨a.1, both_form a.1 a.2 b.2⟩
theorem Frm.without {g : Nat} {f h : Nat → Bool} {ss ts : List Sn} (a : Frm g f ss) (b : Frm g h ts) : Frm g (fun u => f u && !h u) (bothS ss (gapsS (0, 1) ts)) := ⟨a.1, without_form a.1 a.2 b.2⟩
theorem cuts_of {g : Nat} (g0 : 0 < g) : ∀ {ps : List (Nat × Nat)} {ss : List Sn} {i : Nat}, Asc i ps → (∀ x ∈ ps, x.2 ≤ g) → SnsOf g ps ss → cutsB ss = true
  | _, _, _, _, _, .nil => rfl
  | _, _, _, h, bd, .cons (s := s) a b t => by
    cases h with
    | cons k lt r =>
      have ih := cuts_of g0 r (fun x hx => bd x (List.mem_cons_of_mem _ hx)) t
      unfold cutsB at ih ⊢
      rw [Bool.and_eq_true] at ih
      have ok : okS s = true := by
        have hb := bd _ List.mem_cons_self
        have e1 := a.2.2.1
        have e2 := b.2.2.1
        have y0 := a.1
        have v0 := b.1
        have x0 : 0 ≤ s.x := by
          have h1 : 0 ≤ s.x * (g : Int) := by rw [e1]; exact Int.mul_nonneg (by omega) (by omega)
          exact Int.nonneg_of_mul_nonneg_left h1 (by omega)
        have u1 : s.u ≤ s.v := by
          have h1 : s.u * (g : Int) ≤ s.v * (g : Int) := by
            rw [e2, Int.mul_comm s.v]
            exact Int.mul_le_mul_of_nonneg_right (by exact_mod_cast hb) (by omega)
          exact Int.le_of_mul_le_mul_right h1 (by omega)
        have l := (low_lt a b g0).mpr lt
        unfold okS
        simp [l]
        omega
      rw [Bool.and_eq_true]
      refine ⟨by simp [ok]; simpa using ih.1, ?_⟩
      cases t with
      | nil => simp
      | cons a' b' t' =>
        cases r with
        | cons k' lt' r' =>
          have l := (low_lt b a' g0).mpr (by omega)
          have ih2 := ih.2
          simp [okN, l] at ih2 ⊢
          exact ih2
theorem Frm.cuts {g : Nat} {f : Nat → Bool} {ss : List Sn} (h : Frm g f ss) : cutsB ss = true := cuts_of h.1 (asc_rev (rruns_ok f g)) (fun x hx => (rruns_ok f g).bnd x (List.mem_reverse.mp hx)) h.2
theorem Frm.has {g : Nat} {f : Nat → Bool} {ss : List Sn} (h : Frm g f ss) {x y : Int} (x0 : 0 ≤ x) (xy : x < y) (gg : Int.gcd x y = 1) : ∃ u : Nat, u < g ∧ ∀ {f' : Nat → Bool} {ts : List Sn}, Frm g f' ts → ts.any (hasS x y) = f' u := by
  have g0 := h.1
  have y0 : 0 < y := by omega
  have q0 : 0 ≤ x * g / y := Int.ediv_nonneg (Int.mul_nonneg x0 (by omega)) (by omega)
  have ql : x * g / y < g := by
    refine (Int.ediv_lt_iff_lt_mul y0).mpr ?_
    rw [Int.mul_comm (g : Int) y]
    exact Int.mul_lt_mul_of_pos_right xy (by omega)
  obtain ⟨u, hu⟩ := Int.eq_ofNat_of_zero_le q0
  refine ⟨u, by omega, fun {f' ts} k => ?_⟩
  have e := Int.emod_add_mul_ediv (x * g) y
  have low : IsLow ((u : Int) * y + (x * g) % y) ((g : Int) * y) x y := by
    refine low_of y0 gg ?_ (Int.mul_ne_zero (by omega) (by omega))
    rw [← hu]
    grind
  have hf := has_form low (by omega) y0 (Int.emod_nonneg _ (by omega)) (Int.emod_lt_of_pos _ y0) k.2
  rw [Bool.eq_iff_iff, hf]
  have m := in_rruns f' g u
  constructor
  · rintro ⟨r, hr, h1, h2⟩
    exact (m.mp ⟨r, hr, by omega, by omega⟩).2
  · intro z
    obtain ⟨r, hr, h1, h2⟩ := m.mpr ⟨by omega, z⟩
    exact ⟨r, hr, by omega, by omega⟩
/-! ### lengths -/
theorem Frm.empty {g : Nat} {f : Nat → Bool} {ss : List Sn} (h : Frm g f ss) : ss = [] ↔ ∀ u, u < g → f u = false := by
  constructor
  · rintro rfl u hu
    exact h.inj (frm_nil h.1) u hu
  · intro z
    exact h.uniq (frm_nil h.1) z
theorem Frm.same {g : Nat} {f h : Nat → Bool} {ss ts : List Sn} (a : Frm g f ss) (b : Frm g h ts) : ss = ts ↔ ∀ u, u < g → f u = h u := by
  constructor
  · rintro rfl
    exact a.inj b
  · exact a.uniq b
/-! ### lists of spans compared -/
instance : DecidableEq Sn := fun s t => decidable_of_iff (s.x = t.x ∧ s.y = t.y ∧ s.u = t.u ∧ s.v = t.v) ⟨fun ⟨a, b, c, d⟩ => by cases s; cases t; simp only at a b c d; subst a b c d; rfl, fun e => by subst e; exact ⟨rfl, rfl, rfl, rfl⟩⟩
section
variable {K : PySem.W.Frag} {H : Hp} {a b : Addr} {rs zs : List V} {ss ts : List Sn} {Q : VK}
end
end Ob
namespace Ob
open PySem PySem.Spec PyProof.Rows L2
/-! ### three sets of cuts put together and taken away -/
theorem Frm.ends {g : Nat} {f : Nat → Bool} {ss : List Sn} (a : Frm g f ss) : ∀ s ∈ ss, 0 ≤ s.x ∧ s.x < s.y := by
  obtain ⟨g0, k⟩ := a
  have hb : ∀ r ∈ (rruns f g).reverse, r.1 < r.2 ∧ r.2 ≤ g := fun r hr => ⟨(rruns_ok f g).pos r (List.mem_reverse.mp hr), (rruns_ok f g).bnd r (List.mem_reverse.mp hr)⟩
  generalize (rruns f g).reverse = ps at k hb
  induction k with
  | nil => intro s hs; cases hs
  | @cons lo hi ps s0 ss h k t ih =>
    intro s hs
    rcases List.mem_cons.mp hs with rfl | hs
    · have q := hb _ List.mem_cons_self
      have q1 : lo < hi := q.1
      have q2 : hi ≤ g := q.2
      have y0 := h.1
      have e := h.2.2.1
      constructor
      · have h1 : 0 ≤ s.x * (g : Int) := by rw [e]; exact Int.mul_nonneg (by omega) (by omega)
        exact Int.nonneg_of_mul_nonneg_left h1 (by omega)
      · have h1 : s.x * (g : Int) < s.y * (g : Int) := by
          rw [e, Int.mul_comm s.y]
          exact Int.mul_lt_mul_of_pos_right (by omega) y0
        exact Int.lt_of_mul_lt_mul_right h1 (by omega)
    · exact ih (fun r hr => hb r (List.mem_cons_of_mem _ hr)) s hs
/-! ### a set of cuts at an address -/
def SetA (K : PySem.W.Frag) (H : Hp) (l : Addr) (ss : List Sn) (m G : Nat) : Prop := ∃ rs, H l = some (.lst rs) ∧ SnsAt K H rs ss ∧ rs.length ≤ m ∧ ∃ g f, Frm g f ss ∧ g ≤ 2 ^ G
section
variable {K : PySem.W.Frag} {H J : Hp} {a b l D : Addr} {ss ts : List Sn} {m n G G' : Nat} {xs : List V} {σ : L2.St} {te : TE} {g : TG} {vs : List Nat}
theorem SetA.same (s : Same H J) (h : SetA K H l ss m G) : SetA K J l ss m G := by
  obtain ⟨rs, e, t, n, k⟩ := h
  exact ⟨rs, s _ _ e, t.mono fun p xs h => sqt_same s h, n, k⟩
theorem SetA.kp (k : Kp b H J) (gb : Bag b H) (nb : l ≠ b) (h : SetA K H l ss m G) : SetA K J l ss m G := by
  obtain ⟨rs, e, t, n, z⟩ := h
  exact ⟨rs, k _ _ nb e, t.mono fun p xs h => sqt_bag k gb h, n, z⟩
theorem SetA.up (h : SetA K H l ss m G) (a : m ≤ n) (b : G ≤ G') : SetA K H l ss n G' := by
  obtain ⟨rs, e, t, r, g, f, z, w⟩ := h
  exact ⟨rs, e, t, Nat.le_trans r a, g, f, z, Nat.le_trans w (Nat.pow_le_pow_right (by decide) b)⟩
/-- [f(x) for x in t], t a tuple; f may lay objects -/
theorem lc_growT (P : List V → Hp → Prop) {Qd : Hp → Prop} (hT : ∀ J, Kp D H J → SqT K J a xs) (hl : xs.length ≤ 500) (hD : H D = none) (h0 : ∀ J, Kp D H J → P [] J)
    (he : ∀ (i : Nat) x ys J, xs[i]? = some x → i ≤ 500 → ys.length = i → Kp D H J → J D = some (.lst ys) → P ys J → g x (wipe σ vs) J fun σ2 J2 => wipe σ2 vs = wipe σ vs ∧ te σ2 J2 fun y J3 => LcEnd D H P (i + 1) y J3)
    (hd : ∀ ys J, ys.length = xs.length → Kp D H J → J D = some (.lst ys) → P ys J → Qd J) : Lc (Itt K a) g tYes te vs σ Qd H D := by
  refine lc_tup (xs := xs) (fun i J => ∃ ys, ys.length = i ∧ Kp D H J ∧ J D = some (.lst ys) ∧ P ys J) ⟨[], rfl, Kp.new hD, upd_same, h0 _ (Kp.new hD)⟩ (fun i J _ w => ?_) (fun i x J hx w => ?_) fun J w => ?_
  · obtain ⟨ys, _, k, _⟩ := w
    exact hT J k
  · obtain ⟨ys, e, k, hJ, p⟩ := w
    have lt : i < xs.length := (List.getElem?_eq_some_iff.mp hx).1
    exact he i x ys J hx (by omega) e k hJ p
  · obtain ⟨ys, e, k, hJ, p⟩ := w
    exact hd ys J e k hJ p
/-- what the loop over cuts goes through -/
def CutV (K : PySem.W.Frag) (H : Hp) (v : V) : Prop := ∃ p x y, v = .ref p ∧ Ra K H p x y ∧ 0 ≤ x ∧ x < y
theorem CutV.same (s : Same H J) {v : V} (h : CutV K H v) : CutV K J v := by
  obtain ⟨p, x, y, e, r, z⟩ := h
  exact ⟨p, x, y, e, r.mono fun xs h => sqt_same s h, z⟩
end
end Ob
namespace Ob
open PySem PySem.Spec PyProof.Rows L2
/-! ### zip(list, tuple) -/
def ItzM (K : PySem.W.Frag) (a b : Addr) : It :=
  ⟨fun n H => ∃ (us ws : List V) (u w : V), SqL K H a us ∧ SqT K H b ws ∧ us[n]? = some u ∧ ws[n]? = some w,
    fun n H v J => ∃ T u w, v = .ref T ∧ H T = none ∧ J = upd H T (.tup [u, w]) ∧ (∀ us, SqL K H a us → us[n]? = some u) ∧ ∀ ws, SqT K H b ws → ws[n]? = some w,
    fun n H => ∃ us ws : List V, SqL K H a us ∧ SqT K H b ws ∧ n ≤ us.length ∧ n ≤ ws.length ∧ (n = us.length ∨ n = ws.length)⟩
theorem sep_of {z p q k m a b : Addr} (D : ZipApart z p q k m a b) : ZipSep2 z p q k m [k, a] [m, b] :=
  ⟨D.TIz, D.TOz, D.TITO, D.TIi1, by simp, by simp [D.i1z.symm, D.l1z.symm], by simp [D.TOi1, D.l1TO.symm], D.TIi2, by simp, by simp [D.i2z.symm, D.l2z.symm], by simp [D.TOi2, D.l2TO.symm], by simp [D.i12, D.l2i1.symm], by simp [D.i12.symm, D.l1i2.symm]⟩
abbrev fp5 (z p q k m : Addr) : List Addr := [z, p, q, k, m]
theorem off5 {z p q k m c : Addr} (h : c ∉ fp5 z p q k m) : c ≠ z ∧ c ≠ q ∧ c ≠ k ∧ c ≠ m := by
  simp only [fp5, List.mem_cons, List.not_mem_nil, or_false, not_or] at h
  exact ⟨h.1, h.2.2.1, h.2.2.2.1, h.2.2.2.2⟩
theorem turn_zipM {P : Program} {w : World} {K : PySem.W.Frag} {elts : List Expr} {kk : Nat} {tpos : PySem.Pos} {a b z p q k m : Addr} (D : ZipApart z p q k m a b) :
    Turn P w K (.Tuple elts kk tpos) (ItzM K a b) (fp5 z p q k m) z (fun n h => (IsZip h z p q .none ∧ IsPair h p (.ref k) (.ref m)) ∧ (∃ u v, IsPair h q u v) ∧ h.IsListIter k a n ∧ h.IsTupleIter m b n) where
  mem := by simp [fp5]
  obj := fun n h st c hc => by
    obtain ⟨⟨hz, hp⟩, ⟨u, v, hq⟩, ⟨o1, e1, _, d1⟩, ⟨o2, e2, _, d2⟩⟩ := st
    have hc2 : c = z ∨ c = p ∨ c = q ∨ c = k ∨ c = m := by simpa [fp5] using hc
    rcases hc2 with rfl | rfl | rfl | rfl | rfl
    · exact ⟨_, hz, fun _ r => nomatch r⟩
    · exact ⟨_, hp, fun _ r => nomatch r⟩
    · exact ⟨_, hq, fun _ r => nomatch r⟩
    · exact ⟨o1, e1, fun _ r => by rw [d1] at r; cases r⟩
    · exact ⟨o2, e2, fun _ r => by rw [d2] at r; cases r⟩
  keep := fun n h h' st kp => by
    obtain ⟨⟨hz, hp⟩, ⟨u, v, hq⟩, hk, hm⟩ := st
    have kz := kp z (by simp [fp5])
    have kp' := kp p (by simp [fp5])
    have kq := kp q (by simp [fp5])
    exact ⟨⟨kz _ hz, kp' _ hp⟩, ⟨u, v, kq _ hq⟩, hk.at fun o r => kp k (by simp [fp5]) o r, hm.at fun o r => kp m (by simp [fp5]) o r⟩
  item := by
    intro X eP ew eK hc n pins s σ H E I hf st hg
    subst eP ew eK
    obtain ⟨⟨hz, hp⟩, ⟨u0, v0, hq⟩, hk, hm⟩ := st
    obtain ⟨us, ws, u, w, qa, qb, eu, ew⟩ := hg
    obtain ⟨is1, rv1, p1, _⟩ := I.list qa
    obtain ⟨is2, rv2, p2, _⟩ := I.tuple qb
    obtain ⟨x, hx, rx⟩ := rv1.get eu
    obtain ⟨y, hy, ry⟩ := rv2.get ew
    have hh : X.A.in1.handled = none := I.ok.hd hc
    have D1 := Draws.list (prog := X.prog) (w := X.w) hh k a D.l1i1 is1.toArray
    have D2 := Draws.tuple (prog := X.prog) (w := X.w) hh m b D.l2i2 is2.toArray
    have zl : z < s.heap.objs.size := Heap.lt_size hz
    have n1 : n < is1.toArray.size := by
      have := (List.getElem?_eq_some_iff.mp hx).1
      simpa using this
    have n2 : n < is2.toArray.size := by
      have := (List.getElem?_eq_some_iff.mp hy).1
      simpa using this
    refine wpAny_pyNext_zipD2_item (sep_of D) D1 D2 hz hp hq ⟨hk, p1.isList⟩ ⟨hm, p2⟩ n1 n2 fun x1 x2 h' tk g1 g2 hz' hq' st1 st2 hT hsz kp => ?_
    have ex : x1 = x := by
      have g1' : is1[n]? = some x1 := by simpa using g1
      exact Option.some.inj (g1'.symm.trans hx)
    have ey : x2 = y := by
      have g2' : is2[n]? = some x2 := by simpa using g2
      exact Option.some.inj (g2'.symm.trans hy)
    subst ex ey
    refine ⟨_, rfl, wpAny_letOwnedTupleGo_zip (s := { s with heap := h', toks := tk }) hz' fun g gz sb => ?_⟩
    have hT2 : g.get? s.heap.objs.size = some { cls := .type "tuple", data := .seq #[x1, x2] } := (sb.2 _ (Nat.ne_of_gt zl)).trans hT
    have laid : ObjOk X.prog X.w (upd H s.heap.objs.size (.tup [u, w])) g s.heap.objs.size (.tup [u, w]) :=
      ⟨by show 2 ≤ sizeLine; decide, [x1, x2], .cons rx (.cons ry .nil), ⟨_, hT2, rfl, _, rfl⟩⟩
    have I2 : Inv X pins σ (upd H s.heap.objs.size (.tup [u, w])) { s with heap := g, toks := tk } :=
      I.turnedNew (t' := tk) (ch := fp5 z p q k m) (fun c o hb r => (sb.2 c (off5 hb).1).trans (kp c o (off5 hb).1 (off5 hb).2.1 (off5 hb).2.2.1 (off5 hb).2.2.2 r)) hf (Nat.le_refl _) laid
    refine ⟨.ref s.heap.objs.size, _, I2, rfl, ⟨_, u, w, rfl, I.hok.fresh (Nat.le_refl _), rfl, fun l hl => by rw [I.list_inj hl qa]; exact eu, fun l hl => by rw [I.tuple_inj hl qb]; exact ew⟩, ⟨⟨gz, ?_⟩, ⟨x1, x2, ?_⟩, ?_, ?_⟩, fun c hcm => ?_⟩
    · exact (sb.2 _ D.TIz).trans (kp _ _ D.TIz D.TITO D.TIi1 D.TIi2 hp)
    · exact (sb.2 _ D.TOz).trans hq'
    · exact st1.1.at fun o r => (sb.2 _ D.i1z).trans r
    · exact st2.1.at fun o r => (sb.2 _ D.i2z).trans r
    · obtain ⟨o, eo⟩ : ∃ o, s.heap.get? c = some o := by
        have hc2 : c = z ∨ c = p ∨ c = q ∨ c = k ∨ c = m := by simpa [fp5] using hcm
        rcases hc2 with rfl | rfl | rfl | rfl | rfl
        · exact ⟨_, hz⟩
        · exact ⟨_, hp⟩
        · exact ⟨_, hq⟩
        · obtain ⟨o, e, _⟩ := hk
          exact ⟨o, e⟩
        · obtain ⟨o, e, _⟩ := hm
          exact ⟨o, e⟩
      rw [upd_ne (Nat.ne_of_lt (Heap.lt_size eo))]
      exact (hf c hcm).1
  done := by
    intro X eP ew eK hc n pins s σ H E I hf st hg
    subst eP ew eK
    obtain ⟨⟨hz, hp⟩, ⟨u0, v0, hq⟩, hk, hm⟩ := st
    obtain ⟨us, ws, qa, qb, le1, le2, hend⟩ := hg
    obtain ⟨is1, rv1, p1, _⟩ := I.list qa
    obtain ⟨is2, rv2, p2, _⟩ := I.tuple qb
    have hh : X.A.in1.handled = none := I.ok.hd hc
    have D1 := Draws.list (prog := X.prog) (w := X.w) hh k a D.l1i1 is1.toArray
    have D2 := Draws.tuple (prog := X.prog) (w := X.w) hh m b D.l2i2 is2.toArray
    have s1 : is1.toArray.size = us.length := by
      have := rv1.length
      simp
      omega
    have s2 : is2.toArray.size = ws.length := by
      have := rv2.length
      simp
      omega
    exact wpAny_pyNext_zipD2_end (sep_of D) D1 D2 hz hp hq ⟨hk, p1.isList⟩ ⟨hm, p2⟩ (by omega) (by omega) (by omega) fun h' tk kp => ⟨rfl, I.turnedL (t' := tk) (ch := fp5 z p q k m) (fun c o hb r => kp c o (off5 hb).1 (off5 hb).2.1 (off5 hb).2.2.1 (off5 hb).2.2.2 r) hf⟩
  self := fun A n s Q E st h => wpAny_pyIter_zip st.1.1 h
def iZipM (K : PySem.W.Frag) (ta : TA) : TI := fun σ H R => ta σ H fun vs J => ∃ a b us ws, vs = [.ref a, .ref b] ∧ (SqL K J a us ∧ SqT K J b ws) ∧ R (ItzM K a b) J
theorem pi_zipM {X : Cx} {e1 e2 : Expr} {ta : TA} {ps qs ts : PySem.Pos} {elts : List Expr} {kk : Nat} (gl : Gl X "zip") (hm : X.mg "zip" = none) (ha : PA X [e1, e2] ta)
    (hse : starEach [e1, e2] X.env = (false, eval e1 X.env) :: starEach [e2] X.env := by rfl) (hpn : (backTo qs (starEach [e2] X.env)).any (·.1) = false := by rfl) :
    PI X (.Tuple elts kk ts) (.Call (.Name "zip" ps) [e1, e2] [] qs) (iZipM X.K ta) := by
  refine ⟨fun pins s σ H R I h => Call_ (ld_blt I gl hm PyProof.Rows.boot_zip (PyProof.Rows.callWith_type1 (thn (ha.run qs pins s σ H _ I h) fun us s1 w => ?_) hse hpn))⟩
  obtain ⟨vs, J, I1, rv, a, b, xs, ys, rfl, ⟨qa, qb⟩, q⟩ := w
  obtain ⟨u, us, rfl⟩ : ∃ u t, us = u :: t := by
    cases rv
    exact ⟨_, _, rfl⟩
  cases rv with
  | cons ra rv =>
  obtain ⟨w2, us, rfl⟩ : ∃ u t, us = u :: t := by
    cases rv
    exact ⟨_, _, rfl⟩
  cases rv with
  | cons rb rv =>
  cases rv
  cases ra
  cases rb
  obtain ⟨is1, rv1, p1, _⟩ := I1.list qa
  obtain ⟨is2, rv2, p2, _⟩ := I1.tuple qb
  obtain ⟨o2, ho2, _⟩ := id p2
  refine zip_begins2 (begins_list a is1.toArray) (begins_tuple b is2.toArray) p1.isList p2 fun h' hz hp hq g1 g2 hsz kp => wpAny_pyIter_zip hz ?_
  have D := PySem.W.ktu_apart s1.heap.objs.size a b p1.lt (Heap.lt_size ho2)
  refine ⟨s1.heap.objs.size + 4, fp5 (s1.heap.objs.size + 4) (s1.heap.objs.size + 2) (s1.heap.objs.size + 3) s1.heap.objs.size (s1.heap.objs.size + 1), _, _, J, rfl, I1.kept (t' := s1.toks) kp, turn_zipM D, ⟨⟨hz, hp⟩, ⟨_, _, hq⟩, ⟨_, g1, rfl, rfl⟩, ⟨_, g2, rfl, rfl⟩⟩, fun c hcm => ?_, q⟩
  have le : s1.heap.objs.size ≤ c := by
    simp only [fp5, List.mem_cons, List.not_mem_nil, or_false] at hcm
    rcases hcm with rfl | rfl | rfl | rfl | rfl
    · exact Nat.le_add_right _ _
    · exact Nat.le_add_right _ _
    · exact Nat.le_add_right _ _
    · exact Nat.le_refl _
    · exact Nat.le_add_right _ _
  exact I1.fpOk le (I1.hok.fresh le)
theorem piZM {X : Cx} {K : PySem.W.Frag} (h : X.K = K) {e1 e2 : Expr} {ta : TA} {ps qs ts : PySem.Pos} {elts : List Expr} {kk : Nat} (gl : Gl X "zip") (hm : X.mg "zip" = none) (ha : PA X [e1, e2] ta)
    (hse : starEach [e1, e2] X.env = (false, eval e1 X.env) :: starEach [e2] X.env := by rfl) (hpn : (backTo qs (starEach [e2] X.env)).any (·.1) = false := by rfl) :
    PI X (.Tuple elts kk ts) (.Call (.Name "zip" ps) [e1, e2] [] qs) (iZipM K ta) := h ▸ pi_zipM gl hm ha hse hpn
end Ob
namespace Ob
open PySem PySem.Spec PyProof.Rows L2
/-! ### repr of data with texts -/
mutual
def szT : PyData → Nat
  | .none => 4
  | .bool _ => 5
  | .int i => i.natAbs.log2 + 2
  | .str x => (reprText x).length
  | .list xs => szsT xs + 2
  | .tuple xs => szsT xs + 2
  | .dict _ => 0
def szsT : List PyData → Nat
  | [] => 0
  | x :: xs => szT x + 2 + szsT xs
end
mutual
def smT : PyData → Bool
  | .none => true
  | .bool _ => true
  | .int i => decide (i.natAbs.log2 < 1900)
  | .str _ => true
  | .list xs => smsT xs
  | .tuple xs => smsT xs
  | .dict _ => false
def smsT : List PyData → Bool
  | [] => true
  | x :: xs => smT x && smsT xs
end
mutual
theorem shownT_le : ∀ d : PyData, smT d = true → d.shown.length ≤ szT d ∧ d.showable = true ∧ d.hasDict = false
  | .none, _ => ⟨by decide +kernel, by simp [PyData.showable], by simp [PyData.hasDict]⟩
  | .bool b, _ => ⟨by cases b <;> decide +kernel, by simp [PyData.showable], by simp [PyData.hasDict]⟩
  | .int i, h => by
    have h1 : i.natAbs.log2 < 1900 := by simpa [smT] using h
    refine ⟨?_, by simp [PyData.showable]; omega, by simp [PyData.hasDict]⟩
    have e := int_text_length_le (a := i) (k := i.natAbs.log2 + 1) (by omega) (by omega)
    have e3 : (PyData.int i).shown = Str.ofString (toString i) := by simp only [PyData.shown]
    rw [e3, PySem.ofString_length, szT]
    omega
  | .str x, _ => ⟨by simp [PyData.shown, szT], by simp [PyData.showable], by simp [PyData.hasDict]⟩
  | .dict _, h => by simp [smT] at h
  | .list xs, h => by
    have q := shownsT_le xs (by simpa [smT] using h)
    refine ⟨?_, by simp [PyData.showable, q.2.1], by simp [PyData.hasDict, q.2.2]⟩
    have e := list_le (PyData.shownAll xs)
    simp only [PyData.shown, szT]
    omega
  | .tuple xs, h => by
    have q := shownsT_le xs (by simpa [smT] using h)
    refine ⟨?_, by simp [PyData.showable, q.2.1], by simp [PyData.hasDict, q.2.2]⟩
    have e := fmt_text (PyData.shownAll xs)
    simp only [PyData.shown, szT]
    omega
theorem shownsT_le : ∀ xs : List PyData, smsT xs = true → piled (PyData.shownAll xs) ≤ szsT xs ∧ PyData.showableAll xs = true ∧ PyData.hasDictAll xs = false
  | [], _ => ⟨Nat.zero_le _, by simp [PyData.showableAll], by simp [PyData.hasDictAll]⟩
  | x :: xs, h => by
    have h2 : smT x = true ∧ smsT xs = true := by simpa [smsT] using h
    have p := shownT_le x h2.1
    have q := shownsT_le xs h2.2
    refine ⟨?_, by simp [PyData.showableAll, p.2.1, q.2.1], by simp [PyData.hasDictAll, p.2.2, q.2.2]⟩
    have e : PyData.shownAll (x :: xs) = x.shown :: PyData.shownAll xs := by simp only [PyData.shownAll]
    rw [e, piled_cons, szsT]
    omega
end
/-- repr of an int, None, a truth value, or data at an address -/
def rReprT (K : PySem.W.Frag) : List V → Hp → VK → Prop := fun xs H Q => (∃ i : Int, xs = [.int i] ∧ i.natAbs.log2 < 1920 ∧ Q (.str (toString i)) H) ∨ (xs = [.non] ∧ Q (.str "None") H) ∨
  ∃ (a : Addr) (d : PyData), xs = [.ref a] ∧ Dp K H (.ref a) d ∧ smT d = true ∧ szT d ≤ 1000000 ∧ d.depth ≤ 50 ∧ Q (.str d.shown) H
section
variable {X : Cx} {K : PySem.W.Frag}
theorem cr_reprT (hg : X.A.guards = some []) (hu : X.A.units + 64 < cLine) : CallR X (.builtin "repr") (rReprT X.K) := by
  intro pins s σ H xs us Q I r h
  rcases h with h | ⟨rfl, q⟩ | ⟨a, d, rfl, hd, hs, hz, hp, q⟩
  · exact SkE.call_repr_int pins s σ H xs us Q I r h
  · obtain ⟨u, rfl, t⟩ := vals1 r
    cases t
    exact PySem.P.repr_of_none ⟨.str _, H, I.tok _, ⟨_, rfl⟩, q⟩
  · obtain ⟨u, rfl, ru⟩ := vals1 r
    cases ru
    obtain ⟨as, rd⟩ := Dp.reads I d _ _ hd rfl
    obtain ⟨h1, h2, h3⟩ := shownT_le d hs
    exact repr_of_reads' rd h2 (PyData.noDict_hsm h3) hg (by omega) (fun _ _ e => e) (fun h' u tk k => ⟨.str _, H, I.kept k, ⟨_, rfl⟩, q⟩) (Nat.le_trans h1 (Nat.le_trans hz (by decide)))
theorem reprT (h : X.K = K) (hg : X.A.guards = some []) (hu : X.A.units + 64 < cLine) : CallR X (.builtin "repr") (rReprT K) := h ▸ cr_reprT hg hu
theorem rd_reprTD {H : Hp} {Q : VK} {a : Addr} {d : PyData} (h : Dp K H (.ref a) d) (h1 : smT d = true) (h2 : szT d ≤ 1000000) (h3 : d.depth ≤ 50) (q : Q (.str d.shown) H) : rReprT K [.ref a] H Q := .inr (.inr ⟨a, d, rfl, h, h1, h2, h3, q⟩)
theorem rd_reprTN {H : Hp} {Q : VK} (q : Q (.str "None") H) : rReprT K [.non] H Q := .inr (.inl ⟨rfl, q⟩)
/-! ### divmod, tuple(x), what is never reached -/
def rDm : List V → Hp → VK → Prop := fun xs H Q => ∃ i j : Int, xs = [.int i, .int j] ∧ 0 < j ∧ j.natAbs < 2 ^ 9000 ∧ kT Q [.int (i / j), .int (i % j)] H
theorem cr_dm : CallR X (.builtin "divmod") rDm := by
  intro pins s σ H xs us Q I r h
  obtain ⟨i, j, e, j0, jb, _, q⟩ := h
  exact call_divmodW pins s σ H xs us Q I r ⟨i, j, e, ⟨j0, PyProof.noPylong_of_log2 (PySem.Flt.log2_lt_of (by decide) jb)⟩, q⟩
theorem rd_dm {H : Hp} {Q : VK} {i j : Int} (j0 : 0 < j) (jb : j.natAbs < 2 ^ 9000) (q : ∀ p J, H p = none → Same H J → J p = some (.tup [.int (i / j), .int (i % j)]) → Q (.ref p) J) : rDm [.int i, .int j] H Q := ⟨i, j, rfl, j0, jb, rd_kT rfl q⟩
def rTupL (K : PySem.W.Frag) : List V → Hp → VK → Prop := fun xs H Q => ∃ p ys, xs = [.ref p] ∧ ((SqL K H p ys ∧ ∀ l, H l = none → Q (.ref l) (upd H l (.tup ys))) ∨ (SqT K H p ys ∧ Q (.ref p) H))
theorem tupK (h : X.K = K) : CallR X (.type "tuple") (rTupL K) := h ▸ call_tuple_of
theorem rd_tupL {H : Hp} {Q : VK} {p : Addr} {ys : List V} (h : SqL K H p ys) (q : ∀ l J, H l = none → Same H J → J l = some (.tup ys) → Q (.ref l) J) : rTupL K [.ref p] H Q := ⟨p, ys, rfl, .inl ⟨h, fun l nl => q l _ nl (same_new nl) upd_same⟩⟩
theorem ps_dead {st : Stmt} : PS X st (fun _ _ _ => False) := ⟨fun _ _ _ _ _ _ h => h.elim⟩
end
section
variable {K : PySem.W.Frag} {H : Hp} {σ : L2.St} {a : Addr} {xs : List V} {g : TG}
theorem rd_forT {tl : TE} {tb : TS} {E : Ends} (q : tl σ H fun x H1 => ∃ a, x = .ref a ∧ (∃ xs, SqT K H1 a xs) ∧ Lp (Itt K a) g tb E σ H1) : tFor (iTup K tl) g tb E σ H := q
theorem lp_tup {tb : TS} {E : Ends} (Pv : Nat → L2.St → Hp → Prop) (h0 : Pv 0 σ H) (hl : ∀ i σ H, i ≤ xs.length → Pv i σ H → SqT K H a xs)
    (hs : ∀ i x σ H, xs[i]? = some x → Pv i σ H → g x σ H fun σ2 H2 => tb { E with nx := Pv (i + 1), ct := Pv (i + 1), bk := E.nx } σ2 H2) (hd : ∀ σ H, Pv xs.length σ H → E.nx σ H) : Lp (Itt K a) g tb E σ H := for_tup Pv h0 hl hs hd
theorem rd_iZM {ta : TA} {R : It → Hp → Prop} (q : ta σ H fun vs J => ∃ a b us ws, vs = [.ref a, .ref b] ∧ (SqL K J a us ∧ SqT K J b ws) ∧ R (ItzM K a b) J) : iZipM K ta σ H R := q
/-- over zip(list, tuple) of one length -/
theorem lc_zipM {te : TE} {vs : List Nat} {b D : Addr} {ys : List V} (P : List V → Hp → Prop) {Qd : Hp → Prop} (ha : H a = some (.lst xs)) (hb : H b = some (.tup ys)) (hxy : xs.length = ys.length) (hl : xs.length ≤ 500) (hD : H D = none) (h0 : ∀ J, Kp D H J → P [] J)
    (hP : ∀ zs J J', Same J J' → P zs J → P zs J')
    (he : ∀ (i : Nat) x y zs J T, xs[i]? = some x → ys[i]? = some y → i ≤ 500 → zs.length = i → Kp D H J → J D = some (.lst zs) → P zs J → J T = some (.tup [x, y]) → g (.ref T) (wipe σ vs) J fun σ2 J2 => wipe σ2 vs = wipe σ vs ∧ te σ2 J2 fun y J3 => LcEnd D H P (i + 1) y J3)
    (hd : ∀ zs J, zs.length = xs.length → Kp D H J → J D = some (.lst zs) → P zs J → Qd J) : Lc (ItzM K a b) g tYes te vs σ Qd H D := by
  have na : a ≠ D := ne_of_none ha hD
  have nb : b ≠ D := ne_of_none hb hD
  let W : Nat → Hp → Prop := fun i J => ∃ zs, zs.length = i ∧ Kp D H J ∧ J D = some (.lst zs) ∧ P zs J
  refine ⟨fun i m J => m = xs.length - i ∧ i ≤ xs.length ∧ W i J, ⟨_, rfl, Nat.zero_le _, [], rfl, Kp.new hD, upd_same, h0 _ (Kp.new hD)⟩, ?_⟩
  rintro i m J ⟨rfl, le, zs, e, k, hJ, p⟩
  have qa : SqL K J a xs := SqL.of (k a _ na ha)
  have qb : SqT K J b ys := SqT.of (k b _ nb hb)
  by_cases lt : i < xs.length
  · have hx : xs[i]? = some xs[i] := List.getElem?_eq_getElem lt
    have hy : ys[i]? = some ys[i] := List.getElem?_eq_getElem (by omega)
    refine .inr ⟨⟨xs, ys, _, _, qa, qb, hx, hy⟩, W (i + 1), fun J' w => ⟨xs.length - (i + 1), by omega, rfl, by omega, w⟩, fun v J' y => ?_⟩
    obtain ⟨T, x', y', rfl, nT, rfl, fx, fy⟩ := y
    have kT : Kp D H (upd J T (.tup [x', y'])) := k.trans (Kp.new nT)
    exact he i x' y' zs _ T (fx xs qa) (fy ys qb) (by omega) e kT (new_any nT hJ) (hP _ _ _ (same_new nT) p) upd_same
  · have ei : i = xs.length := by omega
    exact .inl ⟨⟨xs, ys, qa, qb, by omega, by omega, .inl ei⟩, hd zs J (by omega) k hJ p⟩
end
end Ob
namespace Ob
open PySem PySem.Spec PyProof.Rows L2
/-! ### entries: what they give, over a grain -/
structure Ent where
  first : Nat
  many : Nat
  am : List (Int × Int)
/-- the units of an amount -/
def unit (G : Nat) (r : Int × Int) : Int := r.1 * (G : Int) / r.2
def uts (G : Nat) (e : Ent) : List Int := e.am.map (unit G)
def Fits (G : Nat) (am : List (Int × Int)) : Prop := ∀ r ∈ am, 0 < r.2 ∧ r.2 ∣ (G : Int)
theorem unit_eq {G : Nat} {r : Int × Int} (h : r.2 ∣ (G : Int)) : unit G r * r.2 = r.1 * (G : Int) := Int.ediv_mul_cancel (Int.dvd_mul_of_dvd_right h)
/-- the sum of the first n of a pattern that goes on and on -/
def rnd (us : List Int) (n : Nat) : Int := ((n / us.length : Nat) : Int) * us.sum + (us.take (n % us.length)).sum
theorem take_succ_sum (us : List Int) (i : Nat) : (us.take (i + 1)).sum = (us.take i).sum + us.getD i 0 := by
  rw [List.take_add_one, List.sum_append]
  cases e : us[i]? with
  | none => simp [List.getD, e]
  | some x => simp [List.getD, e]
def bE (G : Nat) (e : Ent) (d : Nat) : Int := rnd (uts G e) (min (d - e.first) e.many)
def uE (G : Nat) (e : Ent) (d : Nat) : Int := if e.first ≤ d ∧ d < e.first + e.many then (uts G e).getD ((d - e.first) % e.am.length) 0 else 0
theorem uts_len (G : Nat) (e : Ent) : (uts G e).length = e.am.length := List.length_map ..
def bS (G : Nat) (es : List Ent) (d : Nat) : Int := (es.map fun e => bE G e d).sum
def uS (G : Nat) (es : List Ent) (d : Nat) : Int := (es.map fun e => uE G e d).sum
/-! what often each amount comes -/
def dotF (f : Nat → Int) : List Int → Int
  | [] => 0
  | u :: us => u * f 0 + dotF (fun i => f (i + 1)) us
theorem dotF_const (q : Int) : ∀ us : List Int, dotF (fun _ => q) us = q * us.sum
  | [] => by simp [dotF]
  | u :: us => by rw [dotF, dotF_const q us, List.sum_cons, Int.mul_add, Int.mul_comm u q]
theorem dotF_times (q : Int) : ∀ (us : List Int) (r : Nat), dotF (fun i => if i < r then q + 1 else q) us = q * us.sum + (us.take r).sum
  | [], r => by simp [dotF]
  | u :: us, 0 => by
    have e : (fun i : Nat => if i < 0 then q + 1 else q) = fun _ => q := funext fun i => if_neg (by omega)
    rw [e, dotF_const]
    simp
  | u :: us, r + 1 => by
    have e : (fun i : Nat => if i + 1 < r + 1 then q + 1 else q) = fun i => if i < r then q + 1 else q := funext fun i => by
      by_cases c : i < r
      · rw [if_pos c, if_pos (by omega)]
      · rw [if_neg c, if_neg (by omega)]
    rw [dotF, if_pos (by omega), e, dotF_times q us r, List.sum_cons, List.take_succ_cons, List.sum_cons, Int.mul_add, Int.mul_add]
    rw [Int.mul_comm u q]
    omega
def dots (f : Nat → Int) (us : List Int) : List Int := (List.range us.length).map fun i => us.getD i 0 * f i
theorem dots_sum : ∀ (f : Nat → Int) (us : List Int), (dots f us).sum = dotF f us
  | f, [] => by simp [dots, dotF]
  | f, u :: us => by
    have ih := dots_sum (fun i => f (i + 1)) us
    unfold dots at ih ⊢
    rw [List.length_cons, List.range_succ_eq_map, List.map_cons, List.map_map, List.sum_cons, dotF, ← ih]
    congr 1
theorem dots_len (f : Nat → Int) (us : List Int) : (dots f us).length = us.length := by simp [dots]
theorem dots_get {f : Nat → Int} {us : List Int} {i : Nat} {u : Int} (h : us[i]? = some u) : (dots f us)[i]? = some (u * f i) := by
  have lt := (List.getElem?_eq_some_iff.mp h).1
  unfold dots
  rw [List.getElem?_map, List.getElem?_range lt]
  simp [List.getD, h]
/-! bounds -/
theorem bd_sum {n : Nat} : ∀ {us : List Int}, (∀ u ∈ us, Bd n u) → us.sum.natAbs ≤ us.length * 2 ^ n
  | [], _ => by simp
  | u :: us, h => by
    have ih := bd_sum (us := us) fun x hx => h x (List.mem_cons_of_mem _ hx)
    have h1 := h u List.mem_cons_self
    unfold Bd at h1
    rw [List.sum_cons, List.length_cons, Nat.succ_mul]
    have := Int.natAbs_add_le u us.sum
    omega
theorem bd_sums {n m : Nat} {us : List Int} (h : ∀ u ∈ us, Bd n u) (l : us.length < 2 ^ m) : Bd (m + n) us.sum := by
  have := bd_sum h
  unfold Bd
  rw [Nat.pow_add]
  exact Nat.lt_of_le_of_lt this (Nat.mul_lt_mul_of_pos_right l (Nat.pow_pos (by decide)))
theorem natAbs_ediv_le (u : Int) {v : Int} (h : 0 < v) : (u / v).natAbs ≤ u.natAbs := by
  have := natAbs_fdiv_le u h
  rwa [Int.fdiv_eq_ediv_of_nonneg u (by omega)] at this
theorem unit_bd {G n m : Nat} {r : Int × Int} (h : 0 < r.2) (a : Bd n r.1) (g : G < 2 ^ m) : Bd (n + m) (unit G r) := by
  have h1 : Bd (n + m) (r.1 * (G : Int)) := a.mul (by unfold Bd; omega)
  exact h1.le (natAbs_ediv_le _ h)
/-! ### entries at addresses -/
inductive AmsAt (H : Hp) : List V → List (Int × Int) → Prop
  | nil : AmsAt H [] []
  | cons {p : Addr} {rs : List V} {x y : Int} {l : List (Int × Int)} (h : H p = some (.tup [.int x, .int y])) (y0 : 0 < y) (g : Int.gcd x y = 1) (bx : Bd 20 x) (bu : Bd 20 y) (t : AmsAt H rs l) : AmsAt H (.ref p :: rs) ((x, y) :: l)
def EntAt (H : Hp) (v : V) (e : Ent) : Prop := ∃ p a rs, v = .ref p ∧ H p = some (.tup [.str "entry", .int (e.first : Int), .int (e.many : Int), .ref a]) ∧ H a = some (.tup rs) ∧ AmsAt H rs e.am ∧ e.am ≠ [] ∧ e.am.length ≤ 4 ∧ e.first + e.many ≤ 10 ^ 30 ∧ 1 ≤ e.many
inductive EntsAt (H : Hp) : List V → List Ent → Prop
  | nil : EntsAt H [] []
  | cons {v : V} {vs : List V} {e : Ent} {es : List Ent} (h : EntAt H v e) (t : EntsAt H vs es) : EntsAt H (v :: vs) (e :: es)
section
variable {K : PySem.W.Frag} {H J : Hp}
theorem AmsAt.mono (m : ∀ p xs, H p = some (.tup xs) → J p = some (.tup xs)) : ∀ {rs : List V} {l : List (Int × Int)}, AmsAt H rs l → AmsAt J rs l
  | _, _, .nil => .nil
  | _, _, .cons h a b c d t => .cons (m _ _ h) a b c d (t.mono m)
theorem AmsAt.len : ∀ {rs : List V} {l : List (Int × Int)}, AmsAt H rs l → rs.length = l.length
  | _, _, .nil => rfl
  | _, _, .cons _ _ _ _ _ t => by rw [List.length_cons, List.length_cons, t.len]
theorem AmsAt.get : ∀ {rs : List V} {l : List (Int × Int)}, AmsAt H rs l → ∀ {i : Nat} {v : V}, rs[i]? = some v → ∃ p x y, v = .ref p ∧ l[i]? = some (x, y) ∧ H p = some (.tup [.int x, .int y]) ∧ 0 < y ∧ Int.gcd x y = 1 ∧ Bd 20 x ∧ Bd 20 y
  | _, _, .nil, i, v, e => by simp at e
  | _, _, .cons h a b c d t, 0, v, e => by
    simp at e
    exact ⟨_, _, _, e.symm, rfl, h, a, b, c, d⟩
  | _, _, .cons h a b c d t, i + 1, v, e => by
    simp at e
    obtain ⟨p, x, y, e1, e2, e3⟩ := t.get e
    exact ⟨p, x, y, e1, by simpa using e2, e3⟩
theorem AmsAt.snoc {p : Addr} {x y : Int} (h : H p = some (.tup [.int x, .int y])) (y0 : 0 < y) (g : Int.gcd x y = 1) (bx : Bd 20 x) (bu : Bd 20 y) : ∀ {rs : List V} {l : List (Int × Int)}, AmsAt H rs l → AmsAt H (rs ++ [.ref p]) (l ++ [(x, y)])
  | _, _, .nil => .cons h y0 g bx bu .nil
  | _, _, .cons a b c d e t => .cons a b c d e (t.snoc h y0 g bx bu)
theorem AmsAt.bds : ∀ {rs : List V} {l : List (Int × Int)}, AmsAt H rs l → ∀ r ∈ l, 0 < r.2 ∧ Int.gcd r.1 r.2 = 1 ∧ Bd 20 r.1 ∧ Bd 20 r.2
  | _, _, .nil => fun r hr => by cases hr
  | _, _, .cons _ a b c d t => fun r hr => by
    rcases List.mem_cons.mp hr with rfl | hr
    · exact ⟨a, b, c, d⟩
    · exact t.bds r hr
theorem AmsAt.dp : ∀ {rs : List V} {l : List (Int × Int)}, AmsAt H rs l → DpAll K H rs (l.map ratD)
  | _, _, .nil => .nil
  | _, _, .cons h _ _ _ _ t => .cons (.tup (SqT.of h) (.cons (.int _) (.cons (.int _) .nil))) t.dp
theorem EntAt.mono (m : ∀ p xs, H p = some (.tup xs) → J p = some (.tup xs)) {v : V} {e : Ent} (h : EntAt H v e) : EntAt J v e := by
  obtain ⟨p, a, rs, e1, h1, h2, h3, r⟩ := h
  exact ⟨p, a, rs, e1, m _ _ h1, m _ _ h2, h3.mono m, r⟩
theorem EntsAt.mono (m : ∀ p xs, H p = some (.tup xs) → J p = some (.tup xs)) : ∀ {vs : List V} {es : List Ent}, EntsAt H vs es → EntsAt J vs es
  | _, _, .nil => .nil
  | _, _, .cons h t => .cons (h.mono m) (t.mono m)
theorem EntsAt.len : ∀ {vs : List V} {es : List Ent}, EntsAt H vs es → vs.length = es.length
  | _, _, .nil => rfl
  | _, _, .cons _ t => by rw [List.length_cons, List.length_cons, t.len]
theorem EntsAt.get : ∀ {vs : List V} {es : List Ent}, EntsAt H vs es → ∀ {i : Nat} {v : V}, vs[i]? = some v → ∃ e, es[i]? = some e ∧ EntAt H v e
  | _, _, .nil, i, v, e => by simp at e
  | _, _, .cons h t, 0, v, e => by
    simp at e
    subst e
    exact ⟨_, rfl, h⟩
  | _, _, .cons h t, i + 1, v, e => by
    simp at e
    obtain ⟨x, e1, e2⟩ := t.get e
    exact ⟨x, by simpa using e1, e2⟩
theorem EntsAt.snoc {v : V} {e : Ent} (h : EntAt H v e) : ∀ {vs : List V} {es : List Ent}, EntsAt H vs es → EntsAt H (vs ++ [v]) (es ++ [e])
  | _, _, .nil => .cons h .nil
  | _, _, .cons a t => .cons a (t.snoc h)
theorem EntsAt.all : ∀ {vs : List V} {es : List Ent}, EntsAt H vs es → ∀ e ∈ es, e.am ≠ [] ∧ e.am.length ≤ 4 ∧ e.first + e.many ≤ 10 ^ 30 ∧ 1 ≤ e.many ∧ ∀ r ∈ e.am, 0 < r.2 ∧ Int.gcd r.1 r.2 = 1 ∧ Bd 20 r.1 ∧ Bd 20 r.2
  | _, _, .nil => fun e he => by cases he
  | _, _, .cons h t => fun e he => by
    rcases List.mem_cons.mp he with rfl | he
    · obtain ⟨p, a, rs, _, _, _, am, h1, h2, h3, h4⟩ := h
      exact ⟨h1, h2, h3, h4, am.bds⟩
    · exact t.all e he
def entD (e : Ent) : PyData := .tuple [.str "entry", .int (e.first : Int), .int (e.many : Int), .tuple (e.am.map ratD)]
theorem EntsAt.dp : ∀ {vs : List V} {es : List Ent}, EntsAt H vs es → DpAll K H vs (es.map entD)
  | _, _, .nil => .nil
  | _, _, .cons h t => by
    obtain ⟨p, a, rs, rfl, h1, h2, h3, _⟩ := h
    exact .cons (.tup (SqT.of h1) (.cons (.str _) (.cons (.int _) (.cons (.int _) (.cons (.tup (SqT.of h2) h3.dp) .nil))))) t.dp
/-! ### fractions to be added -/
inductive FrsAt (K : PySem.W.Frag) (H : Hp) (G : Nat) : List V → List Int → Prop
  | nil : FrsAt K H G [] []
  | cons {p : Addr} {rs : List V} {x y u : Int} {us : List Int} (h : SqT K H p [.int x, .int y]) (y0 : 0 < y) (e : x * (G : Int) = u * y) (bx : Bd 1500 x) (bu : Bd 1500 y) (t : FrsAt K H G rs us) : FrsAt K H G (.ref p :: rs) (u :: us)
theorem FrsAt.mono {G : Nat} (m : ∀ p xs, SqT K H p xs → SqT K J p xs) : ∀ {rs : List V} {us : List Int}, FrsAt K H G rs us → FrsAt K J G rs us
  | _, _, .nil => .nil
  | _, _, .cons h a b c d t => .cons (m _ _ h) a b c d (t.mono m)
theorem FrsAt.len {G : Nat} : ∀ {rs : List V} {us : List Int}, FrsAt K H G rs us → rs.length = us.length
  | _, _, .nil => rfl
  | _, _, .cons _ _ _ _ _ t => by rw [List.length_cons, List.length_cons, t.len]
theorem FrsAt.get {G : Nat} : ∀ {rs : List V} {us : List Int}, FrsAt K H G rs us → ∀ {i : Nat} {v : V}, rs[i]? = some v → ∃ p x y u, v = .ref p ∧ us[i]? = some u ∧ SqT K H p [.int x, .int y] ∧ 0 < y ∧ x * (G : Int) = u * y ∧ Bd 1500 x ∧ Bd 1500 y
  | _, _, .nil, i, v, e => by simp at e
  | _, _, .cons h a b c d t, 0, v, e => by
    simp at e
    exact ⟨_, _, _, _, e.symm, rfl, h, a, b, c, d⟩
  | _, _, .cons h a b c d t, i + 1, v, e => by
    simp at e
    obtain ⟨p, x, y, u, e1, e2, e3⟩ := t.get e
    exact ⟨p, x, y, u, e1, by simpa using e2, e3⟩
theorem FrsAt.snoc {G : Nat} {p : Addr} {x y u : Int} (h : SqT K H p [.int x, .int y]) (y0 : 0 < y) (e : x * (G : Int) = u * y) (bx : Bd 1500 x) (bu : Bd 1500 y) : ∀ {rs : List V} {us : List Int}, FrsAt K H G rs us → FrsAt K H G (rs ++ [.ref p]) (us ++ [u])
  | _, _, .nil => .cons h y0 e bx bu .nil
  | _, _, .cons a b c d f t => .cons a b c d f (t.snoc h y0 e bx bu)
end
theorem lc_sig {J : It} {g : TG} {tt : TT} {te : TE} {vs : List Nat} {σ τ : L2.St} {Qd : Hp → Prop} {H1 : Hp} {D : Addr} (e : σ = τ) (q : Lc J g tt te vs τ Qd H1 D) : Lc J g tt te vs σ Qd H1 D := e ▸ q
theorem bE_bd {G : Nat} {e : Ent} {d : Nat} (l4 : e.am.length ≤ 4) (h : ∀ r ∈ e.am, 0 < r.2 ∧ Bd 20 r.1) (g : G < 2 ^ 500) (m30 : e.many ≤ 10 ^ 30) : Bd 640 (bE G e d) := by
  have hu : ∀ u ∈ uts G e, Bd 520 u := fun u hu => by
    obtain ⟨r, hr, rfl⟩ := List.mem_map.mp hu
    exact unit_bd (h r hr).1 (h r hr).2 g
  have s1 : Bd (3 + 520) (uts G e).sum := bd_sums hu (by rw [uts_len]; omega)
  have hn : min (d - e.first) e.many ≤ 10 ^ 30 := by omega
  unfold bE rnd
  generalize min (d - e.first) e.many = N at hn
  have s2 : Bd (3 + 520) ((uts G e).take (N % (uts G e).length)).sum := bd_sums (fun u k => hu u (List.mem_of_mem_take k)) (by rw [List.length_take, uts_len]; omega)
  have q1 : Bd 100 ((N / (uts G e).length : Nat) : Int) := by
    have h := Nat.div_le_self N (uts G e).length
    unfold Bd
    rw [Int.natAbs_natCast]
    exact Nat.lt_of_le_of_lt h (by omega)
  exact ((q1.mul s1).add (s2.mono (by decide))).mono (by decide)
theorem bS_bd {G : Nat} {es : List Ent} {d : Nat} (l : es.length ≤ 10) (h : ∀ e ∈ es, e.am.length ≤ 4 ∧ e.many ≤ 10 ^ 30 ∧ ∀ r ∈ e.am, 0 < r.2 ∧ Bd 20 r.1) (g : G < 2 ^ 500) : Bd 650 (bS G es d) := by
  have hu : ∀ u ∈ es.map (fun e => bE G e d), Bd 640 u := fun u hu => by
    obtain ⟨e, he, rfl⟩ := List.mem_map.mp hu
    exact bE_bd (h e he).1 (h e he).2.2 g (h e he).2.1
  exact (bd_sums (m := 4) hu (by rw [List.length_map]; omega)).mono (by decide)
/-- a list of entries at an address, and a grain that fits them -/
def Led (H : Hp) (l : Addr) (es : List Ent) (G : Nat) : Prop := ∃ vs, H l = some (.lst vs) ∧ EntsAt H vs es ∧ (∀ e ∈ es, Fits G e.am) ∧ 0 < G ∧ G < 2 ^ 500 ∧ vs.length ≤ 10
section
variable {H J : Hp} {l b : Addr} {es : List Ent} {G : Nat}
theorem Led.same (s : Same H J) (h : Led H l es G) : Led J l es G := by
  obtain ⟨vs, e, t, r⟩ := h
  exact ⟨vs, s _ _ e, t.mono fun p xs h => s _ _ h, r⟩
theorem Led.kp (k : Kp b H J) (gb : Bag b H) (nb : l ≠ b) (h : Led H l es G) : Led J l es G := by
  obtain ⟨vs, e, t, r⟩ := h
  exact ⟨vs, k _ _ nb e, t.mono fun p xs h => k.tup gb h, r⟩
theorem Led.pos (h : Led H l es G) : 0 < G := by
  obtain ⟨vs, e, t, f, g, r⟩ := h
  exact g
theorem Led.lt (h : Led H l es G) : G < 2 ^ 500 := by
  obtain ⟨vs, e, t, f, g, r, _⟩ := h
  exact r
theorem Led.bd (h : Led H l es G) (d : Nat) : Bd 650 (bS G es d) := by
  obtain ⟨vs, e, t, f, g, r, n⟩ := h
  have al := t.all
  have ln := t.len
  exact bS_bd (by omega) (fun e he => ⟨(al e he).2.1, by have := (al e he).2.2.1; omega, fun r hr => ⟨((al e he).2.2.2.2 r hr).1, ((al e he).2.2.2.2 r hr).2.2.1⟩⟩) r
end
theorem low_neg {t m n x y : Int} {g : Nat} (h : IsLow t (g : Int) m n) (l : IsLow (0 * n - m * 1) (1 * n) x y) (g0 : 0 < g) : IsLow (-t) (g : Int) x y := by
  refine low_of l.1 l.2.1 ?_ (by omega)
  have e1 := h.2.2.1
  have e2 := l.2.2.1
  have n0 := h.1
  refine Int.eq_of_mul_eq_mul_right (show n ≠ 0 by omega) ?_
  grind
theorem low_mod {t x y : Int} {g : Nat} (h : IsLow t (g : Int) x y) (g0 : 0 < g) : IsLow (t.fmod (g : Int)) (g : Int) (x.fmod y) y := by
  obtain ⟨y0, gg, e, b1, b2⟩ := h
  have d : y ∣ (g : Int) := by
    have : y ∣ x * (g : Int) := ⟨t, by rw [e, Int.mul_comm]⟩
    exact dvd_gcd1 gg this
  obtain ⟨k, ek⟩ := d
  have k0 : 0 < k := Int.pos_of_mul_pos_right (show 0 < y * k by omega) (by omega)
  have et : t = x * k := by
    refine Int.eq_of_mul_eq_mul_right (show y ≠ 0 by omega) ?_
    rw [← e, ek]
    grind
  refine low_of y0 ?_ ?_ (by omega)
  · rw [Int.gcd_comm, gcd_turn]
    exact gg
  · rw [Int.fmod_eq_emod_of_nonneg _ (by omega), Int.fmod_eq_emod_of_nonneg _ (by omega), ek, et, Int.mul_comm x k, Int.mul_comm y k, Int.mul_emod_mul_of_pos _ _ k0]
    grind
/-! ### what the drawing of a ledger keeps -/
def Kd (b D : Addr) (H J : Hp) : Prop := ∀ a o, a ≠ b → a ≠ D → H a = some o → J a = some o
section
variable {K : PySem.W.Frag} {H J M : Hp} {a b D p : Addr} {xs : List V}
theorem Kd.start (o : HO) : Kd b D H (upd H D o) := fun a u _ n e => by rw [upd_ne n]; exact e
theorem Kd.kp (k : Kd b D H J) (h : Kp b J M) : Kd b D H M := fun a o n1 n2 e => h _ _ n1 (k a o n1 n2 e)
theorem Kd.same (k : Kd b D H J) (h : Same J M) : Kd b D H M := fun a o n1 n2 e => h _ _ (k a o n1 n2 e)
theorem Kd.pu (k : Kd b D H J) (h : Pu D J M) : Kd b D H M := fun a o n1 n2 e => h.1 _ _ n2 (k a o n1 n2 e)
theorem Kd.tup (k : Kd b D H J) (gb : Bag b H) (nD : H D = none) (e : H a = some (.tup xs)) : J a = some (.tup xs) := k a _ (fun z => by
  obtain ⟨x, y, q⟩ := gb
  subst z
  cases e.symm.trans q) (ne_of_none e nD) e
theorem Kd.of (k : Kd b D H J) (nD : H D = none) : Kp b H J := fun a o n e => k a o n (ne_of_none e nD) e
end
/-! ### the least common grain -/
theorem lcm_at (G U : Nat) : ((G : Int) * (U : Int)).fdiv ((Int.gcd (G : Int) (U : Int) : Nat) : Int) = ((Nat.lcm G U : Nat) : Int) := by
  rw [Int.fdiv_eq_ediv_of_nonneg _ (by omega)]
  have e : Int.gcd (G : Int) (U : Int) = Nat.gcd G U := rfl
  rw [e]
  unfold Nat.lcm
  push_cast
  rfl
theorem lcm_le {G U a b : Nat} (g0 : 0 < G) (h : G ≤ 2 ^ a) (u0 : 0 < U) (k : U ≤ 2 ^ b) : 0 < Nat.lcm G U ∧ Nat.lcm G U ≤ 2 ^ (a + b) := by
  refine ⟨Nat.lcm_pos g0 u0, ?_⟩
  have h1 : Nat.lcm G U ≤ G * U := Nat.le_of_dvd (Nat.mul_pos g0 u0) (Nat.lcm_dvd (Nat.dvd_mul_right _ _) (Nat.dvd_mul_left _ _))
  rw [Nat.pow_add]
  exact Nat.le_trans h1 (Nat.mul_le_mul h k)
theorem Fits.up {G G' : Nat} {am : List (Int × Int)} (h : Fits G am) (d : G ∣ G') : Fits G' am := fun r hr => ⟨(h r hr).1, Int.dvd_trans (h r hr).2 (Int.natCast_dvd_natCast.mpr d)⟩
/-! ### statements -/
structure Stm where
  first : Nat
  many : Nat
  num : Int
def StmAt (H : Hp) (v : V) (s : Stm) : Prop := ∃ p, v = .ref p ∧ H p = some (.tup [.str "statement", .int (s.first : Int), .int (s.many : Int), .int s.num])
inductive StmsAt (H : Hp) : List V → List Stm → Prop
  | nil : StmsAt H [] []
  | cons {v : V} {vs : List V} {s : Stm} {ss : List Stm} (h : StmAt H v s) (t : StmsAt H vs ss) : StmsAt H (v :: vs) (s :: ss)
theorem StmAt.mono {H J : Hp} (m : ∀ p xs, H p = some (.tup xs) → J p = some (.tup xs)) {v : V} {s : Stm} (h : StmAt H v s) : StmAt J v s := by
  obtain ⟨p, e1, h1⟩ := h
  exact ⟨p, e1, m _ _ h1⟩
theorem StmsAt.mono {H J : Hp} (m : ∀ p xs, H p = some (.tup xs) → J p = some (.tup xs)) : ∀ {vs : List V} {es : List Stm}, StmsAt H vs es → StmsAt J vs es
  | _, _, .nil => .nil
  | _, _, .cons h t => .cons (h.mono m) (t.mono m)
theorem StmsAt.snoc {H : Hp} {v : V} {e : Stm} (h : StmAt H v e) : ∀ {vs : List V} {es : List Stm}, StmsAt H vs es → StmsAt H (vs ++ [v]) (es ++ [e])
  | _, _, .nil => .cons h .nil
  | _, _, .cons a t => .cons a (t.snoc h)
theorem StmsAt.len {H : Hp} : ∀ {vs : List V} {es : List Stm}, StmsAt H vs es → vs.length = es.length
  | _, _, .nil => rfl
  | _, _, .cons _ t => by rw [List.length_cons, List.length_cons, t.len]
theorem StmsAt.get {H : Hp} : ∀ {vs : List V} {es : List Stm}, StmsAt H vs es → ∀ {i : Nat} {v : V}, vs[i]? = some v → ∃ e, es[i]? = some e ∧ StmAt H v e
  | _, _, .nil, i, v, e => by simp at e
  | _, _, .cons h t, 0, v, e => by
    simp at e
    subst e
    exact ⟨_, rfl, h⟩
  | _, _, .cons h t, i + 1, v, e => by
    simp at e
    obtain ⟨x, e1, e2⟩ := t.get e
    exact ⟨x, by simpa using e1, e2⟩
def toldN (G : Nat) (es : List Ent) (u : Int) (i n : Nat) : Int := (bS G es (i + n) + u).fdiv (G : Int) - (bS G es i + u).fdiv (G : Int)
/-- what is drawn: entries, statements, a last day, a grain -/
structure Case (K : PySem.W.Frag) (H : Hp) (l s : Addr) (es : List Ent) (ss : List Stm) (last G : Nat) : Prop where
  led : Led H l es G
  g : G ≤ 2 ^ 320
  len : es.length ≤ 4
  first : ∀ e ∈ es, e.first + e.many ≤ last + 1
  lo : 2 ≤ last
  hi : last ≤ 13
  at_ : ∃ ws, H s = some (.lst ws) ∧ StmsAt H ws ss
  stm : ∀ x ∈ ss, 1 ≤ x.many ∧ x.first + x.many ≤ last + 1 ∧ Bd 700 x.num
theorem Case.same {K : PySem.W.Frag} {H J : Hp} {l s : Addr} {es : List Ent} {ss : List Stm} {last G : Nat} (h : Same H J) (c : Case K H l s es ss last G) : Case K J l s es ss last G :=
  ⟨c.led.same h, c.g, c.len, c.first, c.lo, c.hi, let ⟨ws, e, t⟩ := c.at_; ⟨ws, h _ _ e, t.mono fun p xs z => h _ _ z⟩, c.stm⟩
theorem Case.kp {K : PySem.W.Frag} {H J : Hp} {l s b : Addr} {es : List Ent} {ss : List Stm} {last G : Nat} (k : Kp b H J) (gb : Bag b H) (nl : l ≠ b) (ns : s ≠ b) (c : Case K H l s es ss last G) : Case K J l s es ss last G :=
  ⟨c.led.kp k gb nl, c.g, c.len, c.first, c.lo, c.hi, let ⟨ws, e, t⟩ := c.at_; ⟨ws, k _ _ ns e, t.mono fun p xs z => k.tup gb z⟩, c.stm⟩
theorem kl_tup {H J : Hp} {c a : Addr} {zs xs : List V} (k : Kp c H J) (hc : H c = some (.lst zs)) (e : H a = some (.tup xs)) : J a = some (.tup xs) := k a _ (fun z => by
  subst z
  cases hc.symm.trans e) e
theorem Case.kl {K : PySem.W.Frag} {H J : Hp} {l s c : Addr} {es : List Ent} {ss : List Stm} {last G : Nat} {zs : List V} (k : Kp c H J) (hc : H c = some (.lst zs)) (nl : l ≠ c) (ns : s ≠ c) (h : Case K H l s es ss last G) : Case K J l s es ss last G :=
  ⟨let ⟨ws, e, t, r⟩ := h.led; ⟨ws, k _ _ nl e, t.mono fun p xs z => kl_tup k hc z, r⟩, h.g, h.len, h.first, h.lo, h.hi, let ⟨ws, e, t⟩ := h.at_; ⟨ws, k _ _ ns e, t.mono fun p xs z => kl_tup k hc z⟩, h.stm⟩
theorem Bag.kl {H J : Hp} {b c : Addr} (k : Kp c H J) (n : b ≠ c) (g : Bag b H) : Bag b J := by
  obtain ⟨x, y, e⟩ := g
  exact ⟨x, y, k _ _ n e⟩
/-- how it is told in lowest terms by anyone -/
theorem low_same {t t' x y x' y' : Int} {g : Nat} (h : IsLow t (g : Int) x y) (k : IsLow t' (g : Int) x' y') (g0 : 0 < g) (e : t = t') : x = x' ∧ y = y' := by
  subst e
  exact low_uniq h k (by omega) (by omega) rfl
theorem rd_extK {H : Hp} {Q : VK} {l c : Addr} {xs zs : List V} (h : H l = some (.lst xs)) (k : H c = some (.lst zs)) (hz : xs.length + zs.length ≤ 1000) (q : ∀ J, Pu l H J → J l = some (.lst (xs ++ zs)) → Q .non J) : rExtend (.ref l) [.ref c] H Q :=
  ⟨l, c, xs, zs, rfl, rfl, h, k, Nat.le_of_lt (small1000 hz), q _ ⟨Kp.at, ⟨_, h⟩, ⟨_, upd_same⟩⟩ upd_same⟩
end Ob
namespace Ob
open PySem PySem.Spec PyProof.Rows L2
/-! ### set(a list of ints), and sorted of it -/
/-- the first i of the numbers as a set, of some size -/
def Some' (w : World) (h : Heap) (a : Addr) (val : Nat → Int) (i : Nat) : Prop := ∃ m, m ≤ i ∧ SetR w h a (fun k => ((List.range i).map val).any (· == k)) m
section
variable {P : Program} {w : World} {A : Around} {R : Result → Shared → Prop} {I S : Addr} {fp wr : List Addr} {G : Array GenState → Array GenState → Prop} {n : Nat} {Pv : Nat → Value → Prop} {St : Nat → Shared → Prop}
theorem update_loopR (W : WalksS P w A.in1 I fp wr G n Pv St) (off : S ∉ fp) (val : Nat → Int) (hv : ∀ i v, Pv i v → ∃ t, v = .int (val i) t) (hb : n + 1 < scanBound) :
    ∀ (k i : Nat) (s : Shared), n - i = k → i ≤ n → St i s → Some' w s.heap S val i → (∀ s', Moved (S :: wr) G s s' → Some' w s'.heap S val n → R (.ok (.ret .none)) s') →
      codeAny (model P w) A (.builtin "set.update.loop" ⟨[.ref S, .ref I], []⟩) R s := by
  have off2 : S ∉ wr := fun z => off (W.sub _ z)
  have more : ∀ b ∈ wr, b ∈ S :: wr := fun b z => List.mem_cons_of_mem _ z
  have still : ∀ {i : Nat} {s s' : Shared}, Moved wr G s s' → Some' w s.heap S val i → Some' w s'.heap S val i := fun {i s s'} m q => by
    obtain ⟨c, le, r⟩ := q
    exact ⟨c, le, r.at fun o e => m.heap S o off2 e⟩
  intro k
  induction k with
  | zero =>
    intro i s ek hi st q hR
    obtain rfl : i = n := by omega
    refine codeAny_builtin F.entry_set_update_loop ?_; rw [Around.under_plainId F.plain_set_update_loop _]
    show wpAny _ A.in1 (pyNext (.ref I) >>= _) _ _ s; refine wpAny_bind (W.done s _ _ st fun s' m => ?_)
    show wpAny _ A.in1 (ret Value.none) _ _ s'; exact wpAny_pure (hR s' (m.mono more) (still m q))
  | succ k ih =>
    intro i s ek hi st q hR
    have lt : i < n := by omega
    refine codeAny_builtin F.entry_set_update_loop ?_; rw [Around.under_plainId F.plain_set_update_loop _]
    show wpAny _ A.in1 (pyNext (.ref I) >>= _) _ _ s; refine wpAny_bind (W.item i s _ _ lt st fun v s' pv st' m => ?_)
    obtain ⟨t, rfl⟩ := hv i v pv
    obtain ⟨c, le, r⟩ := still m q
    show wpAny _ A.in1 (holding [Value.int (val i) t] (setAdd S (.int (val i) t)) >>= _) _ _ s'; refine wpAny_bind (wpAny_holding ?_)
    unfold setAdd; refine wpAny_holding ?_; refine wpAny_bind ((intKind P w).pyHash (k := val i) (intKind_is _ _ _ _) ?_)
    refine setR_add_hashed (s := { s' with toks := s'.toks + 1 }) r (by omega) fun h' sb r2 => ?_
    have q2 : Some' w h' S val (i + 1) := by
      refine ⟨_, ?_, SetR.congr r2 fun k' => ?_⟩
      · split <;> omega
      · rw [List.range_succ, List.map_append, List.any_append]
        by_cases e : k' = val i
        · subst e
          simp
        · have e2 : (val i == k') = false := by simpa [beq_iff_eq] using fun z : val i = k' => e z.symm
          simp [e, e2]
    refine wpAny_pure ⟨plainId_quiet F.plain_set_update_loop _, ih (i + 1) _ (by omega) lt (W.frame _ s' _ _ st' (Nat.le_succ _) fun b z o e => ?_) q2 fun s'' m2 q3 => ?_⟩
    · rw [sb.2 b (fun z2 : b = S => off (z2 ▸ z))]; exact e
    · refine hR s'' (Moved.trans W.gtrans ((m.mono more).then_heap (Nat.le_succ _) fun b o z e => ?_) m2) q3
      rw [sb.2 b (fun z2 : b = S => z (z2 ▸ List.mem_cons_self))]; exact e
end
abbrev freshSet (w : World) : Obj := { cls := .type "set", dict := none, data := .set #[] 0 (.fresh 0 0 (!w.params.followText "set-order")) }
section
variable {P : Program} {w : World} {A : Around} {E : Value → Shared → Prop} {s : Shared}
theorem code_set_one (a : Value) {Q₁ : Value → Shared → Prop} (h : Q₁ (.ref s.heap.objs.size) { s with heap := s.heap.push (freshSet w) }) :
    codeAny (model P w) A (.call (.builtin "set.__new__") ⟨[.type "set", a], []⟩) (wants Q₁ E) s := by
  refine codeAny_of_tree ?_
  show wpAny _ A.in1 (do checkBuiltinCall "set.__new__" ⟨[.type "set", a], []⟩; again (.builtin "set.__new__" ⟨[.type "set", a], []⟩)) _ _ s; refine wpAny_bind (wpAny_of_eq (F.newCall_set_1 a) (wpAny_pure ⟨plainId_quiet F.plain_set_new _, codeAny_builtin F.entry_set_new ?_⟩))
  rw [Around.under_plainId F.plain_set_new _]; unfold Builtin.«set.__new__» Builtin.Frozenset.newClass
  have hsub := sub_set_self
  obtain ⟨hp, g, d, tk, os⟩ := s
  dsimp only
  wp_walk
  refine wpAny_askSetting (wpAny_pure ?_); dsimp only; simp only [newObj]
  refine wpAny_bind (wpAny_alloc (wpAny_pure ?_)); exact wpAny_pure h
set_option maxHeartbeats 4000000 in
theorem set_listR {l : Addr} {items : Array Value} {ns : List Int} {Q : Value → Shared → Prop} (hh : A.handled = none) (hl : s.heap.IsList l items) (hi : IntsAre items.toList ns) (hb : items.size + 1 < scanBound)
    (h : ∀ (h' : Heap) (tk : Nat), Some' w h' s.heap.objs.size (fun i => ns.getD i 0) items.size → (∀ b o, b < s.heap.objs.size → s.heap.get? b = some o → h'.get? b = some o) → Q (.ref s.heap.objs.size) { s with heap := h', toks := tk }) :
    wpAny (model P w) A (call (.type "set") [.ref l]) Q E s := by
  obtain ⟨c, tl, hmro⟩ := F.called_set.mro
  have hmade := F.called_set.made; have hsub := F.called_set.sub
  refine wpAny_call (codeAny_of_tree ?_)
  show wpAny _ _ (callAny (.type "set") _) _ _ _; refine wpAny_pure ⟨Code.quiet_builtin _ (by decide +kernel), codeAny_builtin F.entry_type_call ?_⟩
  rw [Around.under_plain (weight_type_call_type "set" [.ref l] []) rfl]; have h1 := F.called_set.notType
  have h2 := F.called_set.canCreate; have hct := F.typeCall_set_1 (.ref l)
  repeat (any_goals (first | assumption | wp_step))
  refine codeAny_mono (code_set_one (.ref l) (E := E) (Q₁ := fun obj s₁ => obj = .ref s.heap.objs.size ∧ s₁ = { s with heap := s.heap.push (freshSet w) }) ⟨rfl, rfl⟩) fun r s₁ hr => ?_
  cases r with
  | error e => exact hr
  | ok fl =>
    cases fl with
    | ret obj =>
      obtain ⟨rfl, rfl⟩ := hr
      have hS : (s.heap.push (freshSet w)).get? s.heap.objs.size = some (freshSet w) := Heap.get?_push_size _ rfl
      have hT : Shared.TypeIs { s with heap := s.heap.push (freshSet w) } (.ref s.heap.objs.size) "set" := ⟨_, hS, rfl⟩
      have hli := F.called_set.init.lookup; have hbi := F.called_set.init.bind (.ref s.heap.objs.size)
      repeat (any_goals (first | assumption | wp_step))
      refine codeAny_mono (codeAny_call_builtin (R := wants (fun r s₂ => r = .none ∧ ∃ h' tk, s₂ = { s with heap := h', toks := tk } ∧ Some' w h' s.heap.objs.size (fun i => ns.getD i 0) items.size ∧ (∀ b o, b < s.heap.objs.size → s.heap.get? b = some o → h'.get? b = some o)) E)
        F.called_set.init.plain F.entry_set_init (check_set_init_1 hT ?_)) fun r₂ s₂ hr₂ => ?_
      · obtain ⟨ol, hol, hcl, nl, hdl⟩ := hl
        obtain ⟨ocls, odict, odata, oslots⟩ := ol
        simp only at hcl hdl
        subst hcl hdl
        have hol' : (s.heap.push (freshSet w)).get? l = some { cls := .type "list", dict := odict, data := .seq items nl, slots := oslots } := Heap.get?_push_of_some _ hol
        have hsls := F.sub_list_set; have hslf := F.sub_list_frozenset
        have hne : (Value.type "list" == Value.type "dict") = false := by decide
        have hl1 : (s.heap.push (freshSet w)).IsList l items := ⟨_, hol', rfl, nl, rfl⟩
        unfold Builtin.«set.__init__» noKeywords Builtin.Frozenset.updateFrom; generalize hPI : pyIter = PI
        wp_walk
        subst hPI
        refine wpAny_pyIter_list hl1 ?_; refine wpAny_bind (wpAny_runValue ?_)
        have ll : l < s.heap.objs.size := Heap.lt_size hol
        have h3 : A.in1.in1.in1.handled = none := by simp [hh]
        have sz : (s.heap.push (freshSet w)).objs.size = s.heap.objs.size + 1 := Heap.size_push ..
        have neI : l ≠ (s.heap.push (freshSet w)).objs.size := by rw [sz]; exact Nat.ne_of_lt (Nat.lt_succ_of_lt ll)
        have off : s.heap.objs.size ∉ [(s.heap.push (freshSet w)).objs.size, l] := by
          rw [sz]; simp only [List.mem_cons, List.not_mem_nil, or_false, not_or]
          exact ⟨Nat.ne_of_lt (Nat.lt_succ_self _), Nat.ne_of_gt ll⟩
        have hval : ∀ (i : Nat) (v : Value), items[i]? = some v → ∃ t, v = .int ((fun i => ns.getD i 0) i) t := fun i v hv => IntsAre.int_at hi i v (by rw [Array.getElem?_toList]; exact hv)
        refine update_loopR ((Walks.list h3 _ l neI items).toS) off (fun i => ns.getD i 0) hval hb (items.size - 0) 0 _ (by omega) (Nat.zero_le _) ⟨⟨_, Heap.get?_push_size _ rfl, rfl, rfl⟩, (hl1.push _)⟩ ?_ ?_
        · exact ⟨0, Nat.le_refl _, ((setR_fresh (h := s.heap) w).at fun o e => Heap.get?_push_of_some _ e).congr fun k => by simp⟩
        · intro s' hm hS'
          obtain ⟨h', g', d', tk', os'⟩ := s'
          have eg : g' = s.gens := hm.gens; have ed : d' = s.drawn := hm.drawn; have eo : os' = s.os := hm.os
          subst eg ed eo
          show wpAny _ _ _ _ _ _; refine wpAny_pure ?_
          show wpAny _ _ (ret Value.none) _ _ _; refine wpAny_pure ⟨rfl, h', tk', rfl, hS', fun b o z e => ?_⟩
          refine hm.heap b o (fun z2 => ?_) (Heap.get?_push_of_some _ (Heap.get?_push_of_some _ e))
          simp only [List.mem_cons, List.not_mem_nil, or_false] at z2
          rcases z2 with rfl | rfl
          · exact Nat.lt_irrefl _ z
          · rw [sz] at z
            exact Nat.not_succ_lt_self z
      · cases r₂ with
        | error e => exact hr₂
        | ok fl₂ =>
          cases fl₂ with
          | ret r =>
            obtain ⟨rfl, h', tk, rfl, hS', hk'⟩ := hr₂
            repeat (any_goals (first | assumption | wp_step))
            exact h _ _ hS' hk'
          | _ => exact hr₂.elim
    | _ => exact hr.elim
end
def rSetI (w : World) (K : PySem.W.Frag) : List V → Hp → VK → Prop := fun xs H Q => ∃ (l : Addr) (ns : List Int), xs = [.ref l] ∧ SqL K H l (ns.map V.int) ∧ ns.length ≤ 1000 ∧
  ∀ (p : Addr) (S : Int → Bool) (n : Nat), n ≤ ns.length → (∀ k, S k = true ↔ k ∈ ns) → H p = none → Q (.ref p) (upd H p (SetO w p S n))
theorem ints_vals : ∀ {ns : List Int} {us : List Value}, Vals (ns.map V.int) us → IntsAre us ns
  | [], _, .nil => .nil
  | n :: ns, _, .cons r t => by
    obtain ⟨k, rfl⟩ := r
    exact .cons n k (ints_vals t)
section
variable {X : Cx}
theorem cr_setI (hc : X.calm = true) : CallR X (.type "set") (rSetI X.w X.K) := by
  intro pins s σ H xs us Q I r h
  obtain ⟨l, ns, rfl, hq, le, q⟩ := h
  rw [Vals.ref1 r]
  obtain ⟨its, rv, p1, _⟩ := I.list hq
  have hz : its.toArray.size = ns.length := by rw [List.size_toArray, ← rv.length, List.length_map]
  refine set_listR (I.ok.hd hc) p1.isList (by simpa using ints_vals rv) (by rw [hz]; unfold scanBound; omega) fun h' tk hS hk => ?_
  obtain ⟨m, le2, R⟩ := hS
  rw [hz] at R le2
  have new : Inv X pins σ (upd H s.heap.objs.size (SetO X.w s.heap.objs.size (fun k => ((List.range ns.length).map fun i => ns.getD i 0).any (· == k)) m)) { s with heap := h', toks := tk } :=
    I.laid (t' := tk) (fun b u e => hk b u (Heap.lt_size e) e) (Nat.le_refl _) (setO_new R)
  refine ⟨.ref _, _, new, rfl, q _ _ m le2 (fun k => ?_) (I.hok.fresh (Nat.le_refl _))⟩
  rw [List.any_eq_true]
  constructor
  · rintro ⟨x, hx, e⟩
    obtain ⟨i, hi, rfl⟩ := List.mem_map.mp hx
    have hi := List.mem_range.mp hi
    have e : ns.getD i 0 = k := by simpa using e
    rw [← e, show ns.getD i 0 = ns[i] by simp [List.getD, List.getElem?_eq_getElem hi]]
    exact List.getElem_mem hi
  · intro hk
    obtain ⟨i, hi, rfl⟩ := List.mem_iff_getElem.mp hk
    exact ⟨_, List.mem_map.mpr ⟨i, List.mem_range.mpr hi, rfl⟩, by simp [List.getD, List.getElem?_eq_getElem hi]⟩
theorem setIK {w : World} {K : PySem.W.Frag} (h : X.w = w) (h2 : X.K = K) (hc : X.calm = true) : CallR X (.type "set") (rSetI w K) := h ▸ h2 ▸ cr_setI hc
end
section
variable {w : World} {K : PySem.W.Frag} {H : Hp} {Q : VK}
theorem rd_setI {l : Addr} {xs : List V} {ns : List Int} (h : SqL K H l xs) (e : xs = ns.map V.int) (le : ns.length ≤ 1000) (q : ∀ p J S n, n ≤ ns.length → (∀ k, S k = true ↔ k ∈ ns) → H p = none → Same H J → J p = some (SetO w p S n) → Q (.ref p) J) : rSetI w K [.ref l] H Q :=
  ⟨l, ns, rfl, e ▸ h, le, fun p S n a b c => q p _ S n a b c (same_new c) upd_same⟩
end
end Ob
namespace Ob
open PySem PySem.Spec PyProof.Rows L2
/-! ### which units tell a number -/
/-- the point of a sum, in units -/
def ptU (G : Nat) (b : Int) : Nat := ((-b).fmod (G : Int)).toNat
theorem ptU_eq {G : Nat} (g0 : 0 < G) (b : Int) : ((ptU G b : Nat) : Int) = (-b).fmod (G : Int) ∧ ptU G b < G := by
  have h := fmod_rng (x := -b) (n := (G : Int)) (by omega)
  unfold ptU
  omega
/-- what a unit adds to the floor of a sum -/
def stepU (G : Nat) (b : Int) (u : Nat) : Int := if ptU G b ≤ u ∧ 0 < ptU G b then 1 else 0
theorem floor_step {G : Nat} (g0 : 0 < G) (b : Int) {u : Nat} (hu : u < G) : (b + (u : Int)).fdiv (G : Int) = b.fdiv (G : Int) + stepU G b u := by
  obtain ⟨e1, lt⟩ := ptU_eq g0 b
  have G0 : (0 : Int) < (G : Int) := by omega
  rw [Int.fdiv_eq_ediv_of_nonneg _ (by omega), Int.fdiv_eq_ediv_of_nonneg _ (by omega)]
  rw [Int.fmod_eq_emod_of_nonneg _ (by omega)] at e1
  have r0 := Int.emod_nonneg b (show (G : Int) ≠ 0 by omega)
  have r1 := Int.emod_lt_of_pos b G0
  have d := Int.emod_add_mul_ediv b (G : Int)
  generalize b / (G : Int) = q at *
  generalize b % (G : Int) = r at *
  -- the point from the rest
  have hp : (-b) % (G : Int) = if r = 0 then 0 else (G : Int) - r := by
    by_cases c : r = 0
    · rw [if_pos c]
      refine ((Int.ediv_emod_unique G0 (q := -q)).mpr ⟨?_, by omega, by omega⟩).2
      rw [← d, c]
      grind
    · rw [if_neg c]
      refine ((Int.ediv_emod_unique G0 (q := -q - 1)).mpr ⟨?_, by omega, by omega⟩).2
      rw [← d]
      grind
  rw [hp] at e1
  unfold stepU
  by_cases c : r = 0
  · rw [if_pos c] at e1
    rw [if_neg (by omega)]
    refine ((Int.ediv_emod_unique G0 (r := (u : Int))).mpr ⟨?_, by omega, by omega⟩).1
    rw [← d, c]
    grind
  · rw [if_neg c] at e1
    by_cases c2 : ptU G b ≤ u
    · rw [if_pos ⟨c2, by omega⟩]
      refine ((Int.ediv_emod_unique G0 (r := r + (u : Int) - (G : Int))).mpr ⟨?_, by omega, by omega⟩).1
      rw [← d]
      grind
    · rw [if_neg (by omega)]
      refine ((Int.ediv_emod_unique G0 (r := r + (u : Int))).mpr ⟨?_, by omega, by omega⟩).1
      rw [← d]
      grind
theorem told_step {G : Nat} {es : List Ent} (g0 : 0 < G) {u : Nat} (hu : u < G) (i n : Nat) :
    toldN G es (u : Int) i n = (bS G es (i + n)).fdiv (G : Int) + stepU G (bS G es (i + n)) u - ((bS G es i).fdiv (G : Int) + stepU G (bS G es i) u) := by
  unfold toldN
  rw [floor_step g0 _ hu, floor_step g0 _ hu]
/-- the lesser neighbour -/
theorem lesser_eq {G : Nat} (g0 : 0 < G) (a b : Int) : (b - a).fdiv (G : Int) = b.fdiv (G : Int) - a.fdiv (G : Int) + (if ptU G a = ptU G b then 0 else if ptU G b = 0 then -1 else if ptU G a = 0 then 0 else if ptU G a < ptU G b then -1 else 0) := by
  obtain ⟨e1, l1⟩ := ptU_eq g0 a
  obtain ⟨e2, l2⟩ := ptU_eq g0 b
  have G0 : (0 : Int) < (G : Int) := by omega
  rw [Int.fdiv_eq_ediv_of_nonneg _ (by omega), Int.fdiv_eq_ediv_of_nonneg _ (by omega), Int.fdiv_eq_ediv_of_nonneg _ (by omega)]
  rw [Int.fmod_eq_emod_of_nonneg _ (by omega)] at e1 e2
  have pt : ∀ b : Int, (-b) % (G : Int) = if b % (G : Int) = 0 then 0 else (G : Int) - b % (G : Int) := fun b => by
    have r0 := Int.emod_nonneg b (show (G : Int) ≠ 0 by omega)
    have r1 := Int.emod_lt_of_pos b G0
    have d := Int.emod_add_mul_ediv b (G : Int)
    by_cases c : b % (G : Int) = 0
    · rw [if_pos c]
      refine ((Int.ediv_emod_unique G0 (q := -(b / (G : Int)))).mpr ⟨?_, by omega, by omega⟩).2
      grind
    · rw [if_neg c]
      refine ((Int.ediv_emod_unique G0 (q := -(b / (G : Int)) - 1)).mpr ⟨?_, by omega, by omega⟩).2
      grind
  rw [pt] at e1 e2
  have ra0 := Int.emod_nonneg a (show (G : Int) ≠ 0 by omega)
  have ra1 := Int.emod_lt_of_pos a G0
  have da := Int.emod_add_mul_ediv a (G : Int)
  have rb0 := Int.emod_nonneg b (show (G : Int) ≠ 0 by omega)
  have rb1 := Int.emod_lt_of_pos b G0
  have db := Int.emod_add_mul_ediv b (G : Int)
  generalize a / (G : Int) = qa at *
  generalize a % (G : Int) = ra at *
  generalize b / (G : Int) = qb at *
  generalize b % (G : Int) = rb at *
  by_cases c : ra ≤ rb
  · have e : (b - a) / (G : Int) = qb - qa := by
      refine ((Int.ediv_emod_unique G0 (r := rb - ra)).mpr ⟨?_, by omega, by omega⟩).1
      rw [← da, ← db]
      grind
    rw [e]
    split at e1 <;> split at e2 <;> (repeat' split) <;> omega
  · have e : (b - a) / (G : Int) = qb - qa - 1 := by
      refine ((Int.ediv_emod_unique G0 (r := rb - ra + (G : Int))).mpr ⟨?_, by omega, by omega⟩).1
      rw [← da, ← db]
      grind
    rw [e]
    split at e1 <;> split at e2 <;> (repeat' split) <;> omega
/-- the units from A up to below B, round the ring -/
def arcF (A B u : Nat) : Bool := if A = B then false else if A < B then decide (A ≤ u) && decide (u < B) else decide (u < B) || decide (A ≤ u)
theorem told_same {G : Nat} {es : List Ent} (g0 : 0 < G) {i n : Nat} (e : ptU G (bS G es i) = ptU G (bS G es (i + n))) {u : Nat} (hu : u < G) : toldN G es (u : Int) i n = (bS G es (i + n) - bS G es i).fdiv (G : Int) := by
  rw [told_step g0 hu, lesser_eq g0, if_pos e]
  unfold stepU
  rw [e]
  omega
theorem told_arcs {G : Nat} {es : List Ent} (g0 : 0 < G) {i n : Nat} (e : ptU G (bS G es i) ≠ ptU G (bS G es (i + n))) {u : Nat} (hu : u < G) :
    toldN G es (u : Int) i n = (bS G es (i + n) - bS G es i).fdiv (G : Int) + (if arcF (ptU G (bS G es i)) (ptU G (bS G es (i + n))) u = true then 0 else 1) ∧
      arcF (ptU G (bS G es (i + n))) (ptU G (bS G es i)) u = !arcF (ptU G (bS G es i)) (ptU G (bS G es (i + n))) u := by
  obtain ⟨_, l1⟩ := ptU_eq g0 (bS G es i)
  obtain ⟨_, l2⟩ := ptU_eq g0 (bS G es (i + n))
  rw [told_step g0 hu, lesser_eq g0, if_neg e]
  unfold stepU arcF
  generalize ptU G (bS G es i) = A at *
  generalize ptU G (bS G es (i + n)) = B at *
  constructor
  · rw [if_neg e]
    by_cases c : A < B
    · rw [if_pos c]
      by_cases c1 : A ≤ u <;> by_cases c2 : u < B <;> simp [c1, c2] <;> (repeat' split) <;> omega
    · rw [if_neg c]
      by_cases c1 : A ≤ u <;> by_cases c2 : u < B <;> simp [c1, c2] <;> (repeat' split) <;> omega
  · rw [if_neg e, if_neg fun z => e z.symm]
    by_cases c : A < B
    · rw [if_pos c, if_neg (by omega)]
      by_cases c1 : A ≤ u <;> by_cases c2 : u < B <;> by_cases c3 : u < A <;> by_cases c4 : B ≤ u <;> simp [c1, c2, c3, c4] <;> omega
    · rw [if_neg c, if_pos (by omega)]
      by_cases c1 : A ≤ u <;> by_cases c2 : u < B <;> by_cases c3 : u < A <;> by_cases c4 : B ≤ u <;> simp [c1, c2, c3, c4] <;> omega
theorem frm_arcF {A B G : Nat} {x y u v : Int} (ha : A < G) (hb : B < G) (la : IsLow (A : Int) (G : Int) x y) (lb : IsLow (B : Int) (G : Int) u v) : Frm G (arcF A B) (arcD x y u v) := by
  have g0 : 0 < G := by omega
  have eAB : (x = u ∧ y = v) ↔ A = B := by
    constructor
    · rintro ⟨rfl, rfl⟩
      exact low_inj la lb
    · rintro rfl
      exact low_uniq la lb (by omega) (by omega) rfl
  have lt := low_lt la lb g0
  have ez : (u = 0 ∧ v = 1) ↔ B = 0 := by
    constructor
    · rintro ⟨rfl, rfl⟩
      have := lb.2.2.1
      omega
    · rintro rfl
      exact low_uniq lb (low_zero g0) (by omega) (by omega) rfl
  unfold arcD
  by_cases c : A = B
  · rw [if_pos (eAB.mpr c)]
    refine (frm_nil g0).congr fun w _ => ?_
    unfold arcF
    rw [if_pos c]
  · rw [if_neg fun z => c (eAB.mp z)]
    by_cases c2 : A < B
    · rw [if_pos (lt.mpr c2)]
      refine (frm_of g0 (.cons (Nat.zero_le _) c2 .nil) (fun r hr => ?_) (.cons la lb .nil)).congr fun w _ => ?_
      · obtain rfl := List.mem_singleton.mp hr
        exact Nat.le_of_lt hb
      · unfold arcF inB
        rw [if_neg c, if_pos c2]
        simp
    · rw [if_neg fun z => c2 (lt.mp z)]
      by_cases c3 : B = 0
      · rw [if_pos (ez.mpr c3)]
        refine (frm_of g0 (ps := [(A, G)]) (.cons (Nat.zero_le _) ha .nil) (fun r hr => ?_) (.cons la (low_full g0) .nil)).congr fun w hw => ?_
        · obtain rfl := List.mem_singleton.mp hr
          exact Nat.le_refl _
        · unfold arcF inB
          rw [if_neg c, if_neg c2]
          simp [hw, c3]
      · rw [if_neg fun z => c3 (ez.mp z)]
        refine (frm_of g0 (ps := [(0, B), (A, G)]) (.cons (Nat.le_refl _) (by omega) (.cons (by omega) ha .nil)) (fun r hr => ?_) (.cons (low_zero g0) lb (.cons la (low_full g0) .nil))).congr fun w hw => ?_
        · simp only [List.mem_cons, List.not_mem_nil, or_false] at hr
          rcases hr with rfl | rfl
          · exact Nat.le_of_lt hb
          · exact Nat.le_refl _
        · unfold arcF inB
          rw [if_neg c, if_neg c2]
          simp [hw]
/-- the cuts that tell a number -/
def tellF (G : Nat) (es : List Ent) (i n : Nat) (num : Int) (u : Nat) : Bool := decide (toldN G es (u : Int) i n = num)
end Ob
/-! Methods whose promise is asked only where nothing is being shown (FnG). -/
namespace Ob
open PySem PySem.Spec PyProof.Rows L2
section
variable {X : Cx} {CX : CXT} {k : Nat} {f C : Addr} {fd : FuncData} {ps : List Str} {sp : Sp} {ds : List Value} {dvs : List V} {E : XK} {m : Str} {o e : Expr} {es : List Expr} {ta : TE} {t : TA} {apos pos : PySem.Pos} {pl : Sem Bool}
/-- o.m(e, ..) -/
theorem pm_g (he : PE X o ta) (c : Cls X.K C) (hm : Meth X.K C m f) (F : FnG X.prog X.w X.K X.mg X.base CX k f fd ps sp) (hg : X.A.guards = some []) (hr : Room k X.A) (hb : Binds X.K fd ps ds) (hd : Vals dvs ds) (hx : Passes CX X E) (ha : PA X (e :: es) t)
    (hst : starEach (e :: es) X.env = (false, eval e X.env) :: starEach es X.env := by rfl) (hpl : (backTo pos (starEach es X.env)).any (·.1) = false := by rfl)
    (ht : eval (.Call (.Attribute o m apos) (e :: es) [] pos) X.env = (do
      let ov ← eval o X.env
      standAt apos.atName
      let (f, first) ← holding [ov] (getMethod ov m pl)
      callWith pos f first (backTo pos (starEach (e :: es) X.env)) (backToKw pos (keywordEach [] X.env))) := by rfl) :
    PE X (.Call (.Attribute o m apos) (e :: es) [] pos) (tMeth C m sp dvs E ta t) :=
  ⟨fun pins s σ H Q I h => PySem.W.methodCall_KW (pl := pl) (thn (he.run pins s σ H _ I h) fun u s1 ⟨x, H1, I1, rx, a, dx, fs, ex, ea, l, q⟩ => by
    subst ex
    obtain rfl : u = Value.ref a := rx
    exact getmeth_ok I1 ea c hm l (PySem.W.callWith_K (first := [.ref a]) (h₀ := X.base) I1.ok.mod.kin hm.kp (thn (ha.run pos pins s1 σ H1 _ I1 q) fun us s2 ⟨vs, H2, I2, r, q2⟩ =>
      ⟨I2.kIn, run_g (us := .ref a :: us) (vs := .ref a :: vs) F hg hr hb hd hx I2 (.cons rfl r) q2⟩) hst hpl)) ht⟩
/-- o.m() -/
theorem pm_g0 (he : PE X o ta) (c : Cls X.K C) (hm : Meth X.K C m f) (F : FnG X.prog X.w X.K X.mg X.base CX k f fd ps sp) (hg : X.A.guards = some []) (hr : Room k X.A) (hb : Binds X.K fd ps ds) (hd : Vals dvs ds) (hx : Passes CX X E)
    (ht : eval (.Call (.Attribute o m apos) [] [] pos) X.env = (do
      let ov ← eval o X.env
      standAt apos.atName
      let (f, first) ← holding [ov] (getMethod ov m pl)
      callWith pos f first (backTo pos (starEach [] X.env)) (backToKw pos (keywordEach [] X.env))) := by rfl) :
    PE X (.Call (.Attribute o m apos) [] [] pos) (tMeth C m sp dvs E ta tNil) :=
  ⟨fun pins s σ H Q I h => PySem.W.methodCall_KW (pl := pl) (thn (he.run pins s σ H _ I h) fun u s1 ⟨x, H1, I1, rx, a, dx, fs, ex, ea, l, q⟩ => by
    subst ex
    obtain rfl : u = Value.ref a := rx
    exact getmeth_ok I1 ea c hm l (PySem.W.callWith_K0 (first := [.ref a]) I1.kIn hm.kp (run_g (us := [.ref a]) (vs := [.ref a]) F hg hr hb hd hx I1 (.cons rfl .nil) q))) ht⟩
end
end Ob
/-! Ledgers: items under numbers, an object with a dict. -/
namespace Ob
open PySem PySem.Spec PyProof.Rows L2 LiI
/-! ### items -/
inductive Itm
  | en (e : Ent)
  | st (s : Stm)
def AmOk (e : Ent) : Prop := ∀ r ∈ e.am, r.1.natAbs ≤ 1000000 ∧ r.2 ≤ 1000000
def StOk (s : Stm) : Prop := s.first + s.many ≤ 10 ^ 30 ∧ 1 ≤ s.many
def ItmAt (H : Hp) (v : V) : Itm → Prop
  | .en e => EntAt H v e ∧ AmOk e
  | .st s => StmAt H v s ∧ StOk s
inductive KvsAt (H : Hp) : List (Key × V) → List (Nat × Itm) → Prop
  | nil : KvsAt H [] []
  | cons {n : Nat} {v : V} {i : Itm} {kvs : List (Key × V)} {its : List (Nat × Itm)} (h : ItmAt H v i) (t : KvsAt H kvs its) : KvsAt H ((Sum.inl (n : Int), v) :: kvs) ((n, i) :: its)
inductive ItsAt (H : Hp) : List V → List Itm → Prop
  | nil : ItsAt H [] []
  | cons {v : V} {i : Itm} {vs : List V} {is : List Itm} (h : ItmAt H v i) (t : ItsAt H vs is) : ItsAt H (v :: vs) (i :: is)
def entsOf : List Itm → List Ent
  | [] => []
  | .en e :: r => e :: entsOf r
  | .st _ :: r => entsOf r
def stmsOf : List Itm → List Stm
  | [] => []
  | .en _ :: r => stmsOf r
  | .st s :: r => s :: stmsOf r
theorem entsOf_app : ∀ a b : List Itm, entsOf (a ++ b) = entsOf a ++ entsOf b
  | [], _ => rfl
  | .en e :: a, b => congrArg (e :: ·) (entsOf_app a b)
  | .st _ :: a, b => entsOf_app a b
theorem stmsOf_app : ∀ a b : List Itm, stmsOf (a ++ b) = stmsOf a ++ stmsOf b
  | [], _ => rfl
  | .en _ :: a, b => stmsOf_app a b
  | .st s :: a, b => congrArg (s :: ·) (stmsOf_app a b)
theorem entsOf_en : ∀ es : List Ent, entsOf (es.map Itm.en) = es
  | [] => rfl
  | e :: es => congrArg (e :: ·) (entsOf_en es)
theorem entsOf_st : ∀ ss : List Stm, entsOf (ss.map Itm.st) = []
  | [] => rfl
  | _ :: ss => entsOf_st ss
theorem stmsOf_en : ∀ es : List Ent, stmsOf (es.map Itm.en) = []
  | [] => rfl
  | _ :: es => stmsOf_en es
theorem stmsOf_st : ∀ ss : List Stm, stmsOf (ss.map Itm.st) = ss
  | [] => rfl
  | s :: ss => congrArg (s :: ·) (stmsOf_st ss)
section
variable {H J : Hp} (m : ∀ p xs, H p = some (.tup xs) → J p = some (.tup xs))
include m
theorem ItmAt.mono {v : V} : ∀ {i : Itm}, ItmAt H v i → ItmAt J v i
  | .en _, ⟨h, a⟩ => ⟨h.mono m, a⟩
  | .st _, ⟨h, a⟩ => ⟨h.mono m, a⟩
theorem KvsAt.mono : ∀ {kvs : List (Key × V)} {its : List (Nat × Itm)}, KvsAt H kvs its → KvsAt J kvs its
  | _, _, .nil => .nil
  | _, _, .cons h t => .cons (h.mono m) t.mono
theorem ItsAt.mono : ∀ {vs : List V} {is : List Itm}, ItsAt H vs is → ItsAt J vs is
  | _, _, .nil => .nil
  | _, _, .cons h t => .cons (h.mono m) t.mono
end
section
variable {H J : Hp} {kvs : List (Key × V)} {its : List (Nat × Itm)}
theorem KvsAt.len : ∀ {kvs : List (Key × V)} {its : List (Nat × Itm)}, KvsAt H kvs its → kvs.length = its.length
  | _, _, .nil => rfl
  | _, _, .cons _ t => congrArg (· + 1) t.len
theorem KvsAt.get : ∀ {kvs : List (Key × V)} {its : List (Nat × Itm)}, KvsAt H kvs its → ∀ {i : Nat} {k : Key} {v : V}, kvs[i]? = some (k, v) → ∃ (n : Nat) (it : Itm), k = Sum.inl (n : Int) ∧ its[i]? = some (n, it) ∧ ItmAt H v it
  | _, _, .nil, _, _, _, e => by cases e
  | _, _, .cons h _, 0, _, _, e => by
    obtain ⟨rfl, rfl⟩ := Prod.mk.inj (Option.some.inj e)
    exact ⟨_, _, rfl, rfl, h⟩
  | _, _, .cons _ t, _ + 1, _, _, e => t.get e
theorem ItsAt.len : ∀ {vs : List V} {is : List Itm}, ItsAt H vs is → vs.length = is.length
  | _, _, .nil => rfl
  | _, _, .cons _ t => congrArg (· + 1) t.len
theorem ItsAt.app : ∀ {vs ws : List V} {is js : List Itm}, ItsAt H vs is → ItsAt H ws js → ItsAt H (vs ++ ws) (is ++ js)
  | _, _, _, _, .nil, h => h
  | _, _, _, _, .cons h t, k => .cons h (t.app k)
theorem ItsAt.perm {vs ws : List V} (h : vs.Perm ws) : ∀ {is : List Itm}, ItsAt H vs is → ∃ js, is.Perm js ∧ ItsAt H ws js := by
  induction h with
  | nil => intro is t; exact ⟨is, .refl _, t⟩
  | cons x _ ih =>
    intro is t
    cases t with
    | cons h t =>
      obtain ⟨js, p, u⟩ := ih t
      exact ⟨_, p.cons _, .cons h u⟩
  | swap x y l =>
    intro is t
    cases t with
    | cons h t => cases t with
      | cons k t => exact ⟨_, .swap _ _ _, .cons k (.cons h t)⟩
  | trans _ _ h1 h2 =>
    intro is t
    obtain ⟨js, p, u⟩ := h1 t
    obtain ⟨ks, r, w⟩ := h2 u
    exact ⟨ks, p.trans r, w⟩
theorem EntsAt.asI : ∀ {vs : List V} {es : List Ent}, EntsAt H vs es → (∀ e ∈ es, AmOk e) → ItsAt H vs (es.map Itm.en)
  | _, _, .nil, _ => .nil
  | _, _, .cons h t, a => .cons ⟨h, a _ (List.mem_cons_self ..)⟩ (t.asI fun e he => a e (List.mem_cons_of_mem _ he))
theorem StmsAt.asI : ∀ {vs : List V} {ss : List Stm}, StmsAt H vs ss → (∀ s ∈ ss, StOk s) → ItsAt H vs (ss.map Itm.st)
  | _, _, .nil, _ => .nil
  | _, _, .cons h t, a => .cons ⟨h, a _ (List.mem_cons_self ..)⟩ (t.asI fun e he => a e (List.mem_cons_of_mem _ he))
def isEn : Itm → Bool
  | .en _ => true
  | .st _ => false
/-- what stands ahead in an item -/
theorem ItmAt.tup {v : V} : ∀ {i : Itm}, ItmAt H v i → ∃ p a b c, v = .ref p ∧ H p = some (.tup [.str (if isEn i then "entry" else "statement"), a, b, c])
  | .en _, ⟨⟨p, a, rs, e, h, _⟩, _⟩ => ⟨p, _, _, _, e, h⟩
  | .st _, ⟨⟨p, e, h⟩, _⟩ => ⟨p, _, _, _, e, h⟩
theorem ItsAt.ents : ∀ {vs : List V} {is : List Itm}, ItsAt H vs is → (∀ i ∈ is, isEn i = true) → EntsAt H vs (entsOf is)
  | _, _, .nil, _ => .nil
  | _, _, .cons (i := .en e) h t, a => .cons h.1 (t.ents fun i hi => a i (List.mem_cons_of_mem _ hi))
  | _, _, .cons (i := .st s) h t, a => by cases a _ (List.mem_cons_self ..)
theorem ItsAt.stms : ∀ {vs : List V} {is : List Itm}, ItsAt H vs is → (∀ i ∈ is, isEn i = false) → StmsAt H vs (stmsOf is)
  | _, _, .nil, _ => .nil
  | _, _, .cons (i := .st s) h t, a => .cons h.1 (t.stms fun i hi => a i (List.mem_cons_of_mem _ hi))
  | _, _, .cons (i := .en e) h t, a => by cases a _ (List.mem_cons_self ..)
theorem entsOf_filter : ∀ is : List Itm, entsOf (is.filter isEn) = entsOf is
  | [] => rfl
  | .en e :: r => congrArg (e :: ·) (entsOf_filter r)
  | .st _ :: r => entsOf_filter r
theorem stmsOf_filter : ∀ is : List Itm, stmsOf (is.filter fun i => !isEn i) = stmsOf is
  | [] => rfl
  | .en _ :: r => stmsOf_filter r
  | .st s :: r => congrArg (s :: ·) (stmsOf_filter r)
theorem entsOf_len : ∀ is : List Itm, (is.filter isEn).length = (entsOf is).length
  | [] => rfl
  | .en _ :: r => congrArg (· + 1) (entsOf_len r)
  | .st _ :: r => entsOf_len r
theorem stmsOf_len : ∀ is : List Itm, (is.filter fun i => !isEn i).length = (stmsOf is).length
  | [] => rfl
  | .en _ :: r => stmsOf_len r
  | .st _ :: r => congrArg (· + 1) (stmsOf_len r)
/-! ### the object -/
def lgF (d : Addr) (n : Nat) : List (Str × V) := [("_items", V.ref d), ("_next_number", V.int (n : Int))]
theorem nin : ¬ (("_items" : Str) = "_next_number") := by decide +kernel
theorem lgF_items (d : Addr) (n : Nat) : (lgF d n).lookup ("_items" : Str) = some (.ref d) := by
  rw [show lgF d n = putF "_items" (.ref d) (lgF d n) from by
    show _ = (if ("_items" : Str) = "_items" then _ else _)
    rw [if_pos rfl]; rfl]
  rw [lookup_putF, if_pos rfl]
theorem lgF_next (d : Addr) (n : Nat) : (lgF d n).lookup ("_next_number" : Str) = some (.int (n : Int)) := by
  rw [show lgF d n = putF "_next_number" (.int (n : Int)) (lgF d n) from by
    show _ = (if ("_items" : Str) = "_next_number" then _ else _)
    rw [if_neg nin]
    show _ = _ :: (if ("_next_number" : Str) = "_next_number" then _ else _)
    rw [if_pos rfl]; rfl]
  rw [lookup_putF, if_pos rfl]
theorem lgF_no (d : Addr) (n : Nat) {m : Str} (h1 : ¬ m = "_items") (h2 : ¬ m = "_next_number") : (lgF d n).lookup m = none := by
  rw [show lgF d n = putF "_next_number" (.int (n : Int)) (putF "_items" (.ref d) []) from by
    show _ = (if ("_items" : Str) = "_next_number" then _ else _)
    rw [if_neg nin]; rfl]
  rw [lookup_putF, if_neg h2, lookup_putF, if_neg h1]
  rfl
theorem lgF_new (d : Addr) : putF "_next_number" (.int 0) (putF "_items" (.ref d) []) = lgF d 0 := by
  show (if ("_items" : Str) = "_next_number" then _ else _) = _
  rw [if_neg nin]; rfl
theorem lgF_put (d : Addr) (n m : Nat) : putF "_next_number" (.int (m : Int)) (lgF d n) = lgF d m := by
  show (if ("_items" : Str) = "_next_number" then _ else (_ :: (if ("_next_number" : Str) = "_next_number" then _ else _))) = _
  rw [if_neg nin, if_pos rfl]; rfl
structure LgAt (K : PySem.W.Frag) (H : Hp) (p d : Addr) (its : List (Nat × Itm)) (nx : Nat) : Prop where
  ob : ∃ C dx, PySem.W.nsIn K mainGlobals "Ledger" = some (some (.ref C)) ∧ H p = some (.ins C dx (lgF d nx))
  dc : ∃ kvs, H d = some (.dK kvs) ∧ KvsAt H kvs its
  nd : (its.map (·.1)).Nodup
  lt : ∀ x ∈ its, x.1 < nx
  len : its.length ≤ 100
structure LgC (K : PySem.W.Frag) (mg : Str → Option Value) (C : Addr) : Prop where
  at_ : PySem.W.nsIn K mainGlobals "Ledger" = some (some (.ref C))
  cl : Cls K C
  nI : NoAttr K C "_items"
  nN : NoAttr K C "_next_number"
  mgC : mg "Ledger" = some (.ref C)
  cE : ∃ u, Con K C "MOST_ENTRIES" (.int 6) u
  cS : ∃ u, Con K C "MOST_STATEMENTS" (.int 24) u
/-- all but the ledger stays -/
def Lk (p d : Addr) (H J : Hp) : Prop := ∀ a o, H a = some o → a ≠ p → a ≠ d → J a = some o
theorem Lk.of {p d : Addr} (s : Same H J) : Lk p d H J := fun a o e _ _ => s a o e
theorem Lk.trans {p d : Addr} {M : Hp} (h : Lk p d H J) (k : Lk p d J M) : Lk p d H M := fun a o e n1 n2 => k a o (h a o e n1 n2) n1 n2
section
variable {K : PySem.W.Frag} {p d : Addr} {nx : Nat} {its : List (Nat × Itm)}
theorem LgAt.tup (L : LgAt K H p d its nx) (k : Lk p d H J) {a : Addr} {xs : List V} (e : H a = some (.tup xs)) : J a = some (.tup xs) := by
  obtain ⟨C, dx, _, h⟩ := L.ob
  obtain ⟨kvs, g, _⟩ := L.dc
  exact k a _ e (fun z => by subst z; cases e.symm.trans h) (fun z => by subst z; cases e.symm.trans g)
theorem LgAt.lst (L : LgAt K H p d its nx) (k : Lk p d H J) {a : Addr} {xs : List V} (e : H a = some (.lst xs)) : J a = some (.lst xs) := by
  obtain ⟨C, dx, _, h⟩ := L.ob
  obtain ⟨kvs, g, _⟩ := L.dc
  exact k a _ e (fun z => by subst z; cases e.symm.trans h) (fun z => by subst z; cases e.symm.trans g)
theorem LgAt.same (s : Same H J) (L : LgAt K H p d its nx) : LgAt K J p d its nx :=
  ⟨let ⟨C, dx, c, h⟩ := L.ob; ⟨C, dx, c, s _ _ h⟩, let ⟨kvs, h, t⟩ := L.dc; ⟨kvs, s _ _ h, t.mono fun p xs e => s _ _ e⟩, L.nd, L.lt, L.len⟩
theorem LgAt.ne (L : LgAt K H p d its nx) : p ≠ d := by
  obtain ⟨C, dx, _, h⟩ := L.ob
  obtain ⟨kvs, g, _⟩ := L.dc
  intro z
  subst z
  cases h.symm.trans g
/-- a list is written: the ledger stays -/
theorem LgAt.kl {c : Addr} {zs : List V} (k : Kp c H J) (hc : H c = some (.lst zs)) (L : LgAt K H p d its nx) : LgAt K J p d its nx := by
  obtain ⟨C, dx, cc, h⟩ := L.ob
  obtain ⟨kvs, g, t⟩ := L.dc
  refine ⟨⟨C, dx, cc, k _ _ (fun z => by subst z; cases h.symm.trans hc) h⟩, ⟨kvs, k _ _ (fun z => by subst z; cases g.symm.trans hc) g, t.mono fun p xs e => k _ _ (fun z => by subst z; cases e.symm.trans hc) e⟩, L.nd, L.lt, L.len⟩
end
end
/-! ### calls -/
structure CalM (P : Program) (w : World) (K : PySem.W.Frag) (mg : Str → Option Value) (base : Heap) (C : Addr) (m : Str) (k : Nat) (f : Addr) (fd : FuncData) (ps : List Str) (sp : Sp) : Prop where
  g : FnG P w K mg base CX0 k f fd ps sp
  b : Binds K fd ps []
  m : Meth K C m f
structure MkL (P : Program) (w : World) (K : PySem.W.Frag) (mg : Str → Option Value) (base : Heap) (C f : Addr) (fd : FuncData) (sp : Sp) : Prop where
  m : Mk K C f
  g : FnOk P w K mg base CX0 1 f fd ["self"] sp
  b : Binds K fd ["self"] []
section
variable {X : Cx} {k : Nat} {f C : Addr} {fd : FuncData} {ps : List Str} {sp : Sp} {m : Str} {o e : Expr} {es : List Expr} {ta : TE} {t : TA} {apos pos : PySem.Pos} {pl : Sem Bool}
theorem pm_c (c : Cls X.K C) (M : CalM X.prog X.w X.K X.mg X.base C m k f fd ps sp) (hg : X.A.guards = some []) (hr : Room k X.A) (he : PE X o ta) (ha : PA X (e :: es) t)
    (hst : starEach (e :: es) X.env = (false, eval e X.env) :: starEach es X.env := by rfl) (hpl : (backTo pos (starEach es X.env)).any (·.1) = false := by rfl)
    (ht : eval (.Call (.Attribute o m apos) (e :: es) [] pos) X.env = (do
      let ov ← eval o X.env
      standAt apos.atName
      let (f, first) ← holding [ov] (getMethod ov m pl)
      callWith pos f first (backTo pos (starEach (e :: es) X.env)) (backToKw pos (keywordEach [] X.env))) := by rfl) :
    PE X (.Call (.Attribute o m apos) (e :: es) [] pos) (tMeth C m sp [] E0 ta t) := pm_g he c M.m M.g hg hr M.b .nil pass0 ha hst hpl ht
theorem pm_c0 (c : Cls X.K C) (M : CalM X.prog X.w X.K X.mg X.base C m k f fd ps sp) (hg : X.A.guards = some []) (hr : Room k X.A) (he : PE X o ta)
    (ht : eval (.Call (.Attribute o m apos) [] [] pos) X.env = (do
      let ov ← eval o X.env
      standAt apos.atName
      let (f, first) ← holding [ov] (getMethod ov m pl)
      callWith pos f first (backTo pos (starEach [] X.env)) (backToKw pos (keywordEach [] X.env))) := by rfl) :
    PE X (.Call (.Attribute o m apos) [] [] pos) (tMeth C m sp [] E0 ta tNil) := pm_g0 he c M.m M.g hg hr M.b .nil pass0 ht
end
/-! ### readings -/
section
variable {K : PySem.W.Frag} {H : Hp} {σ : L2.St} {Q : VK} {ta tb tc : TE} {t : TA} {p d C : Addr} {its : List (Nat × Itm)} {nx : Nat} {mg : Str → Option Value} {E : Ends}
theorem LgAt.obC (L : LgAt K H p d its nx) (T : LgC K mg C) : ∃ dx, H p = some (.ins C dx (lgF d nx)) := by
  obtain ⟨C', dx, c, h⟩ := L.ob
  obtain rfl : C' = C := by
    have := c.symm.trans T.at_
    simp at this
    exact this
  exact ⟨dx, h⟩
theorem rd_items (T : LgC K mg C) (L : LgAt K H p d its nx) (e : ∀ R : VK, R (.ref p) H → ta σ H R) (q : Q (.ref d) H) : tFld K ta "_items" σ H Q := by
  obtain ⟨dx, h⟩ := L.obC T
  exact e _ ⟨p, C, dx, _, _, rfl, h, T.cl, T.nI, lgF_items d nx, q⟩
theorem rd_nextN (T : LgC K mg C) (L : LgAt K H p d its nx) (e : ∀ R : VK, R (.ref p) H → ta σ H R) (q : Q (.int (nx : Int)) H) : tFld K ta "_next_number" σ H Q := by
  obtain ⟨dx, h⟩ := L.obC T
  exact e _ ⟨p, C, dx, _, _, rfl, h, T.cl, T.nN, lgF_next d nx, q⟩
theorem rd_mostE (T : LgC K mg C) (L : LgAt K H p d its nx) (e : ∀ R : VK, R (.ref p) H → ta σ H R) (q : Q (.int 6) H) : tCon K ta "MOST_ENTRIES" σ H Q := by
  obtain ⟨dx, h⟩ := L.obC T
  obtain ⟨u, k⟩ := T.cE
  exact e _ ⟨p, C, dx, _, _, u, rfl, h, T.cl, k, lgF_no d nx (by decide +kernel) (by decide +kernel), q⟩
theorem rd_mostS (T : LgC K mg C) (L : LgAt K H p d its nx) (e : ∀ R : VK, R (.ref p) H → ta σ H R) (q : Q (.int 24) H) : tCon K ta "MOST_STATEMENTS" σ H Q := by
  obtain ⟨dx, h⟩ := L.obC T
  obtain ⟨u, k⟩ := T.cS
  exact e _ ⟨p, C, dx, _, _, u, rfl, h, T.cl, k, lgF_no d nx (by decide +kernel) (by decide +kernel), q⟩
/-- a method of a ledger -/
theorem rd_meth {m : Str} {sp : Sp} (T : LgC K mg C) (L : LgAt K H p d its nx) (e : ∀ R : VK, R (.ref p) H → ta σ H R) (q : t σ H fun vs J => sp (.ref p :: vs) J Q E0) (h1 : ¬ m = "_items" := by decide +kernel) (h2 : ¬ m = "_next_number" := by decide +kernel) : tMeth C m sp [] E0 ta t σ H Q := by
  obtain ⟨dx, h⟩ := L.obC T
  refine e _ ⟨p, dx, _, rfl, h, lgF_no d nx h1 h2, ?_⟩
  simpa using q
end

/-! ### the dict -/
section
variable {H J : Hp}
theorem ItmAt.kd {v : V} {i : Itm} (h : ItmAt H v i) : ∃ p a b c, v = .ref p ∧ H p = some (.tup [.str (if isEn i then "entry" else "statement"), a, b, c]) := h.tup
def kdV (H : Hp) (kd : Str) : V → Bool
  | .ref p => match H p with
    | some (.tup (.str s :: _)) => decide (s = kd)
    | _ => false
  | _ => false
theorem kdV_at {v : V} {i : Itm} (h : ItmAt H v i) (kd : Str) : kdV H kd v = decide ((if isEn i then ("entry" : Str) else "statement") = kd) := by
  obtain ⟨p, a, b, c, rfl, e⟩ := h.tup
  simp only [kdV, e]
theorem ent_ne_stm : ¬ (("entry" : Str) = "statement") := by decide +kernel
theorem kdV_en {v : V} {i : Itm} (h : ItmAt H v i) : kdV H "entry" v = isEn i := by
  rw [kdV_at h]
  cases i with
  | en e => exact decide_eq_true rfl
  | st s => exact decide_eq_false fun z => ent_ne_stm z.symm
theorem kdV_st {v : V} {i : Itm} (h : ItmAt H v i) : kdV H "statement" v = !isEn i := by
  rw [kdV_at h]
  cases i with
  | en e => exact decide_eq_false ent_ne_stm
  | st s => exact decide_eq_true rfl
theorem KvsAt.filt {q : V → Bool} {r : Itm → Bool} : ∀ {kvs : List (Key × V)} {its : List (Nat × Itm)}, KvsAt H kvs its → (∀ v i, ItmAt H v i → q v = r i) → ItsAt H ((kvs.map (·.2)).filter q) ((its.map (·.2)).filter r)
  | _, _, .nil, _ => .nil
  | _, _, .cons (v := v) (i := i) h t, e => by
    rw [List.map_cons, List.map_cons, List.filter_cons, List.filter_cons, e v i h]
    split
    · exact .cons h (t.filt e)
    · exact t.filt e
theorem KvsAt.fresh : ∀ {kvs : List (Key × V)} {its : List (Nat × Itm)} {n : Nat}, KvsAt H kvs its → (∀ x ∈ its, x.1 ≠ n) → valV kvs (Sum.inl (n : Int) : Key) = none
  | _, _, _, .nil, _ => rfl
  | _, _, n, .cons (n := m) (v := v) (kvs := kvs) h t, e => by
    have ih := t.fresh fun x hx => e x (List.mem_cons_of_mem _ hx)
    unfold valV at ih ⊢
    rw [List.find?_cons_of_neg]
    · exact ih
    · have := e _ (List.mem_cons_self ..)
      simp
      omega
theorem KvsAt.snoc {n : Nat} {v : V} {i : Itm} (h : ItmAt H v i) : ∀ {kvs : List (Key × V)} {its : List (Nat × Itm)}, KvsAt H kvs its → KvsAt H (kvs ++ [(Sum.inl (n : Int), v)]) (its ++ [(n, i)])
  | _, _, .nil => .cons h .nil
  | _, _, .cons g t => .cons g (t.snoc h)
theorem KvsAt.val : ∀ {kvs : List (Key × V)} {its : List (Nat × Itm)} {n : Nat} {i : Itm}, KvsAt H kvs its → (its.map (·.1)).Nodup → (n, i) ∈ its → ∃ v, valV kvs (Sum.inl (n : Int) : Key) = some v ∧ ItmAt H v i
  | _, _, _, _, .nil, _, m => by cases m
  | _, _, n, i, .cons (n := k) (v := v) (kvs := kvs) h t, nd, m => by
    rw [List.map_cons, List.nodup_cons] at nd
    rcases List.mem_cons.mp m with e | m
    · obtain ⟨rfl, rfl⟩ := Prod.mk.inj e
      refine ⟨v, ?_, h⟩
      unfold valV
      rw [List.find?_cons_of_pos (by simp)]
      rfl
    · obtain ⟨u, e, g⟩ := t.val nd.2 m
      refine ⟨u, ?_, g⟩
      unfold valV at e ⊢
      rw [List.find?_cons_of_neg]
      · exact e
      · have : n ≠ k := fun z => nd.1 (z ▸ List.mem_map_of_mem (f := (·.1)) m)
        simp
        omega
theorem KvsAt.drop (n : Nat) : ∀ {kvs : List (Key × V)} {its : List (Nat × Itm)}, KvsAt H kvs its → KvsAt H (dropK kvs (Sum.inl (n : Int) : Key)) (its.filter fun x => decide (x.1 ≠ n))
  | _, _, .nil => .nil
  | _, _, .cons (n := m) (v := v) (i := i) (kvs := kvs) (its := its) h t => by
    have ih := KvsAt.drop n t
    unfold dropK at ih ⊢
    rw [List.filter_cons, List.filter_cons]
    by_cases c : m = n
    · subst c
      rw [if_neg (by simp), if_neg (by simp)]
      exact ih
    · rw [if_pos (by simp; omega), if_pos (by simp; exact c)]
      exact .cons h ih
/-- [x for x in d.values() if q(x)] -/
theorem lc_filtD {σ : L2.St} {D d : Addr} {od : Obj} {kvs : List (Key × V)} (q : V → Bool) {tt : TT} {te : TE} {i0 : Nat} {Qd : Hp → Prop} (hT : H d = some (.frz od (.dK kvs))) (hl : kvs.length ≤ 1000) (hD : H D = none)
    (he : ∀ kv, kv ∈ kvs → ∀ (l : List V) (R : Bool → Hp → Prop), R (q kv.2) (upd H D (.lst l)) → tt ((σ.set i0 none).set i0 (some kv.2)) (upd H D (.lst l)) R)
    (hf : ∀ kv, kv ∈ kvs → ∀ (l : List V) (R : VK), R kv.2 (upd H D (.lst l)) → te ((σ.set i0 none).set i0 (some kv.2)) (upd H D (.lst l)) R)
    (hd : Qd (upd H D (.lst ((kvs.map (·.2)).filter q)))) : Lc (Itd d od kvs) (gName i0) tt te [i0] σ Qd H D := by
  have ne : d ≠ D := ne_of_none hT hD
  refine ⟨fun i m J => m = kvs.length - i ∧ i ≤ kvs.length ∧ J = upd H D (.lst (((kvs.take i).map (·.2)).filter q)), ⟨kvs.length, by simp, Nat.zero_le _, rfl⟩, ?_⟩
  rintro i m J ⟨rfl, hi, rfl⟩
  have hd2 : ∀ l, (upd H D (.lst l)) d = some (.frz od (.dK kvs)) := fun l => by rw [upd_ne ne]; exact hT
  by_cases lt : i < kvs.length
  · refine .inr ⟨⟨hd2 _, lt⟩, fun J => J = upd H D (.lst (((kvs.take (i + 1)).map (·.2)).filter q)), fun H' e => ⟨kvs.length - (i + 1), by omega, rfl, lt, e⟩, ?_⟩
    rintro x J' ⟨rfl, k, hx⟩
    have hm := List.mem_of_getElem? hx
    have et : ((kvs.take (i + 1)).map (·.2)).filter q = ((kvs.take i).map (·.2)).filter q ++ (if q x = true then [x] else []) := by
      rw [List.take_add_one, hx]
      show (List.map (·.2) (kvs.take i ++ [(k, x)])).filter q = _
      rw [List.map_append, List.filter_append]
      by_cases c : q x = true <;> simp [c]
    refine ⟨?_, ?_⟩
    · show ((σ.set i0 none).set i0 (some x)).set i0 none = σ.set i0 none
      rw [List.set_set, List.set_set]
    · refine he (k, x) hm _ _ ?_
      by_cases c : q x = true
      · show if q x = true then _ else _
        rw [if_pos c]
        refine hf (k, x) hm _ _ ⟨_, upd_same, ?_, ?_⟩
        · have := List.length_filter_le q ((kvs.take i).map (·.2))
          rw [List.length_map, List.length_take] at this
          exact small1000 (by omega)
        · rw [upd_upd, et, if_pos c]
      · show if q x = true then _ else _
        rw [if_neg c]
        rw [et, if_neg c, List.append_nil]
  · have e : i = kvs.length := by omega
    subst e
    refine .inl ⟨⟨hd2 _, Nat.le_refl _⟩, ?_⟩
    rw [List.take_length]
    exact hd
end
/-! ### data -/
def stmD (s : Stm) : PyData := .tuple [.str "statement", .int (s.first : Int), .int (s.many : Int), .int s.num]
def itmD : Itm → PyData
  | .en e => entD e
  | .st s => stmD s
def numD (x : Nat × Itm) : PyData := .tuple [.int (x.1 : Int), itmD x.2]
section
variable {K : PySem.W.Frag} {H : Hp} {Q : VK}
theorem ItmAt.dp {v : V} : ∀ {i : Itm}, ItmAt H v i → Dp K H v (itmD i)
  | .en e, ⟨h, _⟩ => by
    have := EntsAt.dp (K := K) (EntsAt.cons h .nil)
    cases this with
    | cons h _ => exact h
  | .st s, ⟨⟨p, e, h⟩, _⟩ => by
    subst e
    exact Dp.tup (SqT.of h) (.cons (.str _) (.cons (.int _) (.cons (.int _) (.cons (.int _) .nil))))
theorem ItsAt.dp : ∀ {vs : List V} {is : List Itm}, ItsAt H vs is → DpAll K H vs (is.map itmD)
  | _, _, .nil => .nil
  | _, _, .cons h t => .cons h.dp t.dp
theorem KvsAt.dpN {J : Hp} : ∀ {kvs : List (Key × V)} {its : List (Nat × Itm)} {ts : List Addr}, KvsAt J kvs its → Paired (fun (t : Addr) (q : Key × V) => J t = some (.tup [kV q.1, q.2])) ts kvs → DpAll K J (ts.map V.ref) (its.map numD)
  | _, _, _, .nil, .nil => .nil
  | _, _, _, .cons h t, .cons e r => .cons (.tup (SqT.of e) (.cons (.int _) (.cons h.dp .nil))) (t.dpN r)
theorem rd_eqStr {i j : Str} (q : Q (.bl (decide (i = j))) H) : rEq (.str i) (.str j) H Q := ⟨rfl, by
  rw [show decide (V.str i = V.str j) = decide (i = j) from decide_eq_decide.mpr ⟨fun h => by injection h, fun h => by rw [h]⟩]
  exact q⟩
/-! ### the sums do not ask for an order -/
end
end Ob
/-! Tuples put together. -/
namespace Ob
open PySem PySem.Spec PyProof.Rows L2
end Ob
/-! Defs that may raise, over FnG: a def's end, calls of one, and the own classes' first line Base.__init__(self, ..). -/
namespace Ob
open PySem PySem.Spec PyProof.Rows L2
section
variable {P : Program} {w : World} {K : PySem.W.Frag} {mg : Str → Option Value} {base : Heap} {CX : CXT}
end
section
variable {X : Cx} {CX : CXT} {k : Nat} {f C : Addr} {fd : FuncData} {ps : List Str} {sp : Sp} {ds : List Value} {dvs : List V} {E : L2.St → XK} {m x : Str} {o e : Expr} {es : List Expr} {ta : TE} {t : TA} {apos p pos : PySem.Pos} {pl : Sem Bool}
end
section
variable {X : Cx} {e : Expr} {es : List Expr} {ta : TA} {p1 p2 pos : PySem.Pos} {x : Str} {D : Addr}
end
/-! ### what a raising def is to its callers; a class of errors with its own __init__ -/
section
variable {X : Cx} {k : Nat} {f C fI : Addr} {fd : FuncData} {ps : List Str} {sp : Sp} {m x fl : Str} {o e : Expr} {es : List Expr} {ta : TE} {t : TA} {W : WX} {p apos pos pos2 : PySem.Pos} {pl : Sem Bool}
end
section
variable {K : PySem.W.Frag} {σ : L2.St} {H : Hp} {f : Str}
end
/-! ### x not in a tuple of data -/
/-! ### the heap behind C(e) -/
/-! ### an own error in a suite: isinstance of it; len of an instance; a classmethod that raises; cls() -/
section
variable {X : Cx} {k : Nat} {f C : Addr} {fd : FuncData} {ps : List Str} {sp : Sp} {m x : Str} {o e : Expr} {es : List Expr} {ta : TE} {t : TA} {W : WX} {p1 apos pos : PySem.Pos} {pl : Sem Bool}
end
end Ob
/-! The best cut: where the sets of cuts begin, and the weights of wishes. -/
namespace Ob
open PySem PySem.Spec PyProof.Rows L2
theorem SnsOf.to {g : Nat} : ∀ {ps : List (Nat × Nat)} {ss : List Sn}, SnsOf g ps ss → ∀ r ∈ ps, ∃ s ∈ ss, IsLow (r.1 : Int) (g : Int) s.x s.y
  | _, _, .nil, r, h => by cases h
  | _, _, .cons a b t, r, h => by
    rcases List.mem_cons.mp h with rfl | h
    · exact ⟨_, List.mem_cons_self, a⟩
    · obtain ⟨s, hs, k⟩ := t.to r h
      exact ⟨s, List.mem_cons_of_mem _ hs, k⟩
theorem SnsOf.fro {g : Nat} : ∀ {ps : List (Nat × Nat)} {ss : List Sn}, SnsOf g ps ss → ∀ s ∈ ss, ∃ r ∈ ps, IsLow (r.1 : Int) (g : Int) s.x s.y
  | _, _, .nil, r, h => by cases h
  | _, _, .cons a b t, r, h => by
    rcases List.mem_cons.mp h with rfl | h
    · exact ⟨_, List.mem_cons_self, a⟩
    · obtain ⟨s, hs, k⟩ := t.fro r h
      exact ⟨s, List.mem_cons_of_mem _ hs, k⟩
theorem Asc.lt2 : ∀ {ps : List (Nat × Nat)} {i : Nat}, Asc i ps → ∀ r ∈ ps, r.1 < r.2
  | _, _, .nil, r, h => by cases h
  | _, _, .cons a b t, r, h => by
    rcases List.mem_cons.mp h with rfl | h
    · exact b
    · exact t.lt2 r h
theorem Frm.low {G : Nat} {f : Nat → Bool} {ss : List Sn} (h : Frm G f ss) {v : Nat} (hv : v < G) (fv : f v = true) : ∃ s ∈ ss, ∃ a : Nat, IsLow (a : Int) (G : Int) s.x s.y ∧ a ≤ v ∧ ∀ w, a ≤ w → w ≤ v → f w = true := by
  obtain ⟨r, hr, h1, h2⟩ := (in_rruns f G v).mpr ⟨hv, fv⟩
  obtain ⟨s, hs, lo⟩ := h.2.to r hr
  exact ⟨s, hs, r.1, lo, h1, fun w a b => ((in_rruns f G w).mp ⟨r, hr, a, by omega⟩).2⟩
theorem Frm.start {G : Nat} {f : Nat → Bool} {ss : List Sn} (h : Frm G f ss) {s : Sn} (hs : s ∈ ss) : ∃ a : Nat, a < G ∧ f a = true ∧ IsLow (a : Int) (G : Int) s.x s.y := by
  obtain ⟨r, hr, lo⟩ := h.2.fro s hs
  have lt := (asc_rev (rruns_ok f G)).lt2 r hr
  obtain ⟨a, b⟩ := (in_rruns f G r.1).mp ⟨r, hr, Nat.le_refl _, lt⟩
  exact ⟨r.1, a, b, lo⟩
theorem Frm.hasU {G : Nat} {f : Nat → Bool} {ss : List Sn} (h : Frm G f ss) {a : Nat} {x y : Int} (ha : a < G) (low : IsLow (a : Int) (G : Int) x y) : ss.any (hasS x y) = f a := by
  have g0 := h.1
  have l2 : IsLow ((a : Int) * 1 + 0) ((G : Int) * 1) x y := by
    rw [Int.mul_one, Int.mul_one, Int.add_zero]
    exact low
  have hf := has_form l2 (by omega) (by decide) (by decide) (by decide) h.2
  have m := in_rruns f G a
  rw [Bool.eq_iff_iff, hf]
  constructor
  · rintro ⟨r, hr, h1, h2⟩
    exact (m.mp ⟨r, hr, by omega, by omega⟩).2
  · intro z
    obtain ⟨r, hr, h1, h2⟩ := m.mpr ⟨ha, z⟩
    exact ⟨r, hr, by omega, by omega⟩
/-! ### wishes -/
structure Wsh where
  d : Nat
  n : Nat
  num : Int
  wt : Nat
def wF (G : Nat) (es : List Ent) (w : Wsh) (u : Nat) : Bool := tellF G es w.d w.n w.num u
def wgt (G : Nat) (es : List Ent) (ws : List Wsh) (u : Nat) : Nat := (ws.map fun w => if wF G es w u = true then w.wt else 0).sum
theorem wgt_le {G : Nat} {es : List Ent} {u v : Nat} : ∀ {ws : List Wsh}, (∀ w ∈ ws, wF G es w u = true → wF G es w v = true) → wgt G es ws u ≤ wgt G es ws v
  | [], _ => Nat.le_refl _
  | w :: ws, h => by
    have ih := wgt_le (ws := ws) fun x hx => h x (List.mem_cons_of_mem _ hx)
    have h0 := h w List.mem_cons_self
    unfold wgt at ih ⊢
    rw [List.map_cons, List.map_cons, List.sum_cons, List.sum_cons]
    refine Nat.add_le_add ?_ ih
    by_cases c : wF G es w u = true
    · rw [if_pos c, if_pos (h0 c)]
      exact Nat.le_refl _
    · rw [if_neg c]
      exact Nat.zero_le _
def Gd (W : Nat → Nat) (v s : Nat) : Prop := W s < W v ∨ (W s = W v ∧ v ≤ s)
def pickU (W : Nat → Nat) : Option Nat → Nat → Option Nat
  | none, s => some s
  | some u, s => if W u < W s ∨ (W s = W u ∧ s < u) then some s else some u
def bestU (W : Nat → Nat) (L : List Nat) : Option Nat := L.foldl (pickU W) none
theorem bestU_snoc (W : Nat → Nat) (L : List Nat) (s : Nat) : bestU W (L ++ [s]) = pickU W (bestU W L) s := by
  unfold bestU
  rw [List.foldl_append]
  rfl
theorem pick_fold (W : Nat → Nat) : ∀ (L : List Nat) (u : Nat), ∃ v, L.foldl (pickU W) (some u) = some v ∧ (v = u ∨ v ∈ L) ∧ Gd W v u ∧ ∀ s ∈ L, Gd W v s
  | [], u => ⟨u, rfl, .inl rfl, .inr ⟨rfl, Nat.le_refl _⟩, fun s hs => by cases hs⟩
  | s :: L, u => by
    obtain ⟨t, et, ht, g1, g2⟩ : ∃ t, pickU W (some u) s = some t ∧ (t = u ∨ t = s) ∧ Gd W t u ∧ Gd W t s := by
      by_cases c : W u < W s ∨ (W s = W u ∧ s < u)
      · exact ⟨s, if_pos c, .inr rfl, by unfold Gd; omega, by unfold Gd; omega⟩
      · exact ⟨u, if_neg c, .inl rfl, by unfold Gd; omega, by unfold Gd; omega⟩
    obtain ⟨v, ev, hv, k1, k2⟩ := pick_fold W L t
    refine ⟨v, by rw [List.foldl_cons, et]; exact ev, ?_, ?_, fun x hx => ?_⟩
    · rcases hv with rfl | hv
      · rcases ht with rfl | rfl
        · exact .inl rfl
        · exact .inr List.mem_cons_self
      · exact .inr (List.mem_cons_of_mem _ hv)
    · unfold Gd at *
      omega
    · rcases List.mem_cons.mp hx with rfl | hx
      · unfold Gd at *
        omega
      · exact k2 x hx
theorem bestU_spec (W : Nat → Nat) (L : List Nat) : (L = [] ∧ bestU W L = none) ∨ ∃ u ∈ L, bestU W L = some u ∧ ∀ s ∈ L, Gd W u s := by
  cases L with
  | nil => exact .inl ⟨rfl, rfl⟩
  | cons s L =>
    obtain ⟨v, ev, hv, k1, k2⟩ := pick_fold W L s
    refine .inr ⟨v, ?_, ev, fun x hx => ?_⟩
    · rcases hv with rfl | hv
      · exact List.mem_cons_self
      · exact List.mem_cons_of_mem _ hv
    · rcases List.mem_cons.mp hx with rfl | hx
      · exact k1
      · exact k2 x hx
/-- the low ends suffice -/
theorem best_all {G : Nat} {es : List Ent} {f : Nat → Bool} {cs : List Sn} (C : Frm G f cs) {ws : List Wsh} {L : List Nat}
    (c0 : ∀ s ∈ cs, ∃ a ∈ L, IsLow (a : Int) (G : Int) s.x s.y)
    (c1 : ∀ w ∈ ws, ∃ ss, Frm G (wF G es w) ss ∧ ∀ s ∈ ss, ∀ a : Nat, a < G → IsLow (a : Int) (G : Int) s.x s.y → f a = true → a ∈ L)
    {v : Nat} (hv : v < G) (ov : f v = true) : ∃ s ∈ L, s ≤ v ∧ wgt G es ws v ≤ wgt G es ws s := by
  obtain ⟨s0, hs0, a0, lo0, le0, ok0⟩ := C.low hv ov
  obtain ⟨a, ha, loa⟩ := c0 s0 hs0
  obtain rfl := low_inj loa lo0
  have key : ∃ m ∈ L, a ≤ m ∧ m ≤ v ∧ ∀ w ∈ ws, wF G es w v = true → ∀ x, m ≤ x → x ≤ v → wF G es w x = true := by
    clear hs0 loa lo0 c0
    induction ws with
    | nil => exact ⟨a, ha, Nat.le_refl _, le0, fun w hw => by cases hw⟩
    | cons w ws ih =>
      obtain ⟨m, hm, am, mv, hw⟩ := ih fun x hx => c1 x (List.mem_cons_of_mem _ hx)
      by_cases c : wF G es w v = true
      · obtain ⟨ss, F, inL⟩ := c1 w List.mem_cons_self
        obtain ⟨s, hs, b, lob, leb, okb⟩ := F.low hv c
        by_cases d : b ≤ m
        · refine ⟨m, hm, am, mv, fun x hx => ?_⟩
          rcases List.mem_cons.mp hx with rfl | hx
          · exact fun _ y h1 h2 => okb y (by omega) h2
          · exact hw x hx
        · refine ⟨b, inL s hs b (by omega) lob (ok0 b (by omega) leb), by omega, leb, fun x hx => ?_⟩
          rcases List.mem_cons.mp hx with rfl | hx
          · exact fun _ y h1 h2 => okb y h1 h2
          · exact fun k y h1 h2 => hw x hx k y (by omega) h2
      · refine ⟨m, hm, am, mv, fun x hx => ?_⟩
        rcases List.mem_cons.mp hx with rfl | hx
        · exact fun k => absurd k c
        · exact hw x hx
  obtain ⟨m, hm, am, mv, hw⟩ := key
  exact ⟨m, hm, mv, wgt_le fun w hw' k => hw w hw' k m (Nat.le_refl _) mv⟩
/-! ### in the heap -/
def UAt (K : PySem.W.Frag) (J : Hp) (G : Nat) (v : V) (u : Nat) : Prop := ∃ c x y, v = .ref c ∧ SqT K J c [.int x, .int y] ∧ IsLow (u : Int) (G : Int) x y ∧ u < G
inductive UsAt (K : PySem.W.Frag) (J : Hp) (G : Nat) : List V → List Nat → Prop
  | nil : UsAt K J G [] []
  | cons {r : V} {rs : List V} {u : Nat} {us : List Nat} (h : UAt K J G r u) (t : UsAt K J G rs us) : UsAt K J G (r :: rs) (u :: us)
def TgAt (K : PySem.W.Frag) (D : Addr) (J : Hp) (G : Nat) (es : List Ent) (r : V) (w : Wsh) : Prop := ∃ t L rs ss, r = .ref t ∧ J t = some (.tup [.ref L, .int (w.wt : Int)]) ∧ L ≠ D ∧ J L = some (.lst rs) ∧ SnsAt K J rs ss ∧ Frm G (wF G es w) ss ∧ rs.length ≤ 2
inductive TgsAt (K : PySem.W.Frag) (D : Addr) (J : Hp) (G : Nat) (es : List Ent) : List V → List Wsh → Prop
  | nil : TgsAt K D J G es [] []
  | cons {r : V} {rs : List V} {w : Wsh} {ws : List Wsh} (h : TgAt K D J G es r w) (t : TgsAt K D J G es rs ws) : TgsAt K D J G es (r :: rs) (w :: ws)
def WhAt (J : Hp) (r : V) (w : Wsh) : Prop := ∃ t p, r = .ref t ∧ J t = some (.tup [.ref p, .int w.num, .int (w.wt : Int)]) ∧ J p = some (.tup [.int (w.d : Int), .int (w.n : Int)])
inductive WhsAt (J : Hp) : List V → List Wsh → Prop
  | nil : WhsAt J [] []
  | cons {r : V} {rs : List V} {w : Wsh} {ws : List Wsh} (h : WhAt J r w) (t : WhsAt J rs ws) : WhsAt J (r :: rs) (w :: ws)
def NumAt (J : Hp) (r : V) (x : Nat × Itm) : Prop := ∃ t v, r = .ref t ∧ J t = some (.tup [.int (x.1 : Int), v]) ∧ ItmAt J v x.2
inductive NumsAt (J : Hp) : List V → List (Nat × Itm) → Prop
  | nil : NumsAt J [] []
  | cons {r : V} {rs : List V} {x : Nat × Itm} {xs : List (Nat × Itm)} (h : NumAt J r x) (t : NumsAt J rs xs) : NumsAt J (r :: rs) (x :: xs)
section
variable {K : PySem.W.Frag} {D S : Addr} {J M : Hp} {G : Nat} {es : List Ent}
theorem UsAt.len : ∀ {rs : List V} {us : List Nat}, UsAt K J G rs us → rs.length = us.length
  | _, _, .nil => rfl
  | _, _, .cons _ t => congrArg (· + 1) t.len
theorem UsAt.get : ∀ {rs : List V} {us : List Nat}, UsAt K J G rs us → ∀ {i : Nat} {r : V}, rs[i]? = some r → ∃ u, us[i]? = some u ∧ UAt K J G r u
  | _, _, .nil, _, _, e => by cases e
  | _, _, .cons h _, 0, _, e => by
    obtain rfl := Option.some.inj e
    exact ⟨_, rfl, h⟩
  | _, _, .cons _ t, _ + 1, _, e => t.get e
theorem UsAt.app : ∀ {rs : List V} {us : List Nat} {zs : List V} {vs : List Nat}, UsAt K J G rs us → UsAt K J G zs vs → UsAt K J G (rs ++ zs) (us ++ vs)
  | _, _, _, _, .nil, k => k
  | _, _, _, _, .cons h t, k => .cons h (t.app k)
theorem UAt.mono (m : ∀ p xs, SqT K J p xs → SqT K M p xs) {r : V} {u : Nat} (h : UAt K J G r u) : UAt K M G r u :=
  let ⟨c, x, y, e, a, b⟩ := h; ⟨c, x, y, e, m _ _ a, b⟩
theorem UsAt.mono (m : ∀ p xs, SqT K J p xs → SqT K M p xs) : ∀ {rs : List V} {us : List Nat}, UsAt K J G rs us → UsAt K M G rs us
  | _, _, .nil => .nil
  | _, _, .cons h t => .cons (h.mono m) (t.mono m)
theorem UAt.lt {r : V} {u : Nat} (h : UAt K J G r u) : u < G := by
  obtain ⟨_, _, _, _, _, _, l⟩ := h
  exact l
theorem TgsAt.len : ∀ {rs : List V} {us : List Wsh}, TgsAt K D J G es rs us → rs.length = us.length
  | _, _, .nil => rfl
  | _, _, .cons _ t => congrArg (· + 1) t.len
theorem TgsAt.get : ∀ {rs : List V} {us : List Wsh}, TgsAt K D J G es rs us → ∀ {i : Nat} {r : V}, rs[i]? = some r → ∃ u, us[i]? = some u ∧ TgAt K D J G es r u
  | _, _, .nil, _, _, e => by cases e
  | _, _, .cons h _, 0, _, e => by
    obtain rfl := Option.some.inj e
    exact ⟨_, rfl, h⟩
  | _, _, .cons _ t, _ + 1, _, e => t.get e
theorem TgsAt.app : ∀ {rs : List V} {us : List Wsh} {zs : List V} {vs : List Wsh}, TgsAt K D J G es rs us → TgsAt K D J G es zs vs → TgsAt K D J G es (rs ++ zs) (us ++ vs)
  | _, _, _, _, .nil, k => k
  | _, _, _, _, .cons h t, k => .cons h (t.app k)
theorem TgAt.same (s : Same J M) {r : V} {w : Wsh} (h : TgAt K D J G es r w) : TgAt K D M G es r w :=
  let ⟨t, L, rs, ss, e, a, n, b, c, d⟩ := h; ⟨t, L, rs, ss, e, s _ _ a, n, s _ _ b, c.mono fun p xs h => sqt_same s h, d⟩
theorem TgAt.pu (s : Pu D J M) {r : V} {w : Wsh} (h : TgAt K D J G es r w) : TgAt K D M G es r w :=
  let ⟨t, L, rs, ss, e, a, n, b, c, d⟩ := h; ⟨t, L, rs, ss, e, s.tup a, n, s.1 _ _ n b, c.mono fun p xs h => sqt_pu s h, d⟩
theorem TgAt.re (n : J S = none) {r : V} {w : Wsh} (h : TgAt K D J G es r w) : TgAt K S J G es r w :=
  let ⟨t, L, rs, ss, e, a, _, b, c, d⟩ := h; ⟨t, L, rs, ss, e, a, ne_of_none b n, b, c, d⟩
theorem TgsAt.imp {T : Addr} (m : ∀ r w, TgAt K D J G es r w → TgAt K T M G es r w) : ∀ {rs : List V} {us : List Wsh}, TgsAt K D J G es rs us → TgsAt K T M G es rs us
  | _, _, .nil => .nil
  | _, _, .cons h t => .cons (m _ _ h) (t.imp m)
theorem WhsAt.len : ∀ {rs : List V} {us : List Wsh}, WhsAt J rs us → rs.length = us.length
  | _, _, .nil => rfl
  | _, _, .cons _ t => congrArg (· + 1) t.len
theorem WhsAt.get : ∀ {rs : List V} {us : List Wsh}, WhsAt J rs us → ∀ {i : Nat} {r : V}, rs[i]? = some r → ∃ u, us[i]? = some u ∧ WhAt J r u
  | _, _, .nil, _, _, e => by cases e
  | _, _, .cons h _, 0, _, e => by
    obtain rfl := Option.some.inj e
    exact ⟨_, rfl, h⟩
  | _, _, .cons _ t, _ + 1, _, e => t.get e
theorem WhsAt.app : ∀ {rs : List V} {us : List Wsh} {zs : List V} {vs : List Wsh}, WhsAt J rs us → WhsAt J zs vs → WhsAt J (rs ++ zs) (us ++ vs)
  | _, _, _, _, .nil, k => k
  | _, _, _, _, .cons h t, k => .cons h (t.app k)
theorem WhAt.mono (m : ∀ p xs, J p = some (.tup xs) → M p = some (.tup xs)) {r : V} {w : Wsh} (h : WhAt J r w) : WhAt M r w :=
  let ⟨t, p, e, a, b⟩ := h; ⟨t, p, e, m _ _ a, m _ _ b⟩
theorem WhsAt.mono (m : ∀ p xs, J p = some (.tup xs) → M p = some (.tup xs)) : ∀ {rs : List V} {us : List Wsh}, WhsAt J rs us → WhsAt M rs us
  | _, _, .nil => .nil
  | _, _, .cons h t => .cons (h.mono m) (t.mono m)
theorem NumsAt.len : ∀ {rs : List V} {us : List (Nat × Itm)}, NumsAt J rs us → rs.length = us.length
  | _, _, .nil => rfl
  | _, _, .cons _ t => congrArg (· + 1) t.len
theorem NumsAt.get : ∀ {rs : List V} {us : List (Nat × Itm)}, NumsAt J rs us → ∀ {i : Nat} {r : V}, rs[i]? = some r → ∃ u, us[i]? = some u ∧ NumAt J r u
  | _, _, .nil, _, _, e => by cases e
  | _, _, .cons h _, 0, _, e => by
    obtain rfl := Option.some.inj e
    exact ⟨_, rfl, h⟩
  | _, _, .cons _ t, _ + 1, _, e => t.get e
theorem NumsAt.app : ∀ {rs : List V} {us : List (Nat × Itm)} {zs : List V} {vs : List (Nat × Itm)}, NumsAt J rs us → NumsAt J zs vs → NumsAt J (rs ++ zs) (us ++ vs)
  | _, _, _, _, .nil, k => k
  | _, _, _, _, .cons h t, k => .cons h (t.app k)
theorem NumAt.mono (m : ∀ p xs, J p = some (.tup xs) → M p = some (.tup xs)) {r : V} {w : Nat × Itm} (h : NumAt J r w) : NumAt M r w :=
  let ⟨t, p, e, a, b⟩ := h; ⟨t, p, e, m _ _ a, b.mono m⟩
theorem NumsAt.mono (m : ∀ p xs, J p = some (.tup xs) → M p = some (.tup xs)) : ∀ {rs : List V} {us : List (Nat × Itm)}, NumsAt J rs us → NumsAt M rs us
  | _, _, .nil => .nil
  | _, _, .cons h t => .cons (h.mono m) (t.mono m)
theorem KvsAt.nums : ∀ {kvs : List (Key × V)} {its : List (Nat × Itm)} {ts : List Addr}, KvsAt J kvs its → Paired (fun (t : Addr) (q : Key × V) => J t = some (.tup [kV q.1, q.2])) ts kvs → NumsAt J (ts.map V.ref) its
  | _, _, _, .nil, .nil => .nil
  | _, _, _, .cons h t, .cons e r => .cons ⟨_, _, rfl, e, h⟩ (t.nums r)
/-- list(d.items()), the rows -/
theorem rd_itemsN {H : Hp} {Q : VK} {σ : L2.St} {ta : TE} {d : Addr} {kvs : List (Key × V)} {its : List (Nat × Itm)} (hd : H d = some (.dK kvs)) (s : KvsAt H kvs its) (e : ∀ R : VK, R (.ref d) H → ta σ H R)
    (q : ∀ z J rs, H z = none → Same H J → J z = some (.lst rs) → NumsAt J rs its → Dp K J (.ref z) (.list (its.map numD)) → Q (.ref z) J) : LiI.tListItems ta σ H Q := by
  refine e _ ⟨d, kvs, rfl, hd, fun J z ts sm nz _ _ ez pr => ?_⟩
  have s2 := s.mono fun p xs h => sm _ _ h
  exact q z J _ nz sm ez (s2.nums pr) (Dp.lst (SqL.of ez) (s2.dpN pr))
/-! ### a comprehension over a list with a test that may call -/
def FEnd (D : Addr) (H : Hp) (P : Nat → List V → Hp → Prop) (i : Nat) (J : Hp) : Prop := ∃ zs, zs.length ≤ i ∧ Kp D H J ∧ J D = some (.lst zs) ∧ P i zs J
theorem lc_growF {H : Hp} {σ : L2.St} {a D : Addr} {xs : List V} {g : TG} {tt : TT} {te : TE} {vs : List Nat} (P : Nat → List V → Hp → Prop) {Qd : Hp → Prop} (ha : H a = some (.lst xs)) (hl : xs.length ≤ 500) (hD : H D = none) (h0 : ∀ J, Kp D H J → P 0 [] J)
    (he : ∀ (i : Nat) x zs J, xs[i]? = some x → i ≤ 500 → zs.length ≤ i → Kp D H J → J D = some (.lst zs) → P i zs J → g x (wipe σ vs) J fun σ2 J2 => wipe σ2 vs = wipe σ vs ∧ tt σ2 J2 fun b J3 => if b = true then te σ2 J3 fun y J4 => ∃ acc, J4 D = some (.lst acc) ∧ acc.length < sizeLine ∧ FEnd D H P (i + 1) (upd J4 D (.lst (acc ++ [y]))) else FEnd D H P (i + 1) J3)
    (hd : ∀ zs J, zs.length ≤ xs.length → Kp D H J → J D = some (.lst zs) → P xs.length zs J → Qd J) : Lc (Itl K a) g tt te vs σ Qd H D := by
  have na : a ≠ D := ne_of_none ha hD
  refine lc_list (xs := xs) (FEnd D H P) ⟨[], Nat.le_refl _, Kp.new hD, upd_same, h0 _ (Kp.new hD)⟩ (fun i J _ w => ?_) (fun i x J hx w => ?_) fun J w => ?_
  · obtain ⟨zs, _, k, _⟩ := w
    exact SqL.of (k a _ na ha)
  · obtain ⟨zs, le, k, e, p⟩ := w
    have lt : i < xs.length := (List.getElem?_eq_some_iff.mp hx).1
    exact he i x zs J hx (by omega) le k e p
  · obtain ⟨zs, le, k, e, p⟩ := w
    exact hd zs J le k e p
theorem fEnd_mk {H : Hp} {P : Nat → List V → Hp → Prop} {i : Nat} {y : V} {ys : List V} (h : J D = some (.lst ys)) (hl : ys.length ≤ i) (hz : i ≤ 500) (k : Kp D H J) (q : ∀ J4, Pu D J J4 → J4 D = some (.lst (ys ++ [y])) → P (i + 1) (ys ++ [y]) J4) : ∃ acc, J D = some (.lst acc) ∧ acc.length < sizeLine ∧ FEnd D H P (i + 1) (upd J D (.lst (acc ++ [y]))) :=
  ⟨ys, h, small1000 (by omega), ys ++ [y], by rw [List.length_append, List.length_singleton]; omega, k.trans Kp.at, upd_same, q _ ⟨Kp.at, ⟨_, h⟩, ⟨_, upd_same⟩⟩ upd_same⟩
end
end Ob
set_option maxHeartbeats 1000000
/-! sum of a tuple of ints -/
namespace Ob
open PySem PySem.Spec PyProof.Rows L2
def rSumT (K : PySem.W.Frag) : List V → Hp → VK → Prop := fun vs H Q => ∃ (a : Addr) (ns : List Int), vs = [V.ref a] ∧ SqT K H a (ns.map V.int) ∧ Q (.int ns.sum) H
theorem cr_sumT {X : Cx} (hc : X.calm = true) : CallR X (.builtin "sum") (rSumT X.K) := by
  intro pins s σ H vs us Q I r h
  obtain ⟨a, ns, rfl, hs, q⟩ := h
  obtain ⟨its, rv, hl, _⟩ := I.tuple hs
  have hl : s.heap.IsTuple a its.toArray := hl
  rw [Vals.ref1 r]
  have hi := rv.ints
  obtain ⟨xs, e⟩ := hi.allInts.items
  have hn : numsOf (intItems xs).toList = ns := by rw [← e]; exact hi.numsOf
  rw [nums_intItems] at hn
  rw [e] at hl
  refine PySem.W.ktm_sumG (I.ok.hd hc) hl fun h' tk t' hk => ⟨.int _, H, I.kept hk, ⟨_, rfl⟩, ?_⟩
  rw [preSum_eq, List.take_of_length_le (by simp), hn]
  exact q
theorem sumTK {X : Cx} {K : PySem.W.Frag} (h : X.K = K) (hc : X.calm = true) : CallR X (.builtin "sum") (rSumT K) := h ▸ cr_sumT hc
theorem rd_sumT {K : PySem.W.Frag} {H : Hp} {Q : VK} {a : Addr} {ns : List Int} (h : SqT K H a (ns.map V.int)) (q : Q (.int ns.sum) H) : rSumT K [.ref a] H Q := ⟨a, ns, rfl, h, q⟩
end Ob
namespace Ob
open PySem PySem.Spec PyProof.Rows L2
/-! ## Days whole rounds apart: sums, remainders, first days and counts -/
/-- no entry begins or ends strictly between -/
def Calm (es : List Ent) (a b : Nat) : Prop := ∀ e ∈ es, ¬ (a < e.first ∧ e.first < b) ∧ ¬ (a < e.first + e.many ∧ e.first + e.many < b)
section
variable {G : Nat} {es : List Ent} {a b : Nat}
end
/-! ### the same fraction has the same part below one -/
/-! ### a stretch by its rows -/
/-! ### stretches without a begin or an end -/
inductive Segs (es : List Ent) : Nat → Nat → List (Nat × Nat) → Prop
  | nil {s : Nat} : Segs es s s []
  | cons {s n e : Nat} {L : List (Nat × Nat)} (n0 : 0 < n) (c : Calm es s (s + n)) (t : Segs es (s + n) e L) : Segs es s e ((s, n) :: L)
theorem Segs.le {es : List Ent} : ∀ {s e : Nat} {L : List (Nat × Nat)}, Segs es s e L → s ≤ e
  | _, _, _, .nil => Nat.le_refl _
  | _, _, _, .cons n0 _ t => by
    have := t.le
    omega
end Ob
namespace L2
open PySem PySem.Spec PyProof.Rows
/-! ## range of any two ints -/
section
variable {X : Cx} {tg : Expr}
end
end L2
namespace Ob
open PySem PySem.Spec PyProof.Rows L2
end Ob
namespace L2
open PySem PySem.Spec PyProof.Rows
/-! ## sorted(a set of ints), of any size -/
section
variable {P : Program} {w : World} {A : Around} {E : Value → Shared → Prop} {s : Shared} {a : Addr}
theorem set_sorted_any {S : Int → Bool} {n : Nat} {Q : Value → Shared → Prop} (R : SetR w s.heap a S n) (hh : A.handled = none) (hz : n ≤ sizeLine)
    (hQ : ∀ s' p (out : List Value) (c : Nat) (ns : List Int), (∀ b o, s.heap.get? b = some o → s'.heap.get? b = some o) → s'.gens = s.gens → s'.os = s.os → s.heap.objs.size ≤ p →
      s'.heap.get? p = some (seqObj "list" out.toArray c) → IntsAre out ns → ns.Pairwise (· < ·) → (∀ k, k ∈ ns ↔ S k = true) → ns.length = n → Q (.ref p) s') :
    wpAny (model P w) A (call (.builtin "sorted") [.ref a]) Q E s := by
  obtain ⟨ob, es, ep, t, at_, ex, hd, kv, nd, mem, hb, hf, hn, hr, hl⟩ := R
  refine Calls.call_function_entry kind_sorted plain_sorted entry_sorted (args_sorted1 _) ?_
  unfold Builtin.«sorted»
  refine wpAny_bind (m := checkCount "sorted" 1 1 _) (wpAny_pure ?_)
  refine wpAny_bind (collect_set (A := A.in1) hh ⟨ob, at_, ex.1, hd⟩ hf hb hr hl fun s1 vs old top g1 o1 pm => ?_)
  have lv : vs.length = n := by
    rw [pm.length_eq, List.length_map, Array.length_toList]
    exact hn
  have iA : IntsAre vs (vs.map Builtin.Re.reRawOf) := ints_of vs fun v hv => by
    obtain ⟨e, he, rfl⟩ := List.mem_map.mp (pm.mem_iff.mp hv)
    obtain ⟨k, tk, h1, _⟩ := kv e he
    exact ⟨k, tk, h1⟩
  have pk : (vs.map Builtin.Re.reRawOf).Perm (es.toList.map keyOf) := by
    have q := pm.map Builtin.Re.reRawOf
    rw [List.map_map] at q
    exact q
  refine wpAny_bind (wpAny_newList ?_ (by rw [lv]; exact hz))
  have atL : (s1.heap.push (seqObj "list" vs.toArray 0)).get? s1.heap.objs.size = some (seqObj "list" vs.toArray 0) := Heap.get?_push_size _ rfl
  refine wpAny_bind (wpAny_holding (wpAny_call_entry slot_list_sort ⟨_, atL, rfl⟩ entry_list_sort
    (SrtO.list_sort_ord SrtO.swo_int atL (by rw [lv]; exact hz) (fun h2 => SrtO.ints_sortable iA h2) fun out h1 h2 => ⟨_, rfl, ?_⟩) (args_list_sort _)))
  obtain ⟨c, hc⟩ := sortedHeap_at (vs := vs) (out := out.toArray) atL
  obtain ⟨k1, k2, k3⟩ := SrtO.ints_out iA h1 h2
  have pn := k2.trans pk
  refine wpAny_pure ⟨_, rfl, hQ _ s1.heap.objs.size out c _ (fun b u e => ?_) g1 o1 top hc k1 (lt_of_le_nodup _ k3 (pn.nodup_iff.mpr nd)) (fun k => by rw [pn.mem_iff, ← mem k]) ?_⟩
  · have q := old b u e
    have lt := Heap.lt_size q
    show (sortedHeap (s1.heap.push (seqObj "list" vs.toArray 0)) s1.heap.objs.size vs out.toArray).get? b = some u
    rw [sortedHeap_old (Nat.ne_of_lt lt) (by rw [size_push']; exact Nat.lt_succ_of_lt lt)]
    exact Heap.get?_push_of_some _ q
  · rw [pn.length_eq, List.length_map, Array.length_toList]
    exact hn
end
def rSortSet (w : World) : List V → Hp → VK → Prop := fun vs H Q => ∃ (a : Addr) (S : Int → Bool) (n : Nat), vs = [V.ref a] ∧ H a = some (SetO w a S n) ∧ n ≤ 1000 ∧
  ∀ (ns : List Int) (p : Addr), ns.Pairwise (· < ·) → (∀ k : Int, k ∈ ns ↔ S k = true) → ns.length = n → H p = none → Q (.ref p) (upd H p (.lst (ns.map V.int)))
section
variable {X : Cx}
theorem cr_sortSet (hc : X.calm = true) : CallR X (.builtin "sorted") (rSortSet X.w) := by
  intro pins s σ H vs us Q I r h
  obtain ⟨a, S, n, rfl, ha, ln, q⟩ := h
  have R := setO_get I ha
  have nz : n ≤ sizeLine := by rw [sizeLine_eq]; omega
  rw [Vals.ref1 r]
  refine set_sorted_any R (I.ok.hd hc) nz fun s' p out c ns k g o hp hg hi hs hm hl => ?_
  have hlen : (ns.map V.int).length ≤ sizeLine := by rw [List.length_map, hl]; exact nz
  have hn : H p = none := I.hok.fresh hp
  have J : Inv X pins σ (upd H p (.lst (ns.map V.int))) { s with heap := s'.heap, gens := s'.gens, drawn := s'.drawn, toks := s'.toks } :=
    I.call (ch := []) (Un.laid k hp hn) (I.hok.laid k hp ⟨hlen, out, c, vals_of_ints hi, hg⟩) (by rw [g]; exact I.bare) (fun _ z => nomatch z)
  have e : s' = { s with heap := s'.heap, gens := s'.gens, drawn := s'.drawn, toks := s'.toks } := by
    cases s'
    cases s
    cases o
    rfl
  rw [e]
  exact ⟨.ref p, _, J, rfl, q ns p hs hm hl hn⟩
end
end L2
namespace Ob
open PySem PySem.Spec PyProof.Rows L2
theorem sortAK {X : Cx} {w : World} (h : X.w = w) (hc : X.calm = true) : CallR X (.builtin "sorted") (rSortSet w) := h ▸ cr_sortSet hc
theorem rd_sortA {w : World} {H : Hp} {Q : VK} {a : Addr} {S : Int → Bool} {n : Nat} (h : H a = some (SetO w a S n)) (le : n ≤ 1000) (q : ∀ (ns : List Int) (p : Addr) (J : Hp), ns.Pairwise (· < ·) → (∀ k, k ∈ ns ↔ S k = true) → ns.length = n → H p = none → Same H J → J p = some (.lst (ns.map V.int)) → Q (.ref p) J) : rSortSet w [.ref a] H Q :=
  ⟨a, S, n, rfl, h, le, fun ns p h1 h2 h3 h4 => q ns p _ h1 h2 h3 h4 (same_new h4) upd_same⟩
/-! ## the first day on which two rounds are unlike lies near an end or a beginning -/
/-- near a beginning, at an end -/
def Nigh (es : List Ent) (x : Nat) : Prop := x < 40 ∨ ∃ e ∈ es, (e.first ≤ x ∧ x < e.first + 20) ∨ x = e.first + e.many
/-- where f and g are unlike: near, or unlike a little earlier too -/
def Soon (es : List Ent) (f g : Nat → Int) : Prop := ∀ x, f x ≠ g x → Nigh es x ∨ ∃ y, y < x ∧ x ≤ y + 4 ∧ f y ≠ g y
theorem Nigh.mono {es fs : List Ent} {x : Nat} (h : Nigh es x) (m : ∀ e ∈ es, e ∈ fs) : Nigh fs x := by
  rcases h with h | ⟨e, he, h⟩
  · exact Or.inl h
  · exact Or.inr ⟨e, m e he, h⟩
theorem Soon.least {es : List Ent} {f g : Nat → Int} (s : Soon es f g) {x : Nat} (h : f x ≠ g x) (l : ∀ y, y < x → f y = g y) : Nigh es x := by
  rcases s x h with h | ⟨y, hy, _, c⟩
  · exact h
  · exact absurd (l y hy) c
theorem uS_app (G : Nat) (a b : List Ent) (x : Nat) : uS G (a ++ b) x = uS G a x + uS G b x := by
  unfold uS
  rw [List.map_append, List.sum_append]
theorem uS_cons (G : Nat) (e : Ent) (b : List Ent) (x : Nat) : uS G (e :: b) x = uE G e x + uS G b x := by
  unfold uS
  rw [List.map_cons, List.sum_cons]
theorem Soon.rest {es : List Ent} {G : Nat} {a b : Ent} {t q : List Ent} (s : Soon es (uE G a) (uE G b)) : Soon es (uS G (t ++ (q ++ [a]))) (uS G (t ++ (q ++ [b]))) := fun x h => by
  have e : ∀ y, uS G (t ++ (q ++ [a])) y - uS G (t ++ (q ++ [b])) y = uE G a y - uE G b y := fun y => by
    rw [uS_app, uS_app, uS_app, uS_app, uS_cons, uS_cons]
    omega
  have ex := e x
  rcases s x (by omega) with n | ⟨y, y1, y2, c⟩
  · exact Or.inl n
  · refine Or.inr ⟨y, y1, y2, ?_⟩
    have ey := e y
    omega
/-! ### an entry parted, or written twice over -/
end Ob
namespace Ob
open PySem PySem.Spec PyProof.Rows L2
local macro_rules | `(tactic| walk_at "hp") => `(tactic| (first
  | assumption
  | exact L2.upd_same
  | ((with_reducible refine SqT.of ?h); (case h => walk_at "hp"))
  | ((with_reducible refine SqL.of ?h); (case h => walk_at "hp"))
  | ((with_reducible refine Scr.sq ?h); (case h => walk_at "hp"))
  | ((with_reducible refine Bag.new ?h ?k); (case h => walk_at "hp"); (case k => assumption))
  | ((with_reducible refine Scr.new ?k ?h); (case k => assumption); (case h => walk_at "hp"))
  | ((with_reducible refine Scr.kp (b := ?bb) (H := ?hh) ?k ?g ?h); (case k => assumption); (case g => walk_at "hp"); (case h => walk_at "hp"))
  | ((with_reducible refine Bag.same (H := ?hh) ?k ?h); (case k => assumption); (case h => walk_at "hp"))
  | ((with_reducible refine Scr.same (H := ?hh) ?k ?h); (case k => assumption); (case h => walk_at "hp"))
  | ((with_reducible refine same_any (H := ?hh) ?k ?h); (case k => assumption); (case h => walk_at "hp"))
  | ((with_reducible refine new_any ?k ?h); (case k => assumption); (case h => walk_at "hp"))
  | ((with_reducible refine set_tup (ys := ?ys) ?k ?h); (case k => assumption); (case h => walk_at "hp"))
  | ((with_reducible refine Bag.put ?k ?h); (case k => assumption); (case h => walk_at "hp"))
  | ((with_reducible refine Kp.tup (b := ?bb) (H := ?hh) ?k ?g ?h); (case k => assumption); (case g => walk_at "hp"); (case h => walk_at "hp"))
  | ((with_reducible refine Kp.lst (b := ?bb) (H := ?hh) ?k ?g ?h); (case k => assumption); (case g => walk_at "hp"); (case h => walk_at "hp"))
  | ((with_reducible refine Bag.off (H := ?hh) ?h ?g); (case h => assumption); (case g => walk_at "hp"))
  | (with_reducible exact Kp.refl)
  | (with_reducible exact Kp.new (by assumption))))
local macro_rules | `(tactic| walk_at "dp") => `(tactic| (first
  | exact Dp.int _
  | exact Dp.bl _
  | exact Dp.non
  | exact Dp.str _
  | exact DpAll.nil
  | ((refine DpAll.cons (d := ?d) (ds := ?ds) ?h ?k); (case h => walk_at "dp"); (case k => walk_at "dp"))
  | ((refine Dp.lst (xs := ?xs) (ds := ?ds) ?h ?k); (case h => walk_at "hp"); (case k => walk_at "dp"))
  | ((refine Dp.tup (xs := ?xs) (ds := ?ds) ?h ?k); (case h => walk_at "hp"); (case k => walk_at "dp"))))
local macro_rules | `(tactic| walk_at "small") => `(tactic| first | decide +kernel | (simp only [sm, sms, sz, szs, Bool.and_true, Bool.and_eq_true, decide_eq_true_eq, and_true, true_and]; (first | done | omega | (repeat' constructor) <;> first | omega | decide +kernel)))
local macro_rules | `(tactic| walk_at "side") => `(tactic| (first
  | ((with_reducible show IntMulOk _ _); first | exact rd_mulB (by assumption) (by assumption) | (refine rd_mulok ?_; omega))
  | ((with_reducible show CDv _ _); exact rd_dvB _ (Int.ne_of_gt (by assumption)) (by assumption))
  | ((with_reducible show CDv _ _); refine rd_dvI _ ?_ ?_ <;> first | assumption | omega | decide)
  | ((with_reducible show CPow _ _); exact ⟨by decide, by decide, by first | decide | omega⟩)
  | omega
  | assumption
  | decide
  | (refine rd_mulB (m := 400) (n := 400) (Bd.lit ?_) (Bd.lit ?_) <;> decide +kernel)))
local macro_rules | `(tactic| walk_at "rd1") => `(tactic| (first
  | ((with_reducible refine rd_var (v := ?v) ?h ?_); (case h => exact rfl))
  | (with_reducible refine rd_c ?_)
  | (with_reducible refine rd_op ?_)
  | (with_reducible refine rd_cons ?_)
  | (with_reducible refine rd_nil ?_)
  | ((with_reducible refine rd_sxT (xs := ?xs) (v := ?v) ?h ?a ?_); (case h => walk_at "hp"); (case a => exact rfl))
  | ((with_reducible refine rd_sxL (xs := ?xs) (v := ?v) ?h ?a ?_); (case h => walk_at "hp"); (case a => exact rfl))
  | (with_reducible refine rd_I0 ?_)
  | ((with_reducible refine rd_I ?c ?_); (case c => walk_at "side"))
  | ((with_reducible refine rd_name (τ := ?t) ?e ?_); (case e => exact rfl))
  | (with_reducible refine rd_seq ?_)
  | (with_reducible refine rd_asg ?_)
  | (with_reducible refine rd_call ?_)
  | (with_reducible refine rd_CB ?_)
  | (with_reducible refine rd_tup ?_)
  | ((with_reducible refine rd_new ?h ?_); (case h => exact rfl))
  | (with_reducible refine rd_test ?_)
  | (with_reducible refine rd_bl ?_)
  | (with_reducible refine rd_U ?_)
  | (with_reducible refine rd_un ?_)
  | (with_reducible refine rd_neI ?_)
  | (with_reducible refine rd_eqI ?_)
  | (with_reducible refine rd_tpar ?_)
  | (with_reducible refine rd_lc ?_)
  | (with_reducible refine rd_iTup ?_)
  | (with_reducible refine rd_iLst ?_)
  | (with_reducible refine rd_iR1 ?_)
  | (with_reducible refine rd_BM ?_)
  | ((with_reducible refine rd_iTupA (xs := ?xs) ?h ?_); (case h => walk_at "hp"))
  | ((with_reducible refine rd_iLstA (xs := ?xs) ?h ?_); (case h => walk_at "hp"))
  | ((with_reducible refine rd_tyl (xs := ?xs) ?h ?_); (case h => walk_at "hp"))
  | ((with_reducible refine rd_app (xs := ?xs) ?h ?a ?_); (case h => walk_at "hp"); (case a => exact Nat.le_of_ble_eq_true rfl))
  | ((with_reducible refine rd_cat (xs := ?xs) (zs := ?zs) ?h ?k ?a ?_); (case h => walk_at "hp"); (case k => walk_at "hp"); (case a => exact Nat.le_of_ble_eq_true rfl))
  | ((with_reducible refine rd_rep (xs := ?xs) (ys := ?ys) ?h ?a ?b ?c ?_); (case h => walk_at "hp"); (case a => decide); (case b => exact Nat.le_of_ble_eq_true rfl); (case c => exact rfl))
  | (with_reducible refine rd_ret ?_)
  | (with_reducible refine rd_next ?_)
  | (with_reducible refine rd_drop ?_)
  | (with_reducible refine rd_ifS ?_)
  | (with_reducible refine rd_B ?_)
  | (with_reducible refine rd_not ?_)
  | (with_reducible refine rd_and ?_)
  | (with_reducible refine rd_or ?_)
  | (with_reducible refine rd_andV ?_)
  | (with_reducible refine rd_orV ?_)
  | (with_reducible refine rd_notV ?_)
  | (with_reducible refine rd_ifE ?_)
  | (with_reducible refine rd_lst ?_)
  | ((with_reducible refine rd_for1b ?h ?_); (case h => constructor <;> (repeat' split) <;> omega))
  | (with_reducible refine rd_one ?_)
  | (with_reducible refine rd_two ?_)
  | (with_reducible refine rd_int ?_)
  | (with_reducible refine rd_intB ?_)
  | (with_reducible refine rd_gcd ?_)
  | ((with_reducible refine rd_par (τ := ?t) ?e ?_); (case e => exact rfl))
  | (with_reducible refine rd_sub ?_)
  | (with_reducible refine rd_for1 ?_)
  | ((with_reducible refine rd_len (ys := ?ys) ?h ?_); (case h => walk_at "hp"))
  | ((with_reducible refine rd_lenTu (ys := ?ys) ?h ?_); (case h => walk_at "hp"))
  | ((with_reducible refine rd_repr (d := ?d) ?h ?a ?b ?c ?_); (case h => walk_at "dp"); (case a => walk_at "small"); (case b => walk_at "small"); (case c => simp only [PyData.depth, PyData.depthAll]; omega))
  | ((with_reducible refine rd_nsame ?h ?_); (case h => exact rfl))
  | ((with_reducible refine rd_same ?h ?_); (case h => exact rfl))
  | ((with_reducible refine rd_gtup (xs := ?xs) ?h ?a ?_); (case h => walk_at "hp"); (case a => exact rfl))
  | (with_reducible refine rd_gcons ?_)
  | (with_reducible refine rd_gnil ?_)
  | ((with_reducible refine rd_isiI (b := true) ?a ?_); (case a => decide +kernel))
  | ((with_reducible refine rd_isiI (b := false) ?a ?_); (case a => decide +kernel))
  | ((with_reducible refine rd_isiB (b := true) ?a ?_); (case a => decide +kernel))
  | ((with_reducible refine rd_isiB (b := false) ?a ?_); (case a => decide +kernel))
  | ((with_reducible refine rd_isiN (b := true) ?a ?_); (case a => decide +kernel))
  | ((with_reducible refine rd_isiN (b := false) ?a ?_); (case a => decide +kernel))
  | ((with_reducible refine rd_isiS (b := true) ?a ?_); (case a => decide +kernel))
  | ((with_reducible refine rd_isiS (b := false) ?a ?_); (case a => decide +kernel))
  | ((with_reducible refine rd_isiT (b := true) (xs := ?xs) ?h ?a ?_); (case a => decide +kernel); (case h => walk_at "hp"))
  | ((with_reducible refine rd_isiT (b := false) (xs := ?xs) ?h ?a ?_); (case a => decide +kernel); (case h => walk_at "hp"))
  | ((with_reducible refine rd_isiL (b := true) (xs := ?xs) ?h ?a ?_); (case a => decide +kernel); (case h => walk_at "hp"))
  | ((with_reducible refine rd_isiL (b := false) (xs := ?xs) ?h ?a ?_); (case a => decide +kernel); (case h => walk_at "hp"))
  | ((with_reducible refine rd_isi (t := ?t) (b := true) ?h ?a ?_); (case h => assumption); (case a => decide +kernel))
  | ((with_reducible refine rd_isi (t := ?t) (b := false) ?h ?a ?_); (case h => assumption); (case a => decide +kernel))
  | (with_reducible refine rd_chain ?_)
  | ((with_reducible refine rd_eqDs (d := ?d) ?h ?k ?s ?_); (case h => walk_at "dp"); (case k => walk_at "dp"); (case s => first | rfl | decide | simp [SeqAt.shaped]))
  | ((with_reducible refine rd_neDs (d := ?d) ?h ?k ?s ?_); (case h => walk_at "dp"); (case k => walk_at "dp"); (case s => first | rfl | decide | simp [SeqAt.shaped]))
  | ((with_reducible refine rd_setL (xs := ?xs) (ys := ?ys) (j := ?j) ?h ?a ?e ?_); (case h => walk_at "hp"); (case a => exact rfl); (case e => exact rfl))))
local macro_rules | `(tactic| walk_at "rdm1") => `(tactic| (first
  | ((with_reducible refine rd_md ?c ?_); (case c => first | omega | decide); intro r r0 r1)
  | walk_at "rd1"))
local macro_rules | `(tactic| walk_at "rdm") => `(tactic| (repeat walk_at "rdm1"))
local macro_rules | `(tactic| walk_at "rd") => `(tactic| (repeat walk_at "rd1"))

/-! ### the drawing -/
theorem prime_at {n : Int} (h0 : 0 ≤ n) (h : n < 7) : ∃ p, atI [V.int 2147483647, V.int 2147483629, V.int 2147483587, V.int 2147483579, V.int 2147483563, V.int 2147483549, V.int 2147483543] n = some (.int p) ∧ 0 < p ∧ p ≤ 2147483647 := by
  obtain ⟨p, e, m⟩ := pick_int (ns := [2147483647, 2147483629, 2147483587, 2147483579, 2147483563, 2147483549, 2147483543]) h0 h
  refine ⟨p, e, ?_⟩
  simp only [List.mem_cons, List.not_mem_nil, or_false] at m
  omega
theorem rd_prime {K : PySem.W.Frag} {H : Hp} {t : Addr} {i : Int} {Q : VK} (h : H t = some (.tup [V.int 2147483647, V.int 2147483629, V.int 2147483587, V.int 2147483579, V.int 2147483563, V.int 2147483549, V.int 2147483543]))
    (h0 : 0 ≤ i) (h1 : i < 7) (q : ∀ p : Int, 0 < p → p ≤ 2147483647 → Q (.int p) H) : rIx K (.ref t) (.int i) H Q := by
  obtain ⟨p, e, p0, p1⟩ := prime_at h0 h1
  exact rd_sxT (SqT.of h) e (q p p0 p1)
def sp__law_bag (K : PySem.W.Frag) : Sp := fun vs H Q _ => ∃ (a : Addr) (ns : List Int) (n : Int), vs = [.ref a, .int n] ∧ Scr K H a (ns.map V.int) ∧ ns.length ≤ 63 ∧ 0 ≤ n ∧ n ≤ 62 ∧
  ∀ b J, H b = none → Same H J → Bag b J → Q (.ref b) J
theorem ar__law_bag (K : PySem.W.Frag) : ∀ vs H Q E, sp__law_bag K vs H Q E → vs.length = 2 := by
  intro vs H Q E h
  obtain ⟨a, ns, n, rfl, _⟩ := h
  rfl
abbrev N__law_bag : List Str := ["_law_script", "_law_at", "_law_primes", "_law_cell", "_law_large", "_law_mixed"]
theorem sc__law_bag : FnScope N__law_bag ["_law_script", "_law_at"] (defScope S__law_bag) := ⟨rfl, rfl, rfl, by decide +kernel, rfl, by decide +kernel, by decide +kernel⟩
theorem ok__law_bag {P : Program} {w : World} {K : PySem.W.Frag} {mg : Str → Option Value} {base : Heap} {f : Addr} {fd : FuncData} (F : Fun K "_law_bag" "_law_bag" S__law_bag f fd) (m_abs : mg "abs" = none) (m_len : mg "len" = none) :
    FnG P w K mg base CX0 1 f fd ["_law_script", "_law_at"] (sp__law_bag K) := by
  refine Fun_okG F sc__law_bag (ar__law_bag K) (fun cdv A outer s H vs Q E hg hr h => ?_)
  obtain ⟨a, ns, n, rfl, hS, hl, n0, n1, q⟩ := h
  refine ⟨_, (pss_cons (ps_set (i := 2) sc__law_bag.nd rfl (Or.inl rfl) (pe_tup (pa_cons pe_int (pa_cons pe_int (pa_cons pe_int (pa_cons pe_int (pa_cons pe_int (pa_cons pe_int (pa_cons pe_int pa_nil)))))))))
    (pss_cons (ps_set (i := 3) sc__law_bag.nd rfl (Or.inl rfl) (pe_ifExp (pt_cmpR op_lt (pv 1) (pe_callB (id := "len") (lenK (K := K) rfl) (by rfl) m_len (by decide +kernel) (pa_cons (pv 0) pa_nil)) (nomark _)) (pe_ix (ixK (K := K) rfl) (pv 0) (pv 1) (fun _ _ => rfl)) pe_int))
    (pss_cons (ps_set (i := 4) sc__law_bag.nd rfl (Or.inl rfl) (pe_ifExp (pt_cmpR op_ge (pe_callB (id := "abs") call_abs (by rfl) m_abs (by decide +kernel) (pa_cons (pv 3) pa_nil)) (pe_op op_pow pe_int pe_int) (nomark _)) (pe_callB (id := "abs") call_abs (by rfl) m_abs (by decide +kernel) (pa_cons (pv 3) pa_nil)) pe_int))
    (pss_cons (ps_set (i := 5) sc__law_bag.nd rfl (Or.inl rfl) (pe_op op_modN (pe_op op_pow (pe_op op_add (pe_op op_add (pe_op op_modN (pv 3) pe_int) (pe_op op_ml pe_int (pv 1))) pe_int) pe_int) (pe_ix (ixK (K := K) rfl) (pv 2) (pe_op op_modN (pv 1) pe_int) (fun _ _ => rfl))))
    (pss_one (ps_ret (pe_lst (pa_cons (pv 4) (pa_cons (pe_op op_add (pe_op op_modN (pe_op op_ml (pv 5) (pe_op op_add (pe_op op_add (pe_op op_dv (pv 5) pe_int) (pe_op op_ml pe_int (pv 1))) pe_int)) (pe_ix (ixK (K := K) rfl) (pv 2) (pe_op op_modN (pe_op op_add (pv 1) pe_int) pe_int) (fun _ _ => rfl))) pe_int) pa_nil))))))))), ?_⟩
  walk_at "rd"
  intro t nt
  have hS2 : Scr K (upd H t (.tup [V.int 2147483647, V.int 2147483629, V.int 2147483587, V.int 2147483579, V.int 2147483563, V.int 2147483549, V.int 2147483543])) a (ns.map V.int) := by walk_at "hp"
  walk_at "rd"
  refine rd_if (fun c => ?_) (fun c => ?_)
  · rw [List.length_map] at c
    obtain ⟨v, hv, _⟩ := pick_int (ns := ns) n0 c
    walk_at "rd"
    refine rd_sxL hS2.sq hv ?_
    walk_at "rd"
    refine rd_if (fun c2 => ?_) (fun c2 => ?_)
    all_goals walk_at "rdm"
    all_goals refine rd_prime (by walk_at "hp") (by omega) (by omega) (fun p1 p1a p1b => ?_)
    all_goals walk_at "rdm"
    all_goals refine rd_prime (by walk_at "hp") (by omega) (by omega) (fun p2 p2a p2b => ?_)
    all_goals walk_at "rdm"
    all_goals intro p np
    all_goals exact q _ _ ((same_new nt).free np) ((same_new nt).trans (same_new np)) ⟨_, _, upd_same⟩
  · walk_at "rd"
    refine rd_if (fun c2 => ?_) (fun c2 => ?_)
    all_goals walk_at "rdm"
    all_goals refine rd_prime (by walk_at "hp") (by omega) (by omega) (fun p1 p1a p1b => ?_)
    all_goals walk_at "rdm"
    all_goals refine rd_prime (by walk_at "hp") (by omega) (by omega) (fun p2 p2a p2b => ?_)
    all_goals walk_at "rdm"
    all_goals intro p np
    all_goals exact q _ _ ((same_new nt).free np) ((same_new nt).trans (same_new np)) ⟨_, _, upd_same⟩
def sp__law_take (K : PySem.W.Frag) : Sp := fun vs H Q _ => ∃ (b : Addr) (n : Int), vs = [.ref b, .int n] ∧ Bag b H ∧ 0 < n ∧ n.natAbs < 2 ^ 400 ∧ ∀ (r : Int) J, 0 ≤ r → r < n → Kp b H J → Bag b J → Q (.int r) J
theorem ar__law_take (K : PySem.W.Frag) : ∀ vs H Q E, sp__law_take K vs H Q E → vs.length = 2 := by
  intro vs H Q E h
  obtain ⟨b, n, rfl, _⟩ := h
  rfl
abbrev N__law_take : List Str := ["_law_bag_here", "_law_size", "_law_digit"]
theorem sc__law_take : FnScope N__law_take ["_law_bag_here", "_law_size"] (defScope S__law_take) := ⟨rfl, rfl, rfl, by decide +kernel, rfl, by decide +kernel, by decide +kernel⟩
theorem ok__law_take {P : Program} {w : World} {K : PySem.W.Frag} {mg : Str → Option Value} {base : Heap} {f : Addr} {fd : FuncData} (F : Fun K "_law_take" "_law_take" S__law_take f fd) :
    FnG P w K mg base CX0 1 f fd ["_law_bag_here", "_law_size"] (sp__law_take K) := by
  refine Fun_okG F sc__law_take (ar__law_take K) (fun cdv A outer s H vs Q E hg hr h => ?_)
  obtain ⟨b, n, rfl, ⟨x, y, hb⟩, n0, n1, q⟩ := h
  refine ⟨_, (pss_cons (ps_if (pt_cmpR op_gt (pe_ix (ixK (K := K) rfl) (pv 0) pe_int (fun _ _ => rfl)) pe_int (nomark _)) (pss_cons (ps_set (i := 2) sc__law_take.nd rfl (Or.inl rfl) (pe_op op_modN (pe_ix (ixK (K := K) rfl) (pv 0) pe_int (fun _ _ => rfl)) (pv 1)))
    (pss_cons (ps_asg (pe_op op_dv (pe_ix (ixK (K := K) rfl) (pv 0) pe_int (fun _ _ => rfl)) (pv 1)) (pg_sub (pv 0) pe_int set_list))
    (pss_one (ps_ret (pv 2))))) pss_nil)
    (pss_cons (ps_asg (pe_op op_modN (pe_op op_ml (pe_ix (ixK (K := K) rfl) (pv 0) pe_int (fun _ _ => rfl)) pe_int) pe_int) (pg_sub (pv 0) pe_int set_list))
    (pss_one (ps_ret (pe_op op_modN (pe_op op_dv (pe_op op_modN (pe_op op_ml (pe_ix (ixK (K := K) rfl) (pv 0) pe_int (fun _ _ => rfl)) pe_int) pe_int) (pe_op op_pow pe_int pe_int)) (pv 1)))))), ?_⟩
  walk_at "rd"
  refine rd_if (fun c => ?_) (fun c => ?_)
  · walk_at "rd"
    exact q _ _ (fmod_rng n0).1 (fmod_rng n0).2 Kp.at ⟨_, _, upd_same⟩
  · walk_at "rd"
    exact q _ _ (fmod_rng n0).1 (fmod_rng n0).2 Kp.at ⟨_, _, upd_same⟩
def sp__law_part (K : PySem.W.Frag) : Sp := fun vs H Q _ => ∃ m n : Int, vs = [.int m, .int n] ∧ Q (.int (Int.gcd m n)) H
theorem ar__law_part (K : PySem.W.Frag) : ∀ vs H Q E, sp__law_part K vs H Q E → vs.length = 2 := by
  intro vs H Q E h
  obtain ⟨b, n, rfl, _⟩ := h
  rfl
abbrev N__law_part : List Str := ["_law_one", "_law_other"]
theorem sc__law_part : FnScope N__law_part ["_law_one", "_law_other"] (defScope S__law_part) := ⟨rfl, rfl, rfl, by decide +kernel, rfl, by decide +kernel, by decide +kernel⟩
theorem ok__law_part {P : Program} {w : World} {K : PySem.W.Frag} {mg : Str → Option Value} {base : Heap} {f : Addr} {fd : FuncData} (F : Fun K "_law_part" "_law_part" S__law_part f fd) (m_abs : mg "abs" = none) :
    FnG P w K mg base CX0 1 f fd ["_law_one", "_law_other"] (sp__law_part K) := by
  refine Fun_okG F sc__law_part (ar__law_part K) (fun cdv A outer s H vs Q E hg hr h => ?_)
  obtain ⟨m, n, rfl, q⟩ := h
  refine ⟨_, (pss_cons (ps_while PassesOwn.never (pt_cmpR op_ne (pv 1) pe_int (nomark _)) (pss_one (ps_par (i := 0) (j := 1) rfl sc__law_part.nd rfl rfl (by decide) rfl rfl (pa_cons (pv 1) (pa_cons (pe_op op_modN (pv 0) (pv 1)) pa_nil)) (by rfl))))
    (pss_one (ps_ret (pe_callB (id := "abs") call_abs (by rfl) m_abs (by decide +kernel) (pa_cons (pv 0) pa_nil))))), ?_⟩
  walk_at "rd"
  refine while_by (fun σ' H' => ∃ x y : Int, σ' = [some (.int x), some (.int y)] ∧ H' = H ∧ Int.gcd x y = Int.gcd m n) (fun σ' _ => msr σ') ⟨m, n, rfl, rfl, rfl⟩ (fun σ' H' w => ?_) fun σ' H' R R' f h => ?_
  · obtain ⟨x, y, rfl, rfl, e⟩ := w
    walk_at "rd"
    refine rd_ifn (fun c => ?_) (fun c => ?_)
    · walk_at "rd"
      exact ⟨⟨_, _, rfl, rfl, by rw [gcd_turn]; exact e⟩, fmod_abs c⟩
    · subst c
      walk_at "rd"
      have e2 : (if x < 0 then -x else x) = ((Int.gcd m n : Nat) : Int) := by
        rw [← e, Int.gcd_zero_right]
        split <;> omega
      rw [e2]
      exact q
  · obtain ⟨v, h1, h2, k, h3, h4⟩ := h
    exact ⟨v, h1, h2, k, h3, f _ _ h4⟩

def sp__law_lowest (K : PySem.W.Frag) : Sp := fun vs H Q _ => ∃ t u : Int, vs = [.int t, .int u] ∧ u ≠ 0 ∧ Bd 8000 u ∧ ∀ x y p J, IsLow t u x y → H p = none → Same H J → J p = some (.tup [.int x, .int y]) → Q (.ref p) J
theorem ar__law_lowest (K : PySem.W.Frag) : ∀ vs H Q E, sp__law_lowest K vs H Q E → vs.length = 2 := by
  intro vs H Q E h
  obtain ⟨b, n, rfl, _⟩ := h
  rfl
abbrev N__law_lowest : List Str := ["_law_top", "_law_under", "_law_part_here"]
theorem sc__law_lowest : FnScope N__law_lowest ["_law_top", "_law_under"] (defScope S__law_lowest) := ⟨rfl, rfl, rfl, by decide +kernel, rfl, by decide +kernel, by decide +kernel⟩
theorem ok__law_lowest {P : Program} {w : World} {K : PySem.W.Frag} {mg : Str → Option Value} {base : Heap} {f : Addr} {fd : FuncData} (F : Fun K "_law_lowest" "_law_lowest" S__law_lowest f fd) {f__law_part : Addr} {fd__law_part : FuncData} (C__law_part : Cal P w K mg base "_law_part" 1 f__law_part fd__law_part ["_law_one", "_law_other"] (sp__law_part K)) :
    FnG P w K mg base CX0 2 f fd ["_law_top", "_law_under"] (sp__law_lowest K) := by
  refine Fun_okG F sc__law_lowest (ar__law_lowest K) (fun cdv A outer s H vs Q E hg hr h => ?_)
  obtain ⟨t, u, rfl, u0, hu, q⟩ := h
  refine ⟨_, (pss_cons (ps_set (i := 2) sc__law_lowest.nd rfl (Or.inl rfl) (pe_c C__law_part hg (hr.mono (by decide)) rfl (pa_cons (pv 0) (pa_cons (pv 1) pa_nil))))
    (pss_cons (ps_if (pt_cmpR op_lt (pv 1) pe_int (nomark _)) (pss_one (ps_set (i := 2) sc__law_lowest.nd rfl (Or.inl rfl) (pe_un un_neg (pv 2)))) pss_nil)
    (pss_one (ps_ret (pe_tup (pa_cons (pe_op op_dv (pv 0) (pv 2)) (pa_cons (pe_op op_dv (pv 1) (pv 2)) pa_nil))))))), ?_⟩
  walk_at "rd"
  refine ⟨t, u, rfl, ?_⟩
  walk_at "rd"
  refine rd_if (fun c => ?_) (fun c => ?_)
  · walk_at "rd"
    obtain ⟨h1, h2, h3⟩ := low_at (t := t) u0 (s := -((Int.gcd t u : Nat) : Int)) (by rw [if_pos c])
    refine rd_I (rd_dvB _ h2 (hu.le h3)) ?_
    walk_at "rd"
    refine rd_I (rd_dvB _ h2 (hu.le h3)) ?_
    walk_at "rd"
    intro p np
    exact q _ _ _ _ h1 np (same_new np) upd_same
  · walk_at "rd"
    obtain ⟨h1, h2, h3⟩ := low_at (t := t) u0 (s := ((Int.gcd t u : Nat) : Int)) (by rw [if_neg c])
    refine rd_I (rd_dvB _ h2 (hu.le h3)) ?_
    walk_at "rd"
    refine rd_I (rd_dvB _ h2 (hu.le h3)) ?_
    walk_at "rd"
    intro p np
    exact q _ _ _ _ h1 np (same_new np) upd_same

local macro_rules | `(tactic| walk_at "hp_6") => `(tactic| (first
  | assumption
  | exact L2.upd_same
  | (with_reducible exact TupC.sq (by assumption) _)
  | ((with_reducible refine SqT.of ?h); (case h => walk_at "hp_6"))
  | ((with_reducible refine sqt_same (H := ?hh) ?k ?h); (case k => assumption); (case h => walk_at "hp_6"))
  | ((with_reducible refine sqt_bag (b := ?bb) (H := ?hh) ?k ?g ?h); (case k => assumption); (case g => walk_at "hp_6"); (case h => walk_at "hp_6"))
  | ((with_reducible refine sqt_pu (l := ?ll) (H := ?hh) ?k ?h); (case k => assumption); (case h => walk_at "hp_6"))
  | ((with_reducible refine sqt_new ?k ?h); (case k => assumption); (case h => walk_at "hp_6"))
  | ((with_reducible refine SqL.of ?h); (case h => walk_at "hp_6"))
  | ((with_reducible refine Scr.sq ?h); (case h => walk_at "hp_6"))
  | ((with_reducible refine Bag.new ?h ?k); (case h => walk_at "hp_6"); (case k => assumption))
  | ((with_reducible refine Scr.new ?k ?h); (case k => assumption); (case h => walk_at "hp_6"))
  | ((with_reducible refine Scr.kp (b := ?bb) (H := ?hh) ?k ?g ?h); (case k => assumption); (case g => walk_at "hp_6"); (case h => walk_at "hp_6"))
  | ((with_reducible refine Bag.same (H := ?hh) ?k ?h); (case k => assumption); (case h => walk_at "hp_6"))
  | ((with_reducible refine Scr.same (H := ?hh) ?k ?h); (case k => assumption); (case h => walk_at "hp_6"))
  | ((with_reducible refine same_any (H := ?hh) ?k ?h); (case k => assumption); (case h => walk_at "hp_6"))
  | ((with_reducible refine new_any ?k ?h); (case k => assumption); (case h => walk_at "hp_6"))
  | ((with_reducible refine set_tup (ys := ?ys) ?k ?h); (case k => assumption); (case h => walk_at "hp_6"))
  | ((with_reducible refine Bag.put ?k ?h); (case k => assumption); (case h => walk_at "hp_6"))
  | ((with_reducible refine Kp.tup (b := ?bb) (H := ?hh) ?k ?g ?h); (case k => assumption); (case g => walk_at "hp_6"); (case h => walk_at "hp_6"))
  | ((with_reducible refine Pu.bag (l := ?ll) (H := ?hh) ?k ?n ?h); (case k => assumption); (case n => walk_at "hp_6"); (case h => walk_at "hp_6"))
  | ((with_reducible refine Pu.scr (l := ?ll) (H := ?hh) ?k ?h); (case k => assumption); (case h => walk_at "hp_6"))
  | ((with_reducible refine Pu.tup (l := ?ll) (H := ?hh) ?k ?h); (case k => assumption); (case h => walk_at "hp_6"))
  | ((with_reducible refine Pu.lst (l := ?ll) (H := ?hh) ?k ?n ?h); (case k => assumption); (case n => walk_at "hp_6"); (case h => walk_at "hp_6"))
  | ((with_reducible refine Kp.lst (b := ?bb) (H := ?hh) ?k ?g ?h); (case k => assumption); (case g => walk_at "hp_6"); (case h => walk_at "hp_6"))
  | ((with_reducible refine Bag.off (H := ?hh) ?h ?g); (case h => assumption); (case g => walk_at "hp_6"))
  | (with_reducible exact Kp.refl)
  | (with_reducible exact Kp.new (by assumption))))
local macro_rules | `(tactic| walk_at "dp_6") => `(tactic| (first
  | exact Dp.int _
  | exact Dp.bl _
  | exact Dp.non
  | exact Dp.str _
  | exact DpAll.nil
  | ((refine DpAll.cons (d := ?d) (ds := ?ds) ?h ?k); (case h => walk_at "dp_6"); (case k => walk_at "dp_6"))
  | ((refine Dp.lst (xs := ?xs) (ds := ?ds) ?h ?k); (case h => walk_at "hp_6"); (case k => walk_at "dp_6"))
  | ((refine Dp.tup (xs := ?xs) (ds := ?ds) ?h ?k); (case h => walk_at "hp_6"); (case k => walk_at "dp_6"))))
local macro_rules | `(tactic| walk_at "small_6") => `(tactic| first | decide +kernel | (simp only [sm, sms, sz, szs, Bool.and_true, Bool.and_eq_true, decide_eq_true_eq, and_true, true_and]; (first | done | omega | (repeat' constructor) <;> first | omega | decide +kernel)))
local macro_rules | `(tactic| walk_at "side_6") => `(tactic| (first
  | ((with_reducible show IntMulOk _ _); first | exact rd_mulB (by assumption) (by assumption) | (refine rd_mulok ?_; omega))
  | ((with_reducible show CDv _ _); exact rd_dvB _ (Int.ne_of_gt (by assumption)) (by assumption))
  | ((with_reducible show CDv _ _); refine rd_dvI _ ?_ ?_ <;> first | assumption | omega | decide)
  | ((with_reducible show CPow _ _); exact ⟨by decide, by decide, by first | decide | omega⟩)
  | omega
  | assumption
  | decide
  | (refine rd_mulB (m := 400) (n := 400) (Bd.lit ?_) (Bd.lit ?_) <;> decide +kernel)))
local macro_rules | `(tactic| walk_at "rd1_6") => `(tactic| (first
  | ((with_reducible refine rd_var (v := ?v) ?h ?_); (case h => exact rfl))
  | (with_reducible refine rd_c ?_)
  | (with_reducible refine rd_op ?_)
  | (with_reducible refine rd_cons ?_)
  | (with_reducible refine rd_nil ?_)
  | ((with_reducible refine rd_sxT (xs := ?xs) (v := ?v) ?h ?a ?_); (case h => walk_at "hp_6"); (case a => exact rfl))
  | ((with_reducible refine rd_sxL (xs := ?xs) (v := ?v) ?h ?a ?_); (case h => walk_at "hp_6"); (case a => exact rfl))
  | (with_reducible refine rd_I0 ?_)
  | ((with_reducible refine rd_I ?c ?_); (case c => walk_at "side_6"))
  | ((with_reducible refine rd_name (τ := ?t) ?e ?_); (case e => exact rfl))
  | (with_reducible refine rd_seq ?_)
  | (with_reducible refine rd_asg ?_)
  | (with_reducible refine rd_asg2 ?_)
  | ((with_reducible refine rd_aug (a := ?a) ?h ?_); (case h => exact rfl))
  | ((with_reducible refine rd_ipI (a := ?a) (b := ?b) ?_))
  | (with_reducible refine rd_call ?_)
  | (with_reducible refine rd_callK ?_)
  | ((with_reducible refine rd_kwl ?h ?_); (case h => exact rfl))
  | (with_reducible refine rd_CB ?_)
  | (with_reducible refine rd_tupK ?_)
  | ((with_reducible refine rd_kT ?h ?_); (case h => exact rfl); intro p J np sJ eJ)
  | ((with_reducible refine rd_new ?h ?_); (case h => exact rfl))
  | (with_reducible refine rd_test ?_)
  | (with_reducible refine rd_bl ?_)
  | (with_reducible refine rd_U ?_)
  | (with_reducible refine rd_un ?_)
  | (with_reducible refine rd_neI ?_)
  | (with_reducible refine rd_eqI ?_)
  | (with_reducible refine rd_tpar ?_)
  | (with_reducible refine rd_tpar3 ?_)
  | (with_reducible refine rd_forL ?_)
  | ((with_reducible refine rd_par3 (τ := ?t) ?e ?_); (case e => exact rfl))
  | (with_reducible refine rd_sl ?_)
  | (with_reducible refine rd_part ?_)
  | (with_reducible refine rd_partI ?_)
  | (with_reducible refine rd_nopart ?_)
  | ((with_reducible refine rd_slL (xs := ?xs) (ys := ?ys) ?h ?e ?_); (case h => walk_at "hp_6"); (case e => exact rfl); intro p J np sJ eJ)
  | (with_reducible refine rd_zip ?_)
  | ((with_reducible refine rd_zipA (xs := ?xs) (ys := ?ys) ?h ?k ?_); (case h => walk_at "hp_6"); (case k => walk_at "hp_6"))
  | ((with_reducible refine rd_isiQ (b := true) (xs := ?xs) ?h ?a ?_); (case a => decide +kernel); (case h => walk_at "hp_6"))
  | ((with_reducible refine rd_isiQ (b := false) (xs := ?xs) ?h ?a ?_); (case a => decide +kernel); (case h => walk_at "hp_6"))
  | (with_reducible refine rd_lc ?_)
  | (with_reducible refine rd_iTup ?_)
  | (with_reducible refine rd_iLst ?_)
  | (with_reducible refine rd_iR1 ?_)
  | (with_reducible refine rd_BM ?_)
  | ((with_reducible refine rd_iTupA (xs := ?xs) ?h ?_); (case h => walk_at "hp_6"))
  | ((with_reducible refine rd_iLstA (xs := ?xs) ?h ?_); (case h => walk_at "hp_6"))
  | ((with_reducible refine rd_tyl (xs := ?xs) ?h ?_); (case h => walk_at "hp_6"))
  | ((with_reducible refine rd_appK (xs := ?xs) ?h ?a ?_); (case h => walk_at "hp_6"); (case a => exact Nat.le_of_ble_eq_true rfl); intro J pJ eJ)
  | ((with_reducible refine rd_catK (xs := ?xs) (zs := ?zs) ?h ?k ?a ?_); (case h => walk_at "hp_6"); (case k => walk_at "hp_6"); (case a => exact Nat.le_of_ble_eq_true rfl); intro p J np sJ eJ)
  | ((with_reducible refine rd_repK (xs := ?xs) (ys := ?ys) ?h ?a ?b ?c ?_); (case h => walk_at "hp_6"); (case a => decide); (case b => exact Nat.le_of_ble_eq_true rfl); (case c => exact rfl); intro p J np sJ eJ)
  | (with_reducible refine rd_ret ?_)
  | (with_reducible refine rd_next ?_)
  | (with_reducible refine rd_drop ?_)
  | (with_reducible refine rd_ifS ?_)
  | (with_reducible refine rd_B ?_)
  | (with_reducible refine rd_not ?_)
  | (with_reducible refine rd_and ?_)
  | (with_reducible refine rd_or ?_)
  | (with_reducible refine rd_andV ?_)
  | (with_reducible refine rd_orV ?_)
  | (with_reducible refine rd_notV ?_)
  | (with_reducible refine rd_ifE ?_)
  | (with_reducible refine rd_lstK ?_)
  | ((with_reducible refine rd_kL ?h ?_); (case h => exact rfl); intro p J np sJ eJ)
  | ((with_reducible refine rd_for1b ?h ?_); (case h => constructor <;> (repeat' split) <;> omega))
  | (with_reducible refine rd_one ?_)
  | (with_reducible refine rd_two ?_)
  | (with_reducible refine rd_int ?_)
  | (with_reducible refine rd_intB ?_)
  | (with_reducible refine rd_gcd ?_)
  | ((with_reducible refine rd_par (τ := ?t) ?e ?_); (case e => exact rfl))
  | (with_reducible refine rd_sub ?_)
  | (with_reducible refine rd_for1 ?_)
  | ((with_reducible refine rd_len (ys := ?ys) ?h ?_); (case h => walk_at "hp_6"))
  | ((with_reducible refine rd_lenTu (ys := ?ys) ?h ?_); (case h => walk_at "hp_6"))
  | ((with_reducible refine rd_repr (d := ?d) ?h ?a ?b ?c ?_); (case h => walk_at "dp_6"); (case a => walk_at "small_6"); (case b => walk_at "small_6"); (case c => simp only [PyData.depth, PyData.depthAll]; omega))
  | ((with_reducible refine rd_nsame ?h ?_); (case h => exact rfl))
  | ((with_reducible refine rd_same ?h ?_); (case h => exact rfl))
  | ((with_reducible refine rd_gtup (xs := ?xs) ?h ?a ?_); (case h => walk_at "hp_6"); (case a => exact rfl))
  | (with_reducible refine rd_gcons ?_)
  | (with_reducible refine rd_gnil ?_)
  | ((with_reducible refine rd_isiI (b := true) ?a ?_); (case a => decide +kernel))
  | ((with_reducible refine rd_isiI (b := false) ?a ?_); (case a => decide +kernel))
  | ((with_reducible refine rd_isiB (b := true) ?a ?_); (case a => decide +kernel))
  | ((with_reducible refine rd_isiB (b := false) ?a ?_); (case a => decide +kernel))
  | ((with_reducible refine rd_isiN (b := true) ?a ?_); (case a => decide +kernel))
  | ((with_reducible refine rd_isiN (b := false) ?a ?_); (case a => decide +kernel))
  | ((with_reducible refine rd_isiS (b := true) ?a ?_); (case a => decide +kernel))
  | ((with_reducible refine rd_isiS (b := false) ?a ?_); (case a => decide +kernel))
  | ((with_reducible refine rd_isiT (b := true) (xs := ?xs) ?h ?a ?_); (case a => decide +kernel); (case h => walk_at "hp_6"))
  | ((with_reducible refine rd_isiT (b := false) (xs := ?xs) ?h ?a ?_); (case a => decide +kernel); (case h => walk_at "hp_6"))
  | ((with_reducible refine rd_isiL (b := true) (xs := ?xs) ?h ?a ?_); (case a => decide +kernel); (case h => walk_at "hp_6"))
  | ((with_reducible refine rd_isiL (b := false) (xs := ?xs) ?h ?a ?_); (case a => decide +kernel); (case h => walk_at "hp_6"))
  | ((with_reducible refine rd_isi (t := ?t) (b := true) ?h ?a ?_); (case h => assumption); (case a => decide +kernel))
  | ((with_reducible refine rd_isi (t := ?t) (b := false) ?h ?a ?_); (case h => assumption); (case a => decide +kernel))
  | (with_reducible refine rd_chain ?_)
  | ((with_reducible refine rd_eqR (x := ?x) (y := ?y) (u := ?u) (v := ?v) ?h ?k ?_); (case h => walk_at "hp_6"); (case k => walk_at "hp_6"))
  | ((with_reducible refine rd_eqDs (d := ?d) ?h ?k ?s ?_); (case h => walk_at "dp_6"); (case k => walk_at "dp_6"); (case s => first | rfl | decide | simp [SeqAt.shaped]))
  | ((with_reducible refine rd_neDs (d := ?d) ?h ?k ?s ?_); (case h => walk_at "dp_6"); (case k => walk_at "dp_6"); (case s => first | rfl | decide | simp [SeqAt.shaped]))
  | ((with_reducible refine rd_setL (xs := ?xs) (ys := ?ys) (j := ?j) ?h ?a ?e ?_); (case h => walk_at "hp_6"); (case a => exact rfl); (case e => exact rfl))))
local macro_rules | `(tactic| walk_at "rdm1_6") => `(tactic| (first
  | ((with_reducible refine rd_md ?c ?_); (case c => first | omega | decide); intro r r0 r1)
  | walk_at "rd1_6"))
local macro_rules | `(tactic| walk_at "rdm_6") => `(tactic| (repeat walk_at "rdm1_6"))
local macro_rules | `(tactic| walk_at "rd_6") => `(tactic| (repeat walk_at "rd1_6"))
local macro_rules | `(tactic| walk_at "kp_6") => `(tactic| (first
  | exact Kp.refl
  | assumption
  | ((refine Kp.trans (J := ?m) ?a ?b); (case b => first | assumption | exact Kp.of (by assumption)); (case a => walk_at "kp_6"))))

theorem zero_lit : Bd 1000 0 := Bd.lit (by decide +kernel)
theorem one_lit : Bd 1000 1 := Bd.lit (by decide +kernel)

/-! ### is_int, is_ratio -/
def IsTy (K : PySem.W.Frag) (H : Hp) (v : V) (t : String) : Prop := TyX K H v (.type t) ∧ (t = "NoneType" ∨ t = "bool" ∨ t = "int" ∨ t = "str" ∨ t = "list" ∨ t = "tuple")
def sp_is_int (K : PySem.W.Frag) : Sp := fun vs H Q _ => ∃ v t, vs = [v] ∧ IsTy K H v t ∧ Q (.bl (decide (t = "int"))) H
theorem ar_is_int (K : PySem.W.Frag) : ∀ vs H Q E, sp_is_int K vs H Q E → vs.length = 1 := by
  intro vs H Q E h
  obtain ⟨v, t, rfl, _⟩ := h
  rfl
abbrev N_is_int : List Str := ["thing"]
theorem sc_is_int : FnScope N_is_int ["thing"] (defScope S_is_int) := ⟨rfl, rfl, rfl, by decide +kernel, rfl, by decide +kernel, by decide +kernel⟩
theorem ok_is_int {P : Program} {w : World} {K : PySem.W.Frag} {mg : Str → Option Value} {base : Heap} {f : Addr} {fd : FuncData} (F : Fun K "is_int" "is_int" S_is_int f fd) (m_isinstance : mg "isinstance" = none) (m_bool : mg "bool" = none) (m_int : mg "int" = none) :
    FnG P w K mg base CX0 1 f fd ["thing"] (sp_is_int K) := by
  refine Fun_okG F sc_is_int (ar_is_int K) (fun cdv A outer s H vs Q E hg hr h => ?_)
  obtain ⟨v, t, rfl, ⟨ty, ht⟩, q⟩ := h
  refine ⟨_, (pss_one (ps_ret (pe_and (pe_callB (id := "isinstance") (isiK (K := K) rfl) (by rfl) m_isinstance (by decide +kernel) (pa_cons (pv 0) (pa_cons (pe_bltn (v := V.ty "int") (u := Value.type "int") (by rfl) m_int (by decide +kernel) rfl) pa_nil))) (pe_one (pe_not (pe_callB (id := "isinstance") (isiK (K := K) rfl) (by rfl) m_isinstance (by decide +kernel) (pa_cons (pv 0) (pa_cons (pe_bltn (v := V.ty "bool") (u := Value.type "bool") (by rfl) m_bool (by decide +kernel) rfl) pa_nil)))))))), ?_⟩
  rcases ht with rfl | rfl | rfl | rfl | rfl | rfl
  · walk_at "rd_6"
    refine iteF ?_
    exact q
  · walk_at "rd_6"
    refine iteT ?_
    walk_at "rd_6"
    exact q
  · walk_at "rd_6"
    refine iteT ?_
    walk_at "rd_6"
    exact q
  · walk_at "rd_6"
    refine iteF ?_
    exact q
  · walk_at "rd_6"
    refine iteF ?_
    exact q
  · walk_at "rd_6"
    refine iteF ?_
    exact q

def sp_lowest (K : PySem.W.Frag) : Sp := fun vs H Q _ => ∃ t u : Int, vs = [.int t, .int u] ∧ u ≠ 0 ∧ Bd 8000 u ∧ ∀ x y p J, IsLow t u x y → H p = none → Same H J → J p = some (.tup [.int x, .int y]) → Q (.ref p) J
theorem ar_lowest (K : PySem.W.Frag) : ∀ vs H Q E, sp_lowest K vs H Q E → vs.length = 2 := by
  intro vs H Q E h
  obtain ⟨b, n, rfl, _⟩ := h
  rfl
abbrev N_lowest : List Str := ["top", "under", "divisor"]
theorem sc_lowest : FnScope N_lowest ["top", "under"] (defScope S_lowest) := ⟨rfl, rfl, rfl, by decide +kernel, rfl, by decide +kernel, by decide +kernel⟩
theorem ok_lowest {P : Program} {w : World} {K : PySem.W.Frag} {mg : Str → Option Value} {base : Heap} {f : Addr} {fd : FuncData} (F : Fun K "lowest" "lowest" S_lowest f fd) (c_gcd : mg "gcd" = some (.builtin "math.gcd")) :
    FnG P w K mg base CX0 1 f fd ["top", "under"] (sp_lowest K) := by
  refine Fun_okG F sc_lowest (ar_lowest K) (fun cdv A outer s H vs Q E hg hr h => ?_)
  obtain ⟨t, u, rfl, u0, hu, q⟩ := h
  refine ⟨_, (pss_cons (ps_set (i := 2) sc_lowest.nd rfl (Or.inl rfl) (pe_ifExp (pt_cmpR op_gt (pv 1) pe_int (nomark _)) (pe_callBfun cr_gcd rfl c_gcd (pa_cons (pv 0) (pa_cons (pv 1) pa_nil))) (pe_un un_neg (pe_callBfun cr_gcd rfl c_gcd (pa_cons (pv 0) (pa_cons (pv 1) pa_nil))))))
    (pss_one (ps_ret (pe_tup (pa_cons (pe_op op_dv (pv 0) (pv 2)) (pa_cons (pe_op op_dv (pv 1) (pv 2)) pa_nil)))))), ?_⟩
  have eg : ((Nat.gcd t.natAbs u.natAbs : Nat) : Int) = ((Int.gcd t u : Nat) : Int) := rfl
  walk_at "rd_6"
  refine rd_if (fun c => ?_) (fun c => ?_)
  · walk_at "rd_6"
    rw [eg]
    obtain ⟨h1, h2, h3⟩ := low_at (t := t) u0 (s := ((Int.gcd t u : Nat) : Int)) (by rw [if_neg (by omega)])
    have hb := hu.le h3
    refine rd_I (rd_dvB _ h2 hb) ?_
    walk_at "rd_6"
    refine rd_I (rd_dvB _ h2 hb) ?_
    walk_at "rd_6"
    rename_i p J np sJ eJ
    exact q _ _ _ _ h1 np sJ eJ
  · walk_at "rd_6"
    rw [eg]
    obtain ⟨h1, h2, h3⟩ := low_at (t := t) u0 (s := -((Int.gcd t u : Nat) : Int)) (by rw [if_pos (by omega)])
    have hb := hu.le h3
    refine rd_I (rd_dvB _ h2 hb) ?_
    walk_at "rd_6"
    refine rd_I (rd_dvB _ h2 hb) ?_
    walk_at "rd_6"
    rename_i p J np sJ eJ
    exact q _ _ _ _ h1 np sJ eJ
def sp_plus (K : PySem.W.Frag) : Sp := fun vs H Q _ => ∃ (p q : Addr) (x y u v : Int), vs = [.ref p, .ref q] ∧ SqT K H p [.int x, .int y] ∧ SqT K H q [.int u, .int v] ∧ 0 < y ∧ 0 < v ∧ Bd 3000 x ∧ Bd 3000 y ∧ Bd 3000 u ∧ Bd 3000 v ∧
  ∀ m n z J, IsLow (x * v + u * y) (y * v) m n → H z = none → Same H J → J z = some (.tup [.int m, .int n]) → Q (.ref z) J
theorem ar_plus (K : PySem.W.Frag) : ∀ vs H Q E, sp_plus K vs H Q E → vs.length = 2 := by
  intro vs H Q E h
  obtain ⟨p, q, x, y, u, v, rfl, _⟩ := h
  rfl
abbrev N_plus : List Str := ["one", "other"]
theorem sc_plus : FnScope N_plus ["one", "other"] (defScope S_plus) := ⟨rfl, rfl, rfl, by decide +kernel, rfl, by decide +kernel, by decide +kernel⟩
theorem ok_plus {P : Program} {w : World} {K : PySem.W.Frag} {mg : Str → Option Value} {base : Heap} {f : Addr} {fd : FuncData} (F : Fun K "plus" "plus" S_plus f fd) {f_lowest : Addr} {fd_lowest : FuncData} (C_lowest : Cal P w K mg base "lowest" 1 f_lowest fd_lowest ["top", "under"] (sp_lowest K)) :
    FnG P w K mg base CX0 2 f fd ["one", "other"] (sp_plus K) := by
  refine Fun_okG F sc_plus (ar_plus K) (fun cdv A outer s H vs Q E hg hr h => ?_)
  obtain ⟨p, q, x, y, u, v, rfl, hp, hq, y0, v0, bx, by', bu, bv, k⟩ := h
  refine ⟨_, (pss_one (ps_ret (pe_c C_lowest hg (hr.mono (by decide)) rfl (pa_cons (pe_op op_add (pe_op op_ml (pe_ix (ixK (K := K) rfl) (pv 0) pe_int (fun _ _ => rfl)) (pe_ix (ixK (K := K) rfl) (pv 1) pe_int (fun _ _ => rfl))) (pe_op op_ml (pe_ix (ixK (K := K) rfl) (pv 1) pe_int (fun _ _ => rfl)) (pe_ix (ixK (K := K) rfl) (pv 0) pe_int (fun _ _ => rfl)))) (pa_cons (pe_op op_ml (pe_ix (ixK (K := K) rfl) (pv 0) pe_int (fun _ _ => rfl)) (pe_ix (ixK (K := K) rfl) (pv 1) pe_int (fun _ _ => rfl))) pa_nil))))), ?_⟩
  walk_at "rd_6"
  have h0 := Int.mul_pos y0 v0
  exact ⟨_, _, rfl, by omega, (by'.mul bv).mono (by decide), k⟩
def sp_minus (K : PySem.W.Frag) : Sp := fun vs H Q _ => ∃ (p q : Addr) (x y u v : Int), vs = [.ref p, .ref q] ∧ SqT K H p [.int x, .int y] ∧ SqT K H q [.int u, .int v] ∧ 0 < y ∧ 0 < v ∧ Bd 3000 x ∧ Bd 3000 y ∧ Bd 3000 u ∧ Bd 3000 v ∧
  ∀ m n z J, IsLow (x * v - u * y) (y * v) m n → H z = none → Same H J → J z = some (.tup [.int m, .int n]) → Q (.ref z) J
theorem ar_minus (K : PySem.W.Frag) : ∀ vs H Q E, sp_minus K vs H Q E → vs.length = 2 := by
  intro vs H Q E h
  obtain ⟨p, q, x, y, u, v, rfl, _⟩ := h
  rfl
abbrev N_minus : List Str := ["one", "other"]
theorem sc_minus : FnScope N_minus ["one", "other"] (defScope S_minus) := ⟨rfl, rfl, rfl, by decide +kernel, rfl, by decide +kernel, by decide +kernel⟩
theorem ok_minus {P : Program} {w : World} {K : PySem.W.Frag} {mg : Str → Option Value} {base : Heap} {f : Addr} {fd : FuncData} (F : Fun K "minus" "minus" S_minus f fd) {f_lowest : Addr} {fd_lowest : FuncData} (C_lowest : Cal P w K mg base "lowest" 1 f_lowest fd_lowest ["top", "under"] (sp_lowest K)) :
    FnG P w K mg base CX0 2 f fd ["one", "other"] (sp_minus K) := by
  refine Fun_okG F sc_minus (ar_minus K) (fun cdv A outer s H vs Q E hg hr h => ?_)
  obtain ⟨p, q, x, y, u, v, rfl, hp, hq, y0, v0, bx, by', bu, bv, k⟩ := h
  refine ⟨_, (pss_one (ps_ret (pe_c C_lowest hg (hr.mono (by decide)) rfl (pa_cons (pe_op op_sub (pe_op op_ml (pe_ix (ixK (K := K) rfl) (pv 0) pe_int (fun _ _ => rfl)) (pe_ix (ixK (K := K) rfl) (pv 1) pe_int (fun _ _ => rfl))) (pe_op op_ml (pe_ix (ixK (K := K) rfl) (pv 1) pe_int (fun _ _ => rfl)) (pe_ix (ixK (K := K) rfl) (pv 0) pe_int (fun _ _ => rfl)))) (pa_cons (pe_op op_ml (pe_ix (ixK (K := K) rfl) (pv 0) pe_int (fun _ _ => rfl)) (pe_ix (ixK (K := K) rfl) (pv 1) pe_int (fun _ _ => rfl))) pa_nil))))), ?_⟩
  walk_at "rd_6"
  have h0 := Int.mul_pos y0 v0
  exact ⟨_, _, rfl, by omega, (by'.mul bv).mono (by decide), k⟩

def sp_floor_of (K : PySem.W.Frag) : Sp := fun vs H Q _ => ∃ (p : Addr) (x y : Int), vs = [.ref p] ∧ H p = some (.tup [.int x, .int y]) ∧ 0 < y ∧ Bd 2000 y ∧ Q (.int (x.fdiv y)) H
theorem ar_floor_of (K : PySem.W.Frag) : ∀ vs H Q E, sp_floor_of K vs H Q E → vs.length = 1 := by
  intro vs H Q E h
  obtain ⟨p, x, y, rfl, _⟩ := h
  rfl
abbrev N_floor_of : List Str := ["ratio"]
theorem sc_floor_of : FnScope N_floor_of ["ratio"] (defScope S_floor_of) := ⟨rfl, rfl, rfl, by decide +kernel, rfl, by decide +kernel, by decide +kernel⟩
theorem ok_floor_of {P : Program} {w : World} {K : PySem.W.Frag} {mg : Str → Option Value} {base : Heap} {f : Addr} {fd : FuncData} (F : Fun K "floor_of" "floor_of" S_floor_of f fd) :
    FnG P w K mg base CX0 1 f fd ["ratio"] (sp_floor_of K) := by
  refine Fun_okG F sc_floor_of (ar_floor_of K) (fun cdv A outer s H vs Q E hg hr h => ?_)
  obtain ⟨p, x, y, rfl, hp, y0, by', q⟩ := h
  refine ⟨_, (pss_one (ps_ret (pe_op op_dv (pe_ix (ixK (K := K) rfl) (pv 0) pe_int (fun _ _ => rfl)) (pe_ix (ixK (K := K) rfl) (pv 0) pe_int (fun _ _ => rfl))))), ?_⟩
  walk_at "rd_6"
  exact q

def sp_is_less (K : PySem.W.Frag) : Sp := fun vs H Q _ => ∃ (p q : Addr) (x y u v : Int), vs = [.ref p, .ref q] ∧ SqT K H p [.int x, .int y] ∧ SqT K H q [.int u, .int v] ∧ Bd 1000 x ∧ Bd 1000 y ∧ Bd 1000 u ∧ Bd 1000 v ∧ Q (.bl (decide (x * v < u * y))) H
theorem ar_is_less (K : PySem.W.Frag) : ∀ vs H Q E, sp_is_less K vs H Q E → vs.length = 2 := by
  intro vs H Q E h
  obtain ⟨p, q, x, y, u, v, rfl, _⟩ := h
  rfl
abbrev N_is_less : List Str := ["one", "other"]
theorem sc_is_less : FnScope N_is_less ["one", "other"] (defScope S_is_less) := ⟨rfl, rfl, rfl, by decide +kernel, rfl, by decide +kernel, by decide +kernel⟩
theorem ok_is_less {P : Program} {w : World} {K : PySem.W.Frag} {mg : Str → Option Value} {base : Heap} {f : Addr} {fd : FuncData} (F : Fun K "is_less" "is_less" S_is_less f fd) :
    FnG P w K mg base CX0 1 f fd ["one", "other"] (sp_is_less K) := by
  refine Fun_okG F sc_is_less (ar_is_less K) (fun cdv A outer s H vs Q E hg hr h => ?_)
  obtain ⟨p, q, x, y, u, v, rfl, hp, hq, bx, by_, bu, bv, k⟩ := h
  refine ⟨_, (pss_one (ps_ret (pe_cmpR op_lt (pe_op op_ml (pe_ix (ixK (K := K) rfl) (pv 0) pe_int (fun _ _ => rfl)) (pe_ix (ixK (K := K) rfl) (pv 1) pe_int (fun _ _ => rfl))) (pe_op op_ml (pe_ix (ixK (K := K) rfl) (pv 1) pe_int (fun _ _ => rfl)) (pe_ix (ixK (K := K) rfl) (pv 0) pe_int (fun _ _ => rfl))) (nomark _)))), ?_⟩
  walk_at "rd_6"
  exact k

def sp_arc (K : PySem.W.Frag) : Sp := fun vs H Q _ => ∃ (p q : Addr) (x y u v : Int), vs = [.ref p, .ref q] ∧ Ra K H p x y ∧ Ra K H q u v ∧
  ∀ l J rs, H l = none → Same H J → J l = some (.lst rs) → SnsAt K J rs (arcD x y u v) → rs.length ≤ 2 → Q (.ref l) J
theorem ar_arc (K : PySem.W.Frag) : ∀ vs H Q E, sp_arc K vs H Q E → vs.length = 2 := by
  intro vs H Q E h
  obtain ⟨p, q, x, y, u, v, rfl, _⟩ := h
  rfl
abbrev N_arc : List Str := ["low", "high", "before"]
theorem sc_arc : FnScope N_arc ["low", "high"] (defScope S_arc) := ⟨rfl, rfl, rfl, by decide +kernel, rfl, by decide +kernel, by decide +kernel⟩
theorem ok_arc {P : Program} {w : World} {K : PySem.W.Frag} {mg : Str → Option Value} {base : Heap} {f : Addr} {fd : FuncData} (F : Fun K "arc" "arc" S_arc f fd) {f_is_less : Addr} {fd_is_less : FuncData} (C_is_less : Cal P w K mg base "is_less" 1 f_is_less fd_is_less ["one", "other"] (sp_is_less K)) {z_ONE : Addr} (c_ONE : TupC K mg "ONE" z_ONE [V.int 1, V.int 1]) {z_ZERO : Addr} (c_ZERO : TupC K mg "ZERO" z_ZERO [V.int 0, V.int 1]) :
    FnG P w K mg base CX0 2 f fd ["low", "high"] (sp_arc K) := by
  refine Fun_okG F sc_arc (ar_arc K) (fun cdv A outer s H vs Q E hg hr h => ?_)
  obtain ⟨p, q, x, y, u, v, rfl, hp, hq, k⟩ := h
  refine ⟨_, (pss_cons (ps_if (pt_cmpR (eqK (K := K) rfl (room_u hr)) (pv 0) (pv 1) (nomark _)) (pss_one (ps_ret (pe_lst pa_nil))) pss_nil)
    (pss_cons (ps_if (pt_val (pe_c C_is_less hg (hr.mono (by decide)) rfl (pa_cons (pv 0) (pa_cons (pv 1) pa_nil)))) (pss_one (ps_ret (pe_lst (pa_cons (pe_tup (pa_cons (pv 0) (pa_cons (pv 1) pa_nil))) pa_nil)))) pss_nil)
    (pss_cons (ps_set (i := 2) sc_arc.nd rfl (Or.inl rfl) (pe_ifExp (pt_cmpR (eqK (K := K) rfl (room_u hr)) (pv 1) (pe_glob (v := V.ref z_ZERO) (u := Value.ref z_ZERO) rfl c_ZERO.m rfl) (nomark _)) (pe_lst pa_nil) (pe_lst (pa_cons (pe_tup (pa_cons (pe_glob (v := V.ref z_ZERO) (u := Value.ref z_ZERO) rfl c_ZERO.m rfl) (pa_cons (pv 1) pa_nil))) pa_nil))))
    (pss_one (ps_ret (pe_op op_cat (pv 2) (pe_lst (pa_cons (pe_tup (pa_cons (pv 0) (pa_cons (pe_glob (v := V.ref z_ONE) (u := Value.ref z_ONE) rfl c_ONE.m rfl) pa_nil))) pa_nil)))))))), ?_⟩
  have sp := hp.sq
  have sq := hq.sq
  have r0 : ∀ M : Hp, Ra K M z_ZERO 0 1 := fun M => ⟨c_ZERO.sq M, by decide, by decide, zero_lit, one_lit⟩
  have r1 : ∀ M : Hp, Ra K M z_ONE 1 1 := fun M => ⟨c_ONE.sq M, by decide, by decide, one_lit, one_lit⟩
  walk_at "rd_6"
  refine rd_if (fun c => ?_) (fun c => ?_)
  · walk_at "rd_6"
    refine k _ _ _ (by assumption) (by assumption) (by assumption) ?_ (by decide)
    rw [show arcD x y u v = [] from if_pos c]
    exact .nil
  · walk_at "rd_6"
    refine ⟨p, q, x, y, u, v, rfl, sp, sq, hp.bx, hp.bu, hq.bx, hq.bu, ?_⟩
    walk_at "rd_6"
    refine rd_if (fun c2 => ?_) (fun c2 => ?_)
    · walk_at "rd_6"
      rename_i c1 J1 n1 s1 e1 l J n s' e
      have hs : Same H J := Same.trans s1 s'
      refine k l J _ (Same.free s1 n) hs e ?_ (Nat.le_of_ble_eq_true rfl)
      rw [show arcD x y u v = [⟨x, y, u, v⟩] from (if_neg c).trans (if_pos c2)]
      exact .cons ⟨c1, p, q, rfl, SqT.of (s' _ _ e1), hp.mono fun xs h => sqt_same hs h, hq.mono fun xs h => sqt_same hs h⟩ .nil
    · walk_at "rd_6"
      refine rd_if (fun c3 => ?_) (fun c3 => ?_)
      · walk_at "rd_6"
        rename_i p3 J3 n3 s3 e3 p2 J2 n2 s2 e2 p1 J1 n1 s1 e1 l J n s' e
        have h3 : Same H J1 := Same.trans s3 (Same.trans s2 s1)
        have hs : Same H J := Same.trans h3 s'
        refine k l J _ (Same.free h3 n) hs e ?_ (Nat.le_of_ble_eq_true rfl)
        rw [show arcD x y u v = [⟨x, y, 1, 1⟩] from (if_neg c).trans ((if_neg c2).trans (by rw [if_pos c3]; rfl))]
        exact .cons ⟨p2, p, z_ONE, rfl, SqT.of (s' _ _ (s1 _ _ e2)), hp.mono fun xs h => sqt_same hs h, r1 J⟩ .nil
      · walk_at "rd_6"
        rename_i p4 J4 n4 s4 e4 p3 J3 n3 s3 e3 p2 J2 n2 s2 e2 p1 J1 n1 s1 e1 l J n s' e
        have h3 : Same H J1 := Same.trans s4 (Same.trans s3 (Same.trans s2 s1))
        have hs : Same H J := Same.trans h3 s'
        refine k l J _ (Same.free h3 n) hs e ?_ (Nat.le_of_ble_eq_true rfl)
        rw [show arcD x y u v = [⟨0, 1, u, v⟩, ⟨x, y, 1, 1⟩] from (if_neg c).trans ((if_neg c2).trans (by rw [if_neg c3]; rfl))]
        exact .cons ⟨p4, z_ZERO, q, rfl, SqT.of (s' _ _ (s1 _ _ (s2 _ _ (s3 _ _ e4)))), r0 J, hq.mono fun xs h => sqt_same hs h⟩ (.cons ⟨p2, p, z_ONE, rfl, SqT.of (s' _ _ (s1 _ _ e2)), hp.mono fun xs h => sqt_same hs h, r1 J⟩ .nil)

def sp_both (K : PySem.W.Frag) : Sp := fun vs H Q _ => ∃ (a b : Addr) (rs zs : List V) (ss ts : List Sn), vs = [.ref a, .ref b] ∧ H a = some (.lst rs) ∧ H b = some (.lst zs) ∧ SnsAt K H rs ss ∧ SnsAt K H zs ts ∧ rs.length ≤ 300 ∧ zs.length ≤ 300 ∧
  ∀ l J ws, H l = none → Same H J → J l = some (.lst ws) → SnsAt K J ws (bothS ss ts) → ws.length ≤ rs.length + zs.length → Q (.ref l) J
theorem ar_both (K : PySem.W.Frag) : ∀ vs H Q E, sp_both K vs H Q E → vs.length = 2 := by
  intro vs H Q E h
  obtain ⟨a, b, rs, zs, ss, ts, rfl, _⟩ := h
  rfl
abbrev N_both : List Str := ["one", "other", "found", "at", "by", "low", "high", "other_low", "other_high", "start", "end"]
theorem sc_both : FnScope N_both ["one", "other"] (defScope S_both) := ⟨rfl, rfl, rfl, by decide +kernel, rfl, by decide +kernel, by decide +kernel⟩
theorem ok_both {P : Program} {w : World} {K : PySem.W.Frag} {mg : Str → Option Value} {base : Heap} {f : Addr} {fd : FuncData} (F : Fun K "both" "both" S_both f fd) {f_is_less : Addr} {fd_is_less : FuncData} (C_is_less : Cal P w K mg base "is_less" 1 f_is_less fd_is_less ["one", "other"] (sp_is_less K)) (m_len : mg "len" = none) :
    FnG P w K mg base CX0 2 f fd ["one", "other"] (sp_both K) := by
  refine Fun_okG F sc_both (ar_both K) (fun cdv A outer s H vs Q E hg hr h => ?_)
  obtain ⟨a, b, rs, zs, ss, ts, rfl, ha, hb, hs, ht, la, lb, q⟩ := h
  refine ⟨_, (pss_cons (ps_set (i := 2) sc_both.nd rfl (Or.inl rfl) (pe_lst pa_nil))
    (pss_cons (ps_asg2 pe_int (pg_name (i := 3) sc_both.nd rfl (Or.inl rfl)) (pg_name (i := 4) sc_both.nd rfl (Or.inl rfl)))
    (pss_cons (ps_while PassesOwn.never (PW.pt (pw_and (pt_cmpR op_lt (pv 3) (pe_callB (id := "len") (lenK (K := K) rfl) (by rfl) m_len (by decide +kernel) (pa_cons (pv 0) pa_nil)) (nomark _)) (pw_and1 (pt_cmpR op_lt (pv 4) (pe_callB (id := "len") (lenK (K := K) rfl) (by rfl) m_len (by decide +kernel) (pa_cons (pv 1) pa_nil)) (nomark _))))) (pss_cons (ps_asg (pe_ix (ixK (K := K) rfl) (pv 0) (pv 3) (fun _ _ => rfl)) (pg_tup rfl (pgs_cons (pg_name (i := 5) sc_both.nd rfl (Or.inl rfl)) (pgs_cons (pg_name (i := 6) sc_both.nd rfl (Or.inl rfl)) pgs_nil))))
    (pss_cons (ps_asg (pe_ix (ixK (K := K) rfl) (pv 1) (pv 4) (fun _ _ => rfl)) (pg_tup rfl (pgs_cons (pg_name (i := 7) sc_both.nd rfl (Or.inl rfl)) (pgs_cons (pg_name (i := 8) sc_both.nd rfl (Or.inl rfl)) pgs_nil))))
    (pss_cons (ps_set (i := 9) sc_both.nd rfl (Or.inl rfl) (pe_ifExp (pt_val (pe_c C_is_less hg (hr.mono (by decide)) rfl (pa_cons (pv 5) (pa_cons (pv 7) pa_nil)))) (pv 7) (pv 5)))
    (pss_cons (ps_if (pt_val (pe_c C_is_less hg (hr.mono (by decide)) rfl (pa_cons (pv 6) (pa_cons (pv 8) pa_nil)))) (pss_cons (ps_set (i := 10) sc_both.nd rfl (Or.inl rfl) (pv 6))
    (pss_one (ps_aug (i := 3) sc_both.nd rfl (.inl rfl) pe_int ip_add))) (pss_cons (ps_set (i := 10) sc_both.nd rfl (Or.inl rfl) (pv 8))
    (pss_one (ps_aug (i := 4) sc_both.nd rfl (.inl rfl) pe_int ip_add))))
    (pss_one (ps_if (pt_val (pe_c C_is_less hg (hr.mono (by decide)) rfl (pa_cons (pv 9) (pa_cons (pv 10) pa_nil)))) (pss_one (ps_expr (pe_bm PySem.F.plainAttrs_list PySem.F.slot_list_append PySem.F.type_list_append mt_append (pv 2) (pa_cons (pe_tup (pa_cons (pv 9) (pa_cons (pv 10) pa_nil))) pa_nil)))) pss_nil)))))))
    (pss_one (ps_ret (pv 2)))))), ?_⟩
  have ln := hs.len
  have lm := ht.len
  walk_at "rd_6"
  rename_i l J0 n0 s0 e0
  refine ⟨fun m σ' M => ∃ (i j : Nat) (acc : List V) (sa : List Sn) (o5 o6 o7 o8 o9 o10 : Option V), σ' = [some (.ref a), some (.ref b), some (.ref l), some (.int (i : Int)), some (.int (j : Int)), o5, o6, o7, o8, o9, o10] ∧ M l = some (.lst acc) ∧ Same H M ∧ SnsAt K M acc sa ∧ sa ++ bothS (ss.drop i) (ts.drop j) = bothS ss ts ∧ i ≤ rs.length ∧ j ≤ zs.length ∧ acc.length ≤ i + j ∧ m + i + j = rs.length + zs.length,
    ⟨rs.length + zs.length, 0, 0, [], [], none, none, none, none, none, none, rfl, e0, s0, .nil, rfl, Nat.zero_le _, Nat.zero_le _, Nat.le_refl _, rfl⟩, ?_⟩
  rintro m σ M ⟨i, j, acc, sa, o5, o6, o7, o8, o9, o10, rfl, hl, sM, hacc, inv, li, lj, lacc, em⟩
  have haM := sM _ _ ha
  have hbM := sM _ _ hb
  walk_at "rd_6"
  refine rd_if (fun ci => ?_) (fun ci => ?_)
  · walk_at "rd_6"
    refine rd_if (fun cj => ?_) (fun cj => ?_)
    · refine ⟨_, fun _ _ h => h, ?_⟩
      obtain ⟨r, hr⟩ : ∃ r, rs[i]? = some r := ⟨_, List.getElem?_eq_getElem (by omega)⟩
      obtain ⟨z, hz⟩ : ∃ z, zs[j]? = some z := ⟨_, List.getElem?_eq_getElem (by omega)⟩
      obtain ⟨s, es, sa1⟩ := hs.get hr
      obtain ⟨c, p1, p2, rfl, hc, h1, h2⟩ := sa1.mono (J := M) fun p xs h => sqt_same sM h
      obtain ⟨t, et, ta1⟩ := ht.get hz
      obtain ⟨d, p3, p4, rfl, hd, h3, h4⟩ := ta1.mono (J := M) fun p xs h => sqt_same sM h
      have s1 := h1.sq
      have s2 := h2.sq
      have s3 := h3.sq
      have s4 := h4.sq
      walk_at "rd_6"
      refine rd_sxL (SqL.of haM) (atI_nat hr) ?_
      walk_at "rd_6"
      refine rd_sxL (SqL.of hbM) (atI_nat hz) ?_
      walk_at "rd_6"
      refine ⟨p1, p3, s.x, s.y, t.x, t.y, rfl, s1, s3, h1.bx, h1.bu, h3.bx, h3.bu, ?_⟩
      walk_at "rd_6"
      refine rd_ifv (x := .ref p3) (y := .ref p1) rfl rfl fun ps e1 e2 => ?_
      obtain ⟨pt, rfl⟩ : ∃ pt, ps = .ref pt := by
        by_cases c : s.x * t.y < t.x * s.y
        · exact ⟨_, e1 c⟩
        · exact ⟨_, e2 c⟩
      have hpt : Ra K M pt (stS s t).1 (stS s t).2 := by
        by_cases c : s.x * t.y < t.x * s.y
        · have := e1 c
          cases this
          unfold stS
          rw [if_pos c]
          exact h3
        · have := e2 c
          cases this
          unfold stS
          rw [if_neg c]
          exact h1
      clear e1 e2
      generalize hst : stS s t = st at hpt
      have s5 := hpt.sq
      have di : ss.drop i = s :: ss.drop (i + 1) := by
        obtain ⟨w, rfl⟩ := List.getElem?_eq_some_iff.mp es
        exact List.drop_eq_getElem_cons w
      have dj : ts.drop j = t :: ts.drop (j + 1) := by
        obtain ⟨w, rfl⟩ := List.getElem?_eq_some_iff.mp et
        exact List.drop_eq_getElem_cons w
      rw [di, dj, bothS, hst] at inv
      walk_at "rd_6"
      refine ⟨p2, p4, s.u, s.v, t.u, t.v, rfl, s2, s4, h2.bx, h2.bu, h4.bx, h4.bu, ?_⟩
      walk_at "rd_6"
      refine rd_if (fun c3 => ?_) (fun c3 => ?_)
      · rw [if_pos c3, ← dj] at inv
        walk_at "rd_6"
        refine ⟨pt, p2, st.1, st.2, s.u, s.v, rfl, s5, s2, hpt.bx, hpt.bu, h2.bx, h2.bu, ?_⟩
        walk_at "rd_6"
        refine rd_if (fun c4 => ?_) (fun c4 => ?_)
        · unfold segS at inv
          rw [if_pos c4, ← List.append_assoc] at inv
          walk_at "rd_6"
          rename_i q0 J1 n1 s1' e1'
          refine rd_appK (s1' _ _ hl) (by omega) fun J4 p4' e4' => ?_
          walk_at "rd_6"
          have up : ∀ p xs, SqT K M p xs → SqT K J4 p xs := fun p xs h => sqt_pu p4' (sqt_same s1' h)
          exact ⟨m - 1, by omega, i + 1, j, _, _, _, _, _, _, _, _, rfl, e4', Same.pu (Same.trans sM s1') p4' n0, (hacc.mono up).snoc (s := ⟨st.1, st.2, s.u, s.v⟩) ⟨q0, pt, p2, rfl, sqt_pu p4' (SqT.of e1'), hpt.mono fun xs h => up _ xs h, h2.mono fun xs h => up _ xs h⟩, inv, by omega, lj, by rw [List.length_append, List.length_singleton]; omega, by omega⟩
        · unfold segS at inv
          rw [if_neg c4, List.nil_append] at inv
          walk_at "rd_6"
          exact ⟨m - 1, by omega, i + 1, j, _, _, _, _, _, _, _, _, rfl, hl, sM, hacc, inv, by omega, lj, by omega, by omega⟩
      · rw [if_neg c3, ← di] at inv
        walk_at "rd_6"
        refine ⟨pt, p4, st.1, st.2, t.u, t.v, rfl, s5, s4, hpt.bx, hpt.bu, h4.bx, h4.bu, ?_⟩
        walk_at "rd_6"
        refine rd_if (fun c4 => ?_) (fun c4 => ?_)
        · unfold segS at inv
          rw [if_pos c4, ← List.append_assoc] at inv
          walk_at "rd_6"
          rename_i q0 J1 n1 s1' e1'
          refine rd_appK (s1' _ _ hl) (by omega) fun J4 p4' e4' => ?_
          walk_at "rd_6"
          have up : ∀ p xs, SqT K M p xs → SqT K J4 p xs := fun p xs h => sqt_pu p4' (sqt_same s1' h)
          exact ⟨m - 1, by omega, i, j + 1, _, _, _, _, _, _, _, _, rfl, e4', Same.pu (Same.trans sM s1') p4' n0, (hacc.mono up).snoc (s := ⟨st.1, st.2, t.u, t.v⟩) ⟨q0, pt, p4, rfl, sqt_pu p4' (SqT.of e1'), hpt.mono fun xs h => up _ xs h, h4.mono fun xs h => up _ xs h⟩, inv, li, by omega, by rw [List.length_append, List.length_singleton]; omega, by omega⟩
        · unfold segS at inv
          rw [if_neg c4, List.nil_append] at inv
          walk_at "rd_6"
          exact ⟨m - 1, by omega, i, j + 1, _, _, _, _, _, _, _, _, rfl, hl, sM, hacc, inv, li, by omega, by omega, by omega⟩
    · have ej : j = zs.length := by omega
      rw [ej, lm, List.drop_length, bothS_nil', List.append_nil] at inv
      subst inv
      walk_at "rd_6"
      exact q l M _ n0 sM hl hacc (by omega)
  · have ei : i = rs.length := by omega
    rw [ei, ln, List.drop_length, bothS_nil, List.append_nil] at inv
    subst inv
    walk_at "rd_6"
    rw [if_neg Bool.false_ne_true]
    walk_at "rd_6"
    exact q l M _ n0 sM hl hacc (by omega)

def sp_has (K : PySem.W.Frag) : Sp := fun vs H Q _ => ∃ (l p : Addr) (rs : List V) (ss : List Sn) (x y : Int), vs = [.ref l, .ref p] ∧ H l = some (.lst rs) ∧ SnsAt K H rs ss ∧ rs.length ≤ 500 ∧ Ra K H p x y ∧ ∀ J, Same H J → Q (.bl (ss.any (hasS x y))) J
theorem ar_has (K : PySem.W.Frag) : ∀ vs H Q E, sp_has K vs H Q E → vs.length = 2 := by
  intro vs H Q E h
  obtain ⟨l, p, rs, ss, x, y, rfl, _⟩ := h
  rfl
abbrev N_has : List Str := ["one", "cut", "low", "high"]
theorem sc_has : FnScope N_has ["one", "cut"] (defScope S_has) := ⟨rfl, rfl, rfl, by decide +kernel, rfl, by decide +kernel, by decide +kernel⟩
theorem ok_has {P : Program} {w : World} {K : PySem.W.Frag} {mg : Str → Option Value} {base : Heap} {f : Addr} {fd : FuncData} (F : Fun K "has" "has" S_has f fd) {f_is_less : Addr} {fd_is_less : FuncData} (C_is_less : Cal P w K mg base "is_less" 1 f_is_less fd_is_less ["one", "other"] (sp_is_less K)) (m_any : mg "any" = none) :
    FnG P w K mg base CX0 2 f fd ["one", "cut"] (sp_has K) := by
  refine Fun_okG F sc_has (ar_has K) (fun cdv A outer s H vs Q E hg hr h => ?_)
  obtain ⟨l, p, rs, ss, x, y, rfl, hl, hs, hz, rp, q⟩ := h
  refine ⟨_, (pss_one (ps_ret (pe_callB (id := "any") (anyK (K := K) rfl rfl) (by rfl) m_any (by decide +kernel) (pa_cons (pe_lc (own := [("low", 2), ("high", 3)]) (g := (gTup K 2 (gCons (gName 2) (gCons (gName 3) gNil)))) rfl sc_has.nd (piL (K := K) rfl (pv 0)) (blkOk_by (own := [("low", 2), ("high", 3)]) (N := N_has) (sc := defScope S_has) (by decide +kernel)) (fun _ _ _ _ _ => (pgT rfl rfl (pgs_cons (pg_name (i := 2) sc_has.nd rfl (Or.inl rfl)) (pgs_cons (pg_name (i := 3) sc_has.nd rfl (Or.inl rfl)) pgs_nil)))) (fun _ _ _ _ _ => pts_nil) (fun _ _ _ _ _ => (pe_and (pe_not (pe_c C_is_less hg (hr.mono (by decide)) rfl (pa_cons (pv 1) (pa_cons (pv 2) pa_nil)))) (pe_one (pe_c C_is_less hg (hr.mono (by decide)) rfl (pa_cons (pv 1) (pa_cons (pv 3) pa_nil))))))) pa_nil)))), ?_⟩
  have ln := hs.len
  walk_at "rd_6"
  intro D nD
  refine lc_growL (fun ys _ => ys = ((ss.map (hasS x y)).take ys.length).map V.bl) hl hz nD (fun J k => by simp) (fun i r ys J hr i5 hy k hD e => ?_) fun ys J hy k hD e => ?_
  · obtain ⟨s, es, sa⟩ := hs.get hr
    obtain ⟨c, p1, p2, rfl, hc, h1, h2⟩ := sa.mono (J := J) fun p xs h => sqt_fresh k nD h
    have rpJ : Ra K J p x y := rp.mono fun xs h => sqt_fresh k nD h
    have s1 := h1.sq
    have s2 := h2.sq
    have s3 := rpJ.sq
    have fin : ∀ bb : Bool, bb = hasS x y s → LcEnd D H (fun ys _ => ys = ((ss.map (hasS x y)).take ys.length).map V.bl) (i + 1) (.bl bb) J := fun bb eb => by
      refine lcEnd_mk hD hy i5 k fun J4 p4 e4 => ?_
      rw [List.length_append, List.length_singleton, hy, List.take_add_one, List.getElem?_map, es, List.map_append, ← hy, ← e, eb]
      rfl
    walk_at "rd_6"
    refine ⟨rfl, ?_⟩
    walk_at "rd_6"
    refine ⟨p, p1, x, y, s.x, s.y, rfl, s3, s1, rpJ.bx, rpJ.bu, h1.bx, h1.bu, ?_⟩
    walk_at "rd_6"
    refine rd_ifn (fun c => ?_) (fun c => ?_)
    · walk_at "rd_6"
      refine ⟨p, p2, x, y, s.u, s.v, rfl, s3, s2, rpJ.bx, rpJ.bu, h2.bx, h2.bu, ?_⟩
      exact fin _ (by unfold hasS; rw [decide_eq_false c]; rfl)
    · exact fin _ (by unfold hasS; rw [decide_eq_true c]; rfl)
  · walk_at "rd_6"
    have e2 : ys = (ss.map (hasS x y)).map V.bl := by
      rw [e, List.take_of_length_le]
      rw [List.length_map]
      omega
    rw [e2] at hD
    refine rd_any (bs := ss.map (hasS x y)) (SqL.of hD) ?_
    rw [List.any_map]
    exact q J fun a o h => k a o (ne_of_none h nD) h

def sp_is_day (K : PySem.W.Frag) : Sp := fun vs H Q _ => ∃ d : Int, vs = [.int d] ∧ 0 ≤ d ∧ d ≤ 10 ^ 30 ∧ Q (.bl true) H
theorem ar_is_day (K : PySem.W.Frag) : ∀ vs H Q E, sp_is_day K vs H Q E → vs.length = 1 := by
  intro vs H Q E h
  obtain ⟨d, rfl, _⟩ := h
  rfl
abbrev N_is_day : List Str := ["thing"]
theorem sc_is_day : FnScope N_is_day ["thing"] (defScope S_is_day) := ⟨rfl, rfl, rfl, by decide +kernel, rfl, by decide +kernel, by decide +kernel⟩
theorem ok_is_day {P : Program} {w : World} {K : PySem.W.Frag} {mg : Str → Option Value} {base : Heap} {f : Addr} {fd : FuncData} (F : Fun K "is_day" "is_day" S_is_day f fd) {f_is_int : Addr} {fd_is_int : FuncData} (C_is_int : Cal P w K mg base "is_int" 1 f_is_int fd_is_int ["thing"] (sp_is_int K)) {t_LAST_DAY : Nat} (c_LAST_DAY : mg "LAST_DAY" = some (.int 1000000000000000000000000000000 t_LAST_DAY)) :
    FnG P w K mg base CX0 2 f fd ["thing"] (sp_is_day K) := by
  refine Fun_okG F sc_is_day (ar_is_day K) (fun cdv A outer s H vs Q E hg hr h => ?_)
  obtain ⟨d, rfl, d0, d1, q⟩ := h
  refine ⟨_, (pss_one (ps_ret (pe_and (pe_c C_is_int hg (hr.mono (by decide)) rfl (pa_cons (pv 0) pa_nil)) (pe_one (pe_chain op_le op_le pe_int (pv 0) (pe_glob (v := V.int 1000000000000000000000000000000) rfl c_LAST_DAY ⟨_, rfl⟩)))))), ?_⟩
  walk_at "rd_6"
  refine ⟨.int d, "int", rfl, ⟨.base (.int d), by simp⟩, ?_⟩
  walk_at "rd_6"
  refine iteT ?_
  walk_at "rd_6"
  refine rd_if (fun c => ?_) (fun c => absurd d0 c)
  walk_at "rd_6"
  rw [decide_eq_true (by omega)]
  exact q
def sp__is_many (K : PySem.W.Frag) : Sp := fun vs H Q _ => ∃ n d : Int, vs = [.int n, .int d] ∧ 1 ≤ n ∧ n ≤ 10 ^ 30 - d ∧ Q (.bl true) H
theorem ar__is_many (K : PySem.W.Frag) : ∀ vs H Q E, sp__is_many K vs H Q E → vs.length = 2 := by
  intro vs H Q E h
  obtain ⟨n, d, rfl, _⟩ := h
  rfl
abbrev N__is_many : List Str := ["thing", "first"]
theorem sc__is_many : FnScope N__is_many ["thing", "first"] (defScope S__is_many) := ⟨rfl, rfl, rfl, by decide +kernel, rfl, by decide +kernel, by decide +kernel⟩
theorem ok__is_many {P : Program} {w : World} {K : PySem.W.Frag} {mg : Str → Option Value} {base : Heap} {f : Addr} {fd : FuncData} (F : Fun K "_is_many" "_is_many" S__is_many f fd) {f_is_int : Addr} {fd_is_int : FuncData} (C_is_int : Cal P w K mg base "is_int" 1 f_is_int fd_is_int ["thing"] (sp_is_int K)) {t_LAST_DAY : Nat} (c_LAST_DAY : mg "LAST_DAY" = some (.int 1000000000000000000000000000000 t_LAST_DAY)) :
    FnG P w K mg base CX0 2 f fd ["thing", "first"] (sp__is_many K) := by
  refine Fun_okG F sc__is_many (ar__is_many K) (fun cdv A outer s H vs Q E hg hr h => ?_)
  obtain ⟨n, d, rfl, d0, d1, q⟩ := h
  refine ⟨_, (pss_one (ps_ret (pe_and (pe_c C_is_int hg (hr.mono (by decide)) rfl (pa_cons (pv 0) pa_nil)) (pe_one (pe_chain op_le op_le pe_int (pv 0) (pe_op op_sub (pe_glob (v := V.int 1000000000000000000000000000000) rfl c_LAST_DAY ⟨_, rfl⟩) (pv 1))))))), ?_⟩
  walk_at "rd_6"
  refine ⟨.int n, "int", rfl, ⟨.base (.int n), by simp⟩, ?_⟩
  walk_at "rd_6"
  refine iteT ?_
  walk_at "rd_6"
  refine rd_if (fun c => ?_) (fun c => absurd d0 c)
  walk_at "rd_6"
  rw [decide_eq_true (by omega)]
  exact q
def sp_check_day (K : PySem.W.Frag) : Sp := fun vs H Q _ => ∃ d : Int, vs = [.int d] ∧ 0 ≤ d ∧ d ≤ 10 ^ 30 ∧ Q .non H
theorem ar_check_day (K : PySem.W.Frag) : ∀ vs H Q E, sp_check_day K vs H Q E → vs.length = 1 := by
  intro vs H Q E h
  obtain ⟨d, rfl, _⟩ := h
  rfl
abbrev N_check_day : List Str := ["thing"]
theorem sc_check_day : FnScope N_check_day ["thing"] (defScope S_check_day) := ⟨rfl, rfl, rfl, by decide +kernel, rfl, by decide +kernel, by decide +kernel⟩
theorem ok_check_day {P : Program} {w : World} {K : PySem.W.Frag} {mg : Str → Option Value} {base : Heap} {f : Addr} {fd : FuncData} (F : Fun K "check_day" "check_day" S_check_day f fd) {f_is_day : Addr} {fd_is_day : FuncData} (C_is_day : Cal P w K mg base "is_day" 2 f_is_day fd_is_day ["thing"] (sp_is_day K)) :
    FnG P w K mg base CX0 3 f fd ["thing"] (sp_check_day K) := by
  refine Fun_okG F sc_check_day (ar_check_day K) (fun cdv A outer s H vs Q E hg hr h => ?_)
  obtain ⟨d, rfl, d0, d1, q⟩ := h
  refine ⟨_, (pss_one (ps_if (pt_not (pt_val (pe_c C_is_day hg (hr.mono (by decide)) rfl (pa_cons (pv 0) pa_nil)))) (pss_one ps_dead) pss_nil)), ?_⟩
  walk_at "rd_6"
  refine ⟨d, rfl, d0, d1, ?_⟩
  walk_at "rd_6"
  refine iteF ?_
  walk_at "rd_6"
  exact q
def sp_is_stretch (K : PySem.W.Frag) : Sp := fun vs H Q _ => ∃ (p : Addr) (d n : Int), vs = [.ref p] ∧ SqT K H p [.int d, .int n] ∧ 0 ≤ d ∧ 1 ≤ n ∧ d + n ≤ 10 ^ 30 ∧ Q (.bl true) H
theorem ar_is_stretch (K : PySem.W.Frag) : ∀ vs H Q E, sp_is_stretch K vs H Q E → vs.length = 1 := by
  intro vs H Q E h
  obtain ⟨p, d, n, rfl, _⟩ := h
  rfl
abbrev N_is_stretch : List Str := ["thing", "first", "many"]
theorem sc_is_stretch : FnScope N_is_stretch ["thing"] (defScope S_is_stretch) := ⟨rfl, rfl, rfl, by decide +kernel, rfl, by decide +kernel, by decide +kernel⟩
theorem ok_is_stretch {P : Program} {w : World} {K : PySem.W.Frag} {mg : Str → Option Value} {base : Heap} {f : Addr} {fd : FuncData} (F : Fun K "is_stretch" "is_stretch" S_is_stretch f fd) {f__is_many : Addr} {fd__is_many : FuncData} (C__is_many : Cal P w K mg base "_is_many" 2 f__is_many fd__is_many ["thing", "first"] (sp__is_many K)) {f_is_day : Addr} {fd_is_day : FuncData} (C_is_day : Cal P w K mg base "is_day" 2 f_is_day fd_is_day ["thing"] (sp_is_day K)) (m_len : mg "len" = none) (m_isinstance : mg "isinstance" = none) (m_tuple : mg "tuple" = none) :
    FnG P w K mg base CX0 3 f fd ["thing"] (sp_is_stretch K) := by
  refine Fun_okG F sc_is_stretch (ar_is_stretch K) (fun cdv A outer s H vs Q E hg hr h => ?_)
  obtain ⟨p, d, n, rfl, hp, d0, n1, dn, q⟩ := h
  refine ⟨_, (pss_cons (ps_if (pt_not (PW.pt (pw_and (pt_val (pe_callB (id := "isinstance") (isiK (K := K) rfl) (by rfl) m_isinstance (by decide +kernel) (pa_cons (pv 0) (pa_cons (pe_bltn (v := V.ty "tuple") (u := Value.type "tuple") (by rfl) m_tuple (by decide +kernel) rfl) pa_nil)))) (pw_and1 (pt_cmpR op_eq (pe_callB (id := "len") (lenK (K := K) rfl) (by rfl) m_len (by decide +kernel) (pa_cons (pv 0) pa_nil)) pe_int (nomark _)))))) (pss_one (ps_ret pe_bl)) pss_nil)
    (pss_cons (ps_asg (pv 0) (pg_tup rfl (pgs_cons (pg_name (i := 1) sc_is_stretch.nd rfl (Or.inl rfl)) (pgs_cons (pg_name (i := 2) sc_is_stretch.nd rfl (Or.inl rfl)) pgs_nil))))
    (pss_one (ps_ret (pe_and (pe_c C_is_day hg (hr.mono (by decide)) rfl (pa_cons (pv 1) pa_nil)) (pe_one (pe_c C__is_many hg (hr.mono (by decide)) rfl (pa_cons (pv 2) (pa_cons (pv 1) pa_nil))))))))), ?_⟩
  walk_at "rd_6"
  refine iteT ?_
  walk_at "rd_6"
  refine iteF ?_
  walk_at "rd_6"
  refine ⟨d, rfl, d0, by omega, ?_⟩
  walk_at "rd_6"
  refine iteT ?_
  walk_at "rd_6"
  exact ⟨n, d, rfl, n1, by omega, q⟩
def sp_check_stretch (K : PySem.W.Frag) : Sp := fun vs H Q _ => ∃ (p : Addr) (d n : Int), vs = [.ref p] ∧ SqT K H p [.int d, .int n] ∧ 0 ≤ d ∧ 1 ≤ n ∧ d + n ≤ 10 ^ 30 ∧ Q .non H
theorem ar_check_stretch (K : PySem.W.Frag) : ∀ vs H Q E, sp_check_stretch K vs H Q E → vs.length = 1 := by
  intro vs H Q E h
  obtain ⟨p, d, n, rfl, _⟩ := h
  rfl
abbrev N_check_stretch : List Str := ["thing"]
theorem sc_check_stretch : FnScope N_check_stretch ["thing"] (defScope S_check_stretch) := ⟨rfl, rfl, rfl, by decide +kernel, rfl, by decide +kernel, by decide +kernel⟩
theorem ok_check_stretch {P : Program} {w : World} {K : PySem.W.Frag} {mg : Str → Option Value} {base : Heap} {f : Addr} {fd : FuncData} (F : Fun K "check_stretch" "check_stretch" S_check_stretch f fd) {f_is_stretch : Addr} {fd_is_stretch : FuncData} (C_is_stretch : Cal P w K mg base "is_stretch" 3 f_is_stretch fd_is_stretch ["thing"] (sp_is_stretch K)) :
    FnG P w K mg base CX0 4 f fd ["thing"] (sp_check_stretch K) := by
  refine Fun_okG F sc_check_stretch (ar_check_stretch K) (fun cdv A outer s H vs Q E hg hr h => ?_)
  obtain ⟨p, d, n, rfl, hp, d0, n1, dn, q⟩ := h
  refine ⟨_, (pss_one (ps_if (pt_not (pt_val (pe_c C_is_stretch hg (hr.mono (by decide)) rfl (pa_cons (pv 0) pa_nil)))) (pss_one ps_dead) pss_nil)), ?_⟩
  walk_at "rd_6"
  refine ⟨p, d, n, rfl, hp, d0, n1, dn, ?_⟩
  walk_at "rd_6"
  refine iteF ?_
  walk_at "rd_6"
  exact q

def sp_rest_of (K : PySem.W.Frag) : Sp := fun vs H Q _ => ∃ (p : Addr) (x y : Int), vs = [.ref p] ∧ SqT K H p [.int x, .int y] ∧ 0 < y ∧ ∀ z J, H z = none → Same H J → J z = some (.tup [.int (x.fmod y), .int y]) → Q (.ref z) J
theorem ar_rest_of (K : PySem.W.Frag) : ∀ vs H Q E, sp_rest_of K vs H Q E → vs.length = 1 := by
  intro vs H Q E h
  obtain ⟨p, x, y, rfl, _⟩ := h
  rfl
abbrev N_rest_of : List Str := ["ratio"]
theorem sc_rest_of : FnScope N_rest_of ["ratio"] (defScope S_rest_of) := ⟨rfl, rfl, rfl, by decide +kernel, rfl, by decide +kernel, by decide +kernel⟩
theorem ok_rest_of {P : Program} {w : World} {K : PySem.W.Frag} {mg : Str → Option Value} {base : Heap} {f : Addr} {fd : FuncData} (F : Fun K "rest_of" "rest_of" S_rest_of f fd) :
    FnG P w K mg base CX0 1 f fd ["ratio"] (sp_rest_of K) := by
  refine Fun_okG F sc_rest_of (ar_rest_of K) (fun cdv A outer s H vs Q E hg hr h => ?_)
  obtain ⟨p, x, y, rfl, hp, y0, q⟩ := h
  refine ⟨_, (pss_one (ps_ret (pe_tup (pa_cons (pe_op op_modN (pe_ix (ixK (K := K) rfl) (pv 0) pe_int (fun _ _ => rfl)) (pe_ix (ixK (K := K) rfl) (pv 0) pe_int (fun _ _ => rfl))) (pa_cons (pe_ix (ixK (K := K) rfl) (pv 0) pe_int (fun _ _ => rfl)) pa_nil))))), ?_⟩
  walk_at "rd_6"
  rename_i z J nz s e
  exact q z J nz s e
def sp__total (K : PySem.W.Frag) : Sp := fun vs H Q _ => ∃ (l : Addr) (rs : List V) (us : List Int) (G : Nat), vs = [.ref l] ∧ H l = some (.lst rs) ∧ FrsAt K H G rs us ∧ 0 < G ∧ G < 2 ^ 500 ∧ rs.length ≤ 100 ∧ (∀ u ∈ us, Bd 1500 u) ∧
  ∀ z m n J, IsLow us.sum (G : Int) m n → Same H J → SqT K J z [.int m, .int n] → Q (.ref z) J
theorem ar__total (K : PySem.W.Frag) : ∀ vs H Q E, sp__total K vs H Q E → vs.length = 1 := by
  intro vs H Q E h
  obtain ⟨l, rs, us, G, rfl, _⟩ := h
  rfl
abbrev N__total : List Str := ["ratios", "total", "ratio"]
theorem sc__total : FnScope N__total ["ratios"] (defScope S__total) := ⟨rfl, rfl, rfl, by decide +kernel, rfl, by decide +kernel, by decide +kernel⟩
theorem ok__total {P : Program} {w : World} {K : PySem.W.Frag} {mg : Str → Option Value} {base : Heap} {f : Addr} {fd : FuncData} (F : Fun K "_total" "_total" S__total f fd) {f_plus : Addr} {fd_plus : FuncData} (C_plus : Cal P w K mg base "plus" 2 f_plus fd_plus ["one", "other"] (sp_plus K)) {z_ZERO : Addr} (c_ZERO : TupC K mg "ZERO" z_ZERO [V.int 0, V.int 1]) :
    FnG P w K mg base CX0 3 f fd ["ratios"] (sp__total K) := by
  refine Fun_okG F sc__total (ar__total K) (fun cdv A outer s H vs Q E hg hr h => ?_)
  obtain ⟨l, rs, us, G, rfl, hl, hf, g0, g1, lr, hu, q⟩ := h
  refine ⟨_, (pss_cons (ps_set (i := 1) sc__total.nd rfl (Or.inl rfl) (pe_glob (v := V.ref z_ZERO) (u := Value.ref z_ZERO) rfl c_ZERO.m rfl))
    (pss_cons (ps_for PassesOwn.never rfl (piL (K := K) rfl (pv 0)) (pg_name (i := 2) sc__total.nd rfl (Or.inl rfl)) (pss_one (ps_set (i := 1) sc__total.nd rfl (Or.inl rfl) (pe_c C_plus hg (hr.mono (by decide)) rfl (pa_cons (pv 1) (pa_cons (pv 2) pa_nil))))))
    (pss_one (ps_ret (pv 1))))), ?_⟩
  have ln := hf.len
  walk_at "rd_6"
  refine lp_lst (xs := rs) (fun i σ' M => ∃ (z : Addr) (m n : Int) (o2 : Option V), σ' = [some (.ref l), some (.ref z), o2] ∧ SqT K M z [.int m, .int n] ∧ IsLow (us.take i).sum (G : Int) m n ∧ Same H M)
    ⟨z_ZERO, 0, 1, none, rfl, c_ZERO.sq H, by rw [List.take_zero]; exact low_zero g0, fun _ _ e => e⟩
    (fun i σ M _ w => ?_) (fun i r σ M hr w => ?_) (fun σ M w => ?_)
  · obtain ⟨z, m, n, o2, rfl, hz, lz, sM⟩ := w
    exact SqL.of (sM _ _ hl)
  · obtain ⟨z, m, n, o2, rfl, hz, lz, sM⟩ := w
    obtain ⟨p, x, y, u, rfl, eu, hp, y0, e, bx, bu⟩ := hf.get hr
    have il : i < rs.length := (List.getElem?_eq_some_iff.mp hr).1
    have hp := sqt_same sM hp
    have bs : Bd (7 + 1500) (us.take i).sum := bd_sums (m := 7) (fun x hx => hu x (List.mem_of_mem_take hx)) (by rw [List.length_take]; omega)
    have bm : Bd 1507 m := bs.le lz.2.2.2.1
    have bn : Bd 500 n := Nat.lt_of_le_of_lt lz.2.2.2.2 g1
    walk_at "rd_6"
    refine ⟨z, p, m, n, x, y, rfl, hz, hp, lz.1, y0, bm.mono (by decide), bn.mono (by decide), bx.mono (by decide), bu.mono (by decide), fun m2 n2 z2 J2 low2 nz2 sJ2 ez2 => ?_⟩
    have d2 := sum_form lz.2.2.1 e lz.1 y0 low2.2.2.1
    walk_at "rd_6"
    refine ⟨z2, m2, n2, _, rfl, SqT.of ez2, ?_, Same.trans sM sJ2⟩
    have ec : (us.take (i + 1)).sum = (us.take i).sum + u := by rw [take_succ_sum]; simp [List.getD, eu]
    rw [ec]
    exact low_of low2.1 low2.2.1 d2 (by omega)
  · obtain ⟨z, m, n, o2, rfl, hz, lz, sM⟩ := w
    rw [ln, List.take_length] at lz
    walk_at "rd_6"
    exact q z m n M lz sM hz

def sp__given_before (K : PySem.W.Frag) : Sp := fun vs H Q _ => ∃ (v : V) (e : Ent) (d G : Nat), vs = [v, .int (d : Int)] ∧ EntAt H v e ∧ Fits G e.am ∧ 0 < G ∧ G < 2 ^ 500 ∧ d ≤ 10 ^ 30 ∧
  ∀ z m n J, IsLow (bE G e d) (G : Int) m n → Same H J → SqT K J z [.int m, .int n] → Q (.ref z) J
theorem ar__given_before (K : PySem.W.Frag) : ∀ vs H Q E, sp__given_before K vs H Q E → vs.length = 2 := by
  intro vs H Q E h
  obtain ⟨v, e, d, G, rfl, _⟩ := h
  rfl
abbrev N__given_before : List Str := ["entry", "day", "_", "first", "many", "amounts", "rounds", "rest", "times", "at", "often", "top", "under"]
theorem sc__given_before : FnScope N__given_before ["entry", "day"] (defScope S__given_before) := ⟨rfl, rfl, rfl, by decide +kernel, rfl, by decide +kernel, by decide +kernel⟩
theorem ok__given_before {P : Program} {w : World} {K : PySem.W.Frag} {mg : Str → Option Value} {base : Heap} {f : Addr} {fd : FuncData} (F : Fun K "_given_before" "_given_before" S__given_before f fd) {f__total : Addr} {fd__total : FuncData} (C__total : Cal P w K mg base "_total" 3 f__total fd__total ["ratios"] (sp__total K)) (m_zip : mg "zip" = none) (m_range : mg "range" = none) (m_len : mg "len" = none) (m_divmod : mg "divmod" = none) (m_min : mg "min" = none) (m_max : mg "max" = none) :
    FnG P w K mg base CX0 4 f fd ["entry", "day"] (sp__given_before K) := by
  refine Fun_okG F sc__given_before (ar__given_before K) (fun cdv A outer s H vs Q E hg hr h => ?_)
  obtain ⟨v, e, d, G, rfl, ⟨p, a, rs, rfl, hp, ha, am, ne, l4, fm, m1⟩, fit, g0, g1, dd, q⟩ := h
  refine ⟨_, (pss_cons (ps_asg (pv 0) (pg_tup rfl (pgs_cons (pg_name (i := 2) sc__given_before.nd rfl (Or.inl rfl)) (pgs_cons (pg_name (i := 3) sc__given_before.nd rfl (Or.inl rfl)) (pgs_cons (pg_name (i := 4) sc__given_before.nd rfl (Or.inl rfl)) (pgs_cons (pg_name (i := 5) sc__given_before.nd rfl (Or.inl rfl)) pgs_nil))))))
    (pss_cons (ps_asg (pe_callB (id := "divmod") cr_dm (by rfl) m_divmod (by decide +kernel) (pa_cons (pe_callB (id := "min") (call_min2 rfl) (by rfl) m_min (by decide +kernel) (pa_cons (pe_callB (id := "max") (call_max2 rfl) (by rfl) m_max (by decide +kernel) (pa_cons (pe_op op_sub (pv 1) (pv 3)) (pa_cons pe_int pa_nil))) (pa_cons (pv 4) pa_nil))) (pa_cons (pe_callB (id := "len") (lenK (K := K) rfl) (by rfl) m_len (by decide +kernel) (pa_cons (pv 5) pa_nil)) pa_nil))) (pg_tup rfl (pgs_cons (pg_name (i := 6) sc__given_before.nd rfl (Or.inr rfl)) (pgs_cons (pg_name (i := 7) sc__given_before.nd rfl (Or.inr rfl)) pgs_nil))))
    (pss_cons (ps_setLc (i := 8) (own := [("at", 9)]) rfl sc__given_before.nd rfl rfl (sw_true rfl rfl rfl (by decide +kernel)) (pi_range1 rfl m_range (pa_cons (pe_callB (id := "len") (lenK (K := K) rfl) (by rfl) m_len (by decide +kernel) (pa_cons (pv 5) pa_nil)) pa_nil)) (blkOk_by (own := [("at", 9)]) (N := N__given_before) (sc := defScope S__given_before) (by decide +kernel)) (fun _ _ _ _ _ => (pg_name (i := 9) sc__given_before.nd rfl (Or.inl rfl))) (fun _ _ _ _ _ => pts_nil) (fun _ _ _ _ _ => (pe_ifExp (pt_cmpR op_lt (pv 9) (pv 7) (nomark _)) (pe_op op_add (pv 6) pe_int) (pv 6))))
    (pss_one (ps_ret (pe_c C__total hg (hr.mono (by decide)) rfl (pa_cons (pe_lc (own := [("often", 10), ("top", 11), ("under", 12)]) (g := (gTup K 2 (gCons (gName 10) (gCons (gTup K 2 (gCons (gName 11) (gCons (gName 12) gNil))) gNil)))) rfl sc__given_before.nd (piZM (K := K) rfl (by rfl) m_zip (pa_cons (pv 8) (pa_cons (pv 5) pa_nil))) (blkOk_by (own := [("often", 10), ("top", 11), ("under", 12)]) (N := N__given_before) (sc := defScope S__given_before) (by decide +kernel)) (fun _ _ _ _ _ => (pgT rfl rfl (pgs_cons (pg_name (i := 10) sc__given_before.nd rfl (Or.inl rfl)) (pgs_cons (pgT rfl rfl (pgs_cons (pg_name (i := 11) sc__given_before.nd rfl (Or.inl rfl)) (pgs_cons (pg_name (i := 12) sc__given_before.nd rfl (Or.inl rfl)) pgs_nil))) pgs_nil)))) (fun _ _ _ _ _ => pts_nil) (fun _ _ _ _ _ => (pe_tup (pa_cons (pe_op op_ml (pv 11) (pv 10)) (pa_cons (pv 12) pa_nil))))) pa_nil))))))), ?_⟩
  have ln := am.len
  have L0 : 0 < e.am.length := List.length_pos_iff.mpr ne
  walk_at "rd_6"
  have eN : (if (e.many : Int) < (if (0 : Int) > (d : Int) - (e.first : Int) then (0 : Int) else (d : Int) - (e.first : Int)) then (e.many : Int) else (if (0 : Int) > (d : Int) - (e.first : Int) then (0 : Int) else (d : Int) - (e.first : Int))) = ((min (d - e.first) e.many : Nat) : Int) := by
    split <;> split <;> omega
  have eB : bE G e d = rnd (uts G e) (min (d - e.first) e.many) := rfl
  have N30 : min (d - e.first) e.many ≤ 10 ^ 30 := by omega
  rw [eN]
  rw [eB] at q
  generalize min (d - e.first) e.many = N at q N30 ⊢
  clear eN eB
  refine rd_dm (by omega) (by omega) fun p1 J1 n1 s1 e1 => ?_
  have ea : (N : Int) / (rs.length : Int) = ((N / rs.length : Nat) : Int) := by push_cast; rfl
  have eb : (N : Int) % (rs.length : Int) = ((N % rs.length : Nat) : Int) := by push_cast; rfl
  rw [ea, eb] at e1
  have q1 : N / rs.length ≤ 10 ^ 30 := Nat.le_trans (Nat.div_le_self _ _) N30
  have r1 : N % rs.length < rs.length := Nat.mod_lt _ (by omega)
  unfold rnd at q
  rw [uts_len, ← ln, ← dotF_times, ← dots_sum] at q
  generalize N / rs.length = q0 at e1 q1 q
  generalize N % rs.length = r0 at e1 r1 q
  clear ea eb
  walk_at "rd_6"
  rw [Int.toNat_natCast]
  intro D nD
  obtain ⟨ff, hff⟩ : ∃ ff : Nat → Int, ∀ i, ff i = if i < r0 then ((q0 : Nat) : Int) + 1 else (q0 : Int) := ⟨_, fun _ => rfl⟩
  rw [show (fun i : Nat => if i < r0 then ((q0 : Nat) : Int) + 1 else (q0 : Int)) = ff from funext fun i => (hff i).symm] at q
  have fi : ∀ i : Nat, Bd 110 (ff i) := fun i => by
    rw [hff]
    unfold Bd
    split <;> omega
  refine lc_mapR (fun i => V.int (ff i)) (by omega) nD (fun i hi l R r => ?_) ?_
  · rw [show ff i = if i < r0 then ((q0 : Nat) : Int) + 1 else (q0 : Int) from hff i] at r
    walk_at "rd_6"
    by_cases c : i < r0
    · rw [decide_eq_true (by omega)]
      rw [if_pos c] at r
      refine iteT ?_
      walk_at "rd_6"
      exact r
    · rw [decide_eq_false (by omega)]
      rw [if_neg c] at r
      refine iteF ?_
      walk_at "rd_6"
      exact r
  have s2 : Same J1 (upd J1 D (.lst ((List.range rs.length).map fun i => V.int (ff i)))) := same_new nD
  have eD : (upd J1 D (.lst ((List.range rs.length).map fun i => V.int (ff i)))) D = some (.lst ((List.range rs.length).map fun i => V.int (ff i))) := upd_same
  generalize upd J1 D (.lst ((List.range rs.length).map fun i => V.int (ff i))) = J2 at s2 eD ⊢
  have S2 := Same.trans s1 s2
  have ha2 := S2 _ _ ha
  have am2 := am.mono fun p xs h => S2 _ _ h
  clear s1 s2 e1 n1 nD q1 r1 hp ha
  walk_at "rd_6"
  refine rd_iZM ?_
  walk_at "rd_6"
  refine ⟨D, a, _, rs, rfl, ⟨SqL.of eD, SqT.of ha2⟩, fun D2 nD2 => ?_⟩
  have ul := uts_len G e
  refine lc_sig (τ := [some (.ref p), some (.int (d : Int)), some (.str "entry"), some (.int (e.first : Int)), some (.int (e.many : Int)), some (.ref a), some (.int (q0 : Int)), some (.int (r0 : Int)), some (.ref D), none, none, none, none]) rfl ?_
  refine lc_zipM (fun zs J => FrsAt K J G zs ((dots ff (uts G e)).take zs.length)) eD ha2 (by simp) (by simp; omega) nD2 (fun J k => by rw [List.length_nil, List.take_zero]; exact .nil) (fun zs J J' s h => h.mono fun p xs h => sqt_same s h) (fun i x y zs J T hx hy i5 lz k hD hP hT => ?_) fun zs J lz k hD hP => ?_
  · have lt : i < rs.length := (List.getElem?_eq_some_iff.mp hy).1
    have ex : x = .int (ff i) := by
      rw [List.getElem?_map, List.getElem?_range lt] at hx
      exact (Option.some.inj hx).symm
    subst ex
    obtain ⟨pr, tx, uy, rfl, er, hpr, y0, gg, bx, bu⟩ := am2.get hy
    have hpr := k _ _ (ne_of_none hpr nD2) hpr
    have bo := fi i
    walk_at "rd_6"
    refine ⟨rfl, ?_⟩
    walk_at "rd_6"
    rename_i z J4 nz s4 e4
    refine lcEnd_mk (s4 _ _ hD) lz i5 (k.trans (Kp.of s4)) fun J5 p5 e5 => ?_
    have eu : (uts G e)[i]? = some (unit G (tx, uy)) := by
      unfold uts
      rw [List.getElem?_map, er]
      rfl
    have ed := dots_get (f := ff) eu
    rw [List.length_append, List.length_singleton, lz, List.take_add_one, ed]
    rw [lz] at hP
    have fu := (fit (tx, uy) (List.mem_of_getElem? er)).2
    have ue : unit G (tx, uy) * uy = tx * (G : Int) := unit_eq fu
    refine (hP.mono fun p xs h => sqt_pu p5 (sqt_same s4 h)).snoc (SqT.of (p5.tup e4)) y0 ?_ ((bx.mul bo).mono (by decide)) (bu.mono (by decide))
    grind
  have lz : zs.length = rs.length := by simpa using lz
  rw [lz, ln, ← ul, ← dots_len ff (uts G e), List.take_length] at hP
  have s3 : Same J2 J := fun a o h => k a o (ne_of_none h nD2) h
  walk_at "rd_6"
  refine ⟨D2, zs, dots ff (uts G e), G, rfl, hD, hP, g0, g1, by omega, fun u hu => ?_, fun z m n J' low s' hz => q z m n J' low (Same.trans S2 (Same.trans s3 s')) hz⟩
  obtain ⟨i, hi, rfl⟩ := List.mem_map.mp hu
  have hi := List.mem_range.mp hi
  have eg : (uts G e)[i]? = some (uts G e)[i] := List.getElem?_eq_getElem hi
  have bu : Bd 520 ((uts G e).getD i 0) := by
    rw [show (uts G e).getD i 0 = (uts G e)[i] by simp [List.getD, eg]]
    obtain ⟨r, hr, er⟩ := List.mem_map.mp (List.getElem_mem hi)
    rw [show (uts G e)[i] = unit G r from er.symm]
    obtain ⟨h1, h2, h3, h4⟩ := am2.bds r hr
    exact unit_bd h1 h3 g1
  exact (bu.mul (fi i)).mono (by decide)

def sp_sum_before (K : PySem.W.Frag) : Sp := fun vs H Q _ => ∃ (l : Addr) (es : List Ent) (d G : Nat), vs = [.ref l, .int (d : Int)] ∧ Led H l es G ∧ d ≤ 10 ^ 30 ∧
  ∀ z m n J, IsLow (bS G es d) (G : Int) m n → Same H J → SqT K J z [.int m, .int n] → Q (.ref z) J
theorem ar_sum_before (K : PySem.W.Frag) : ∀ vs H Q E, sp_sum_before K vs H Q E → vs.length = 2 := by
  intro vs H Q E h
  obtain ⟨l, es, d, G, rfl, _⟩ := h
  rfl
abbrev N_sum_before : List Str := ["entries", "day", "entry"]
theorem sc_sum_before : FnScope N_sum_before ["entries", "day"] (defScope S_sum_before) := ⟨rfl, rfl, rfl, by decide +kernel, rfl, by decide +kernel, by decide +kernel⟩
theorem ok_sum_before {P : Program} {w : World} {K : PySem.W.Frag} {mg : Str → Option Value} {base : Heap} {f : Addr} {fd : FuncData} (F : Fun K "sum_before" "sum_before" S_sum_before f fd) {f__total : Addr} {fd__total : FuncData} (C__total : Cal P w K mg base "_total" 3 f__total fd__total ["ratios"] (sp__total K)) {f__given_before : Addr} {fd__given_before : FuncData} (C__given_before : Cal P w K mg base "_given_before" 4 f__given_before fd__given_before ["entry", "day"] (sp__given_before K)) {f_check_day : Addr} {fd_check_day : FuncData} (C_check_day : Cal P w K mg base "check_day" 3 f_check_day fd_check_day ["thing"] (sp_check_day K)) :
    FnG P w K mg base CX0 5 f fd ["entries", "day"] (sp_sum_before K) := by
  refine Fun_okG F sc_sum_before (ar_sum_before K) (fun cdv A outer s H vs Q E hg hr h => ?_)
  obtain ⟨l, es, d, G, rfl, ⟨ws, hl, t, fit, g0, g1, lw⟩, d30, q⟩ := h
  refine ⟨_, (pss_cons (ps_expr (pe_c C_check_day hg (hr.mono (by decide)) rfl (pa_cons (pv 1) pa_nil)))
    (pss_one (ps_ret (pe_c C__total hg (hr.mono (by decide)) rfl (pa_cons (pe_lc (own := [("entry", 2)]) rfl sc_sum_before.nd (piL (K := K) rfl (pv 0)) (blkOk_by (own := [("entry", 2)]) (N := N_sum_before) (sc := defScope S_sum_before) (by decide +kernel)) (fun _ _ _ _ _ => (pg_name (i := 2) sc_sum_before.nd rfl (Or.inl rfl))) (fun _ _ _ _ _ => pts_nil) (fun _ _ _ _ _ => (pe_c C__given_before hg (hr.mono (by decide)) rfl (pa_cons (pv 2) (pa_cons (pv 1) pa_nil))))) pa_nil))))), ?_⟩
  have ln := t.len
  have al := t.all
  walk_at "rd_6"
  refine ⟨d, rfl, by omega, by omega, ?_⟩
  walk_at "rd_6"
  intro D nD
  refine lc_growL (fun ys J => FrsAt K J G ys ((es.map fun e => bE G e d).take ys.length)) hl (by omega) nD (fun J k => by rw [List.length_nil, List.take_zero]; exact .nil) (fun i v ys J hx i5 ly k hD hP => ?_) fun ys J ly k hD hP => ?_
  · obtain ⟨e, ee, en⟩ := t.get hx
    have en := en.mono fun p xs h => k _ _ (ne_of_none h nD) h
    have ae := al e (List.mem_of_getElem? ee)
    walk_at "rd_6"
    refine ⟨rfl, ?_⟩
    walk_at "rd_6"
    refine ⟨v, e, d, G, rfl, en, fit e (List.mem_of_getElem? ee), g0, g1, d30, fun z m n J2 low s2 hz => ?_⟩
    have bb : Bd 640 (bE G e d) := bE_bd ae.2.1 (fun r hr => ⟨(ae.2.2.2.2 r hr).1, (ae.2.2.2.2 r hr).2.2.1⟩) g1 (by omega)
    have bn : Bd 500 n := Nat.lt_of_le_of_lt low.2.2.2.2 g1
    refine lcEnd_mk (s2 _ _ hD) ly i5 (k.trans (Kp.of s2)) fun J4 p4 e4 => ?_
    rw [List.length_append, List.length_singleton, ly, List.take_add_one, List.getElem?_map, ee]
    rw [ly] at hP
    exact (hP.mono fun p xs h => sqt_pu p4 (sqt_same s2 h)).snoc (sqt_pu p4 hz) low.1 low.2.2.1 (Bd.mono (m := 640) (bb.le low.2.2.2.1) (by decide)) (bn.mono (by decide))
  rw [ly, ln, ← List.length_map (f := fun e => bE G e d) (as := es), List.take_length] at hP
  have s1 : Same H J := fun a o h => k a o (ne_of_none h nD) h
  walk_at "rd_6"
  refine ⟨D, ys, _, G, rfl, hD, hP, g0, g1, by omega, fun u hu => ?_, fun z m n J' low s' hz => q z m n J' low (Same.trans s1 s') hz⟩
  obtain ⟨e, he, rfl⟩ := List.mem_map.mp hu
  have ae := al e he
  exact (bE_bd ae.2.1 (fun r hr => ⟨(ae.2.2.2.2 r hr).1, (ae.2.2.2.2 r hr).2.2.1⟩) g1 (by omega)).mono (by decide)
def sp_point (K : PySem.W.Frag) : Sp := fun vs H Q _ => ∃ (l : Addr) (es : List Ent) (d G : Nat), vs = [.ref l, .int (d : Int)] ∧ Led H l es G ∧ d ≤ 10 ^ 30 ∧
  ∀ z m n J, IsLow ((-bS G es d).fmod (G : Int)) (G : Int) m n → Same H J → H z = none → J z = some (.tup [.int m, .int n]) → Q (.ref z) J
theorem ar_point (K : PySem.W.Frag) : ∀ vs H Q E, sp_point K vs H Q E → vs.length = 2 := by
  intro vs H Q E h
  obtain ⟨l, es, d, G, rfl, _⟩ := h
  rfl
abbrev N_point : List Str := ["entries", "day"]
theorem sc_point : FnScope N_point ["entries", "day"] (defScope S_point) := ⟨rfl, rfl, rfl, by decide +kernel, rfl, by decide +kernel, by decide +kernel⟩
theorem ok_point {P : Program} {w : World} {K : PySem.W.Frag} {mg : Str → Option Value} {base : Heap} {f : Addr} {fd : FuncData} (F : Fun K "point" "point" S_point f fd) {f_rest_of : Addr} {fd_rest_of : FuncData} (C_rest_of : Cal P w K mg base "rest_of" 1 f_rest_of fd_rest_of ["ratio"] (sp_rest_of K)) {f_minus : Addr} {fd_minus : FuncData} (C_minus : Cal P w K mg base "minus" 2 f_minus fd_minus ["one", "other"] (sp_minus K)) {f_sum_before : Addr} {fd_sum_before : FuncData} (C_sum_before : Cal P w K mg base "sum_before" 5 f_sum_before fd_sum_before ["entries", "day"] (sp_sum_before K)) {z_ZERO : Addr} (c_ZERO : TupC K mg "ZERO" z_ZERO [V.int 0, V.int 1]) :
    FnG P w K mg base CX0 6 f fd ["entries", "day"] (sp_point K) := by
  refine Fun_okG F sc_point (ar_point K) (fun cdv A outer s H vs Q E hg hr h => ?_)
  obtain ⟨l, es, d, G, rfl, L, d30, q⟩ := h
  refine ⟨_, (pss_one (ps_ret (pe_c C_rest_of hg (hr.mono (by decide)) rfl (pa_cons (pe_c C_minus hg (hr.mono (by decide)) rfl (pa_cons (pe_glob (v := V.ref z_ZERO) (u := Value.ref z_ZERO) rfl c_ZERO.m rfl) (pa_cons (pe_c C_sum_before hg (hr.mono (by decide)) rfl (pa_cons (pv 0) (pa_cons (pv 1) pa_nil))) pa_nil))) pa_nil)))), ?_⟩
  have bb := L.bd d
  have g1 := L.lt
  have g0 := L.pos
  walk_at "rd_6"
  refine ⟨l, es, d, G, rfl, L, d30, fun z m n J low s hz => ?_⟩
  have bn : Bd 500 n := Nat.lt_of_le_of_lt low.2.2.2.2 g1
  have bm : Bd 650 m := bb.le low.2.2.2.1
  walk_at "rd_6"
  refine ⟨z_ZERO, z, 0, 1, m, n, rfl, c_ZERO.sq J, hz, by decide, low.1, Bd.lit (by decide +kernel), Bd.lit (by decide +kernel), bm.mono (by decide), bn.mono (by decide), fun m2 n2 z2 J2 low2 nz2 s2 e2 => ?_⟩
  have low3 := low_neg low low2 g0
  walk_at "rd_6"
  refine ⟨z2, m2, n2, rfl, SqT.of e2, low3.1, fun z3 J3 nz3 s3 e3 => ?_⟩
  exact q z3 _ _ J3 (low_mod low3 g0) (Same.trans s (Same.trans s2 s3)) (Same.free s (Same.free s2 nz3)) e3
def sp_exact (K : PySem.W.Frag) : Sp := fun vs H Q _ => ∃ (l p : Addr) (es : List Ent) (d n G : Nat), vs = [.ref l, .ref p] ∧ SqT K H p [.int (d : Int), .int (n : Int)] ∧ Led H l es G ∧ 1 ≤ n ∧ d + n ≤ 10 ^ 30 ∧
  ∀ z x y J, IsLow (bS G es (d + n) - bS G es d) (G : Int) x y → Same H J → H z = none → J z = some (.tup [.int x, .int y]) → Q (.ref z) J
theorem ar_exact (K : PySem.W.Frag) : ∀ vs H Q E, sp_exact K vs H Q E → vs.length = 2 := by
  intro vs H Q E h
  obtain ⟨l, p, es, d, n, G, rfl, _⟩ := h
  rfl
abbrev N_exact : List Str := ["entries", "stretch", "first", "many"]
theorem sc_exact : FnScope N_exact ["entries", "stretch"] (defScope S_exact) := ⟨rfl, rfl, rfl, by decide +kernel, rfl, by decide +kernel, by decide +kernel⟩
theorem ok_exact {P : Program} {w : World} {K : PySem.W.Frag} {mg : Str → Option Value} {base : Heap} {f : Addr} {fd : FuncData} (F : Fun K "exact" "exact" S_exact f fd) {f_minus : Addr} {fd_minus : FuncData} (C_minus : Cal P w K mg base "minus" 2 f_minus fd_minus ["one", "other"] (sp_minus K)) {f_sum_before : Addr} {fd_sum_before : FuncData} (C_sum_before : Cal P w K mg base "sum_before" 5 f_sum_before fd_sum_before ["entries", "day"] (sp_sum_before K)) {f_check_stretch : Addr} {fd_check_stretch : FuncData} (C_check_stretch : Cal P w K mg base "check_stretch" 4 f_check_stretch fd_check_stretch ["thing"] (sp_check_stretch K)) :
    FnG P w K mg base CX0 6 f fd ["entries", "stretch"] (sp_exact K) := by
  refine Fun_okG F sc_exact (ar_exact K) (fun cdv A outer s H vs Q E hg hr h => ?_)
  obtain ⟨l, p, es, d, n, G, rfl, hp, L, n1, dn, q⟩ := h
  refine ⟨_, (pss_cons (ps_expr (pe_c C_check_stretch hg (hr.mono (by decide)) rfl (pa_cons (pv 1) pa_nil)))
    (pss_cons (ps_asg (pv 1) (pg_tup rfl (pgs_cons (pg_name (i := 2) sc_exact.nd rfl (Or.inl rfl)) (pgs_cons (pg_name (i := 3) sc_exact.nd rfl (Or.inl rfl)) pgs_nil))))
    (pss_one (ps_ret (pe_c C_minus hg (hr.mono (by decide)) rfl (pa_cons (pe_c C_sum_before hg (hr.mono (by decide)) rfl (pa_cons (pv 0) (pa_cons (pe_op op_add (pv 2) (pv 3)) pa_nil))) (pa_cons (pe_c C_sum_before hg (hr.mono (by decide)) rfl (pa_cons (pv 0) (pa_cons (pv 2) pa_nil))) pa_nil))))))), ?_⟩
  have g1 := L.lt
  have g0 := L.pos
  walk_at "rd_6"
  refine ⟨p, d, n, rfl, hp, by omega, by omega, by omega, ?_⟩
  walk_at "rd_6"
  rw [show (d : Int) + (n : Int) = ((d + n : Nat) : Int) by omega]
  refine ⟨l, es, d + n, G, rfl, L, dn, fun z m k J low s hz => ?_⟩
  have bm : Bd 650 m := (L.bd (d + n)).le low.2.2.2.1
  have bk : Bd 500 k := Nat.lt_of_le_of_lt low.2.2.2.2 g1
  walk_at "rd_6"
  refine ⟨l, es, d, G, rfl, L.same s, by omega, fun z' m' k' J' low' s' hz' => ?_⟩
  have bm' : Bd 650 m' := (L.bd d).le low'.2.2.2.1
  have bk' : Bd 500 k' := Nat.lt_of_le_of_lt low'.2.2.2.2 g1
  walk_at "rd_6"
  refine ⟨z, z', m, k, m', k', rfl, sqt_same s' hz, hz', low.1, low'.1, bm.mono (by decide), bk.mono (by decide), bm'.mono (by decide), bk'.mono (by decide), fun m2 n2 z2 J2 low2 nz2 s2 e2 => ?_⟩
  have df := dif_form low'.2.2.1 low.2.2.1 low'.1 low.1 low2.2.2.1
  exact q z2 m2 n2 J2 (low_of low2.1 low2.2.1 df (by omega)) (Same.trans s (Same.trans s' s2)) (Same.free s (Same.free s' nz2)) e2

/-! ### items looked at -/
def sp_is_ratio (K : PySem.W.Frag) : Sp := fun vs H Q _ => ∃ (p : Addr) (x y : Int), vs = [.ref p] ∧ H p = some (.tup [.int x, .int y]) ∧ 0 < y ∧ Int.gcd x y = 1 ∧ Q (.bl true) H
theorem ar_is_ratio (K : PySem.W.Frag) : ∀ vs H Q E, sp_is_ratio K vs H Q E → vs.length = 1 := by
  intro vs H Q E h
  obtain ⟨v, b, _, rfl, _⟩ := h
  rfl
abbrev N_is_ratio : List Str := ["thing", "top", "under"]
theorem sc_is_ratio : FnScope N_is_ratio ["thing"] (defScope S_is_ratio) := ⟨rfl, rfl, rfl, by decide +kernel, rfl, by decide +kernel, by decide +kernel⟩
theorem ok_is_ratio {P : Program} {w : World} {K : PySem.W.Frag} {mg : Str → Option Value} {base : Heap} {f : Addr} {fd : FuncData} (F : Fun K "is_ratio" "is_ratio" S_is_ratio f fd) {f_is_int : Addr} {fd_is_int : FuncData} (C_is_int : Cal P w K mg base "is_int" 1 f_is_int fd_is_int ["thing"] (sp_is_int K)) (c_gcd : mg "gcd" = some (.builtin "math.gcd")) (m_len : mg "len" = none) (m_isinstance : mg "isinstance" = none) (m_tuple : mg "tuple" = none) :
    FnG P w K mg base CX0 2 f fd ["thing"] (sp_is_ratio K) := by
  refine Fun_okG F sc_is_ratio (ar_is_ratio K) (fun cdv A outer s H vs Q E hg hr h => ?_)
  obtain ⟨p, x, y, rfl, h, y0, g1, q⟩ := h
  refine ⟨_, (pss_cons (ps_if (pt_not (PW.pt (pw_and (pt_val (pe_callB (id := "isinstance") (isiK (K := K) rfl) (by rfl) m_isinstance (by decide +kernel) (pa_cons (pv 0) (pa_cons (pe_bltn (v := V.ty "tuple") (u := Value.type "tuple") (by rfl) m_tuple (by decide +kernel) rfl) pa_nil)))) (pw_and1 (pt_cmpR op_eq (pe_callB (id := "len") (lenK (K := K) rfl) (by rfl) m_len (by decide +kernel) (pa_cons (pv 0) pa_nil)) pe_int (nomark _)))))) (pss_one (ps_ret pe_bl)) pss_nil)
    (pss_cons (ps_asg (pv 0) (pg_tup rfl (pgs_cons (pg_name (i := 1) sc_is_ratio.nd rfl (Or.inl rfl)) (pgs_cons (pg_name (i := 2) sc_is_ratio.nd rfl (Or.inl rfl)) pgs_nil))))
    (pss_cons (ps_if (pt_not (PW.pt (pw_and (pt_val (pe_c C_is_int hg (hr.mono (by decide)) rfl (pa_cons (pv 1) pa_nil))) (pw_and1 (pt_val (pe_c C_is_int hg (hr.mono (by decide)) rfl (pa_cons (pv 2) pa_nil))))))) (pss_one (ps_ret pe_bl)) pss_nil)
    (pss_one (ps_ret (pe_and (pe_cmpR op_gt (pv 2) pe_int (nomark _)) (pe_one (pe_cmpR op_eq (pe_callBfun cr_gcd rfl c_gcd (pa_cons (pv 1) (pa_cons (pv 2) pa_nil))) pe_int (nomark _))))))))), ?_⟩
  walk_at "rd_6"
  refine iteT ?_
  walk_at "rd_6"
  refine iteF ?_
  walk_at "rd_6"
  refine ⟨.int x, "int", rfl, ⟨.base (.int x), by simp⟩, ?_⟩
  walk_at "rd_6"
  refine iteT ?_
  walk_at "rd_6"
  refine ⟨.int y, "int", rfl, ⟨.base (.int y), by simp⟩, ?_⟩
  walk_at "rd_6"
  refine iteF ?_
  walk_at "rd_6"
  refine rd_if (fun c => ?_) (fun c => absurd y0 c)
  walk_at "rd_6"
  have e : (decide (((Nat.gcd x.natAbs y.natAbs : Nat) : Int) = 1)) = true := decide_eq_true (by show ((Int.gcd x y : Nat) : Int) = 1; omega)
  rw [e]
  exact q
def sp_is_amount (K : PySem.W.Frag) : Sp := fun vs H Q _ => ∃ (p : Addr) (x y : Int), vs = [.ref p] ∧ H p = some (.tup [.int x, .int y]) ∧ 0 < y ∧ Int.gcd x y = 1 ∧ x.natAbs ≤ 1000000 ∧ y ≤ 1000000 ∧ Q (.bl true) H
theorem ar_is_amount (K : PySem.W.Frag) : ∀ vs H Q E, sp_is_amount K vs H Q E → vs.length = 1 := by
  intro vs H Q E h
  obtain ⟨v, b, _, rfl, _⟩ := h
  rfl
abbrev N_is_amount : List Str := ["thing"]
theorem sc_is_amount : FnScope N_is_amount ["thing"] (defScope S_is_amount) := ⟨rfl, rfl, rfl, by decide +kernel, rfl, by decide +kernel, by decide +kernel⟩
theorem ok_is_amount {P : Program} {w : World} {K : PySem.W.Frag} {mg : Str → Option Value} {base : Heap} {f : Addr} {fd : FuncData} (F : Fun K "is_amount" "is_amount" S_is_amount f fd) {f_is_ratio : Addr} {fd_is_ratio : FuncData} (C_is_ratio : Cal P w K mg base "is_ratio" 2 f_is_ratio fd_is_ratio ["thing"] (sp_is_ratio K)) {t_AMOUNT_BOUND : Nat} (c_AMOUNT_BOUND : mg "AMOUNT_BOUND" = some (.int 1000000 t_AMOUNT_BOUND)) :
    FnG P w K mg base CX0 3 f fd ["thing"] (sp_is_amount K) := by
  refine Fun_okG F sc_is_amount (ar_is_amount K) (fun cdv A outer s H vs Q E hg hr h => ?_)
  obtain ⟨p, x, y, rfl, h, y0, g1, bx, bu, q⟩ := h
  refine ⟨_, (pss_one (ps_ret (pe_and (pe_c C_is_ratio hg (hr.mono (by decide)) rfl (pa_cons (pv 0) pa_nil)) (pe_and (pe_chain op_le op_le (pe_un un_neg (pe_glob (v := V.int 1000000) rfl c_AMOUNT_BOUND ⟨_, rfl⟩)) (pe_ix (ixK (K := K) rfl) (pv 0) pe_int (fun _ _ => rfl)) (pe_glob (v := V.int 1000000) rfl c_AMOUNT_BOUND ⟨_, rfl⟩)) (pe_one (pe_cmpR op_le (pe_ix (ixK (K := K) rfl) (pv 0) pe_int (fun _ _ => rfl)) (pe_glob (v := V.int 1000000) rfl c_AMOUNT_BOUND ⟨_, rfl⟩) (nomark _))))))), ?_⟩
  walk_at "rd_6"
  refine ⟨p, x, y, rfl, h, y0, g1, ?_⟩
  walk_at "rd_6"
  refine iteT ?_
  walk_at "rd_6"
  refine rd_if (fun c => ?_) (fun c => absurd (by omega) c)
  walk_at "rd_6"
  refine rd_if (fun c2 => ?_) (fun c2 => absurd (by omega) c2)
  walk_at "rd_6"
  rw [decide_eq_true (by omega)]
  exact q
def sp__is_amounts (K : PySem.W.Frag) : Sp := fun vs H Q _ => ∃ (a : Addr) (rs : List V) (am : List (Int × Int)), vs = [.ref a] ∧ H a = some (.tup rs) ∧ AmsAt H rs am ∧ am ≠ [] ∧ am.length ≤ 4 ∧ (∀ r ∈ am, r.1.natAbs ≤ 1000000 ∧ r.2 ≤ 1000000) ∧ ∀ J, Same H J → Q (.bl true) J
theorem ar__is_amounts (K : PySem.W.Frag) : ∀ vs H Q E, sp__is_amounts K vs H Q E → vs.length = 1 := by
  intro vs H Q E h
  obtain ⟨v, b, _, rfl, _⟩ := h
  rfl
abbrev N__is_amounts : List Str := ["thing", "part"]
theorem sc__is_amounts : FnScope N__is_amounts ["thing"] (defScope S__is_amounts) := ⟨rfl, rfl, rfl, by decide +kernel, rfl, by decide +kernel, by decide +kernel⟩
theorem ok__is_amounts {P : Program} {w : World} {K : PySem.W.Frag} {mg : Str → Option Value} {base : Heap} {f : Addr} {fd : FuncData} (F : Fun K "_is_amounts" "_is_amounts" S__is_amounts f fd) {f_is_amount : Addr} {fd_is_amount : FuncData} (C_is_amount : Cal P w K mg base "is_amount" 3 f_is_amount fd_is_amount ["thing"] (sp_is_amount K)) {t_MOST_AMOUNTS : Nat} (c_MOST_AMOUNTS : mg "MOST_AMOUNTS" = some (.int 4 t_MOST_AMOUNTS)) (m_all : mg "all" = none) (m_len : mg "len" = none) (m_isinstance : mg "isinstance" = none) (m_tuple : mg "tuple" = none) :
    FnG P w K mg base CX0 4 f fd ["thing"] (sp__is_amounts K) := by
  refine Fun_okG F sc__is_amounts (ar__is_amounts K) (fun cdv A outer s H vs Q E hg hr h => ?_)
  obtain ⟨a, rs, am, rfl, h, A, ne, l4, ok, q⟩ := h
  refine ⟨_, (pss_cons (ps_if (pt_not (PW.pt (pw_and (pt_val (pe_callB (id := "isinstance") (isiK (K := K) rfl) (by rfl) m_isinstance (by decide +kernel) (pa_cons (pv 0) (pa_cons (pe_bltn (v := V.ty "tuple") (u := Value.type "tuple") (by rfl) m_tuple (by decide +kernel) rfl) pa_nil)))) (pw_and1 (pt_chain op_le op_le pe_int (pe_callB (id := "len") (lenK (K := K) rfl) (by rfl) m_len (by decide +kernel) (pa_cons (pv 0) pa_nil)) (pe_glob (v := V.int 4) rfl c_MOST_AMOUNTS ⟨_, rfl⟩)))))) (pss_one (ps_ret pe_bl)) pss_nil)
    (pss_one (ps_ret (pe_callB (id := "all") (allK (K := K) rfl rfl) (by rfl) m_all (by decide +kernel) (pa_cons (pe_lc (own := [("part", 1)]) rfl sc__is_amounts.nd (piT (K := K) rfl (pv 0)) (blkOk_by (own := [("part", 1)]) (N := N__is_amounts) (sc := defScope S__is_amounts) (by decide +kernel)) (fun _ _ _ _ _ => (pg_name (i := 1) sc__is_amounts.nd rfl (Or.inl rfl))) (fun _ _ _ _ _ => pts_nil) (fun _ _ _ _ _ => (pe_c C_is_amount hg (hr.mono (by decide)) rfl (pa_cons (pv 1) pa_nil)))) pa_nil))))), ?_⟩
  have ln := A.len
  have l1 : 1 ≤ rs.length := by
    have := List.length_pos_iff.mpr ne
    omega
  walk_at "rd_6"
  refine iteT ?_
  walk_at "rd_6"
  refine rd_if (fun c => ?_) (fun c => absurd (by omega) c)
  walk_at "rd_6"
  rw [decide_eq_true (by omega)]
  refine iteF ?_
  walk_at "rd_6"
  intro D nD
  refine lc_mapT (fun _ => V.bl true) h (by omega) nD (fun x hx l R r => ?_) ?_
  · obtain ⟨i, hi, e⟩ := List.mem_iff_getElem.mp hx
    obtain ⟨p, t, u, rfl, el, ep, y0, g1, _, _⟩ := A.get (i := i) (v := x) (by rw [List.getElem?_eq_getElem hi, e])
    have okr := ok _ (List.mem_of_getElem? el)
    walk_at "rd_6"
    refine ⟨p, t, u, rfl, ?_, y0, g1, okr.1, okr.2, ?_⟩
    · rw [upd_ne (ne_of_none ep nD)]
      exact ep
    exact r
  · walk_at "rd_6"
    refine rd_all (bs := List.replicate rs.length true) (SqL.of (by
      rw [upd_same]
      congr 2
      simp [List.map_const'])) ?_
    rw [show (List.replicate rs.length true).all id = true by simp]
    exact q _ (same_new nD)
def sp_wrong_part (K : PySem.W.Frag) : Sp := fun vs H Q _ => ∃ (v : V) (i : Itm), vs = [v] ∧ ItmAt H v i ∧ ∀ J, Same H J → Q .non J
theorem ar_wrong_part (K : PySem.W.Frag) : ∀ vs H Q E, sp_wrong_part K vs H Q E → vs.length = 1 := by
  intro vs H Q E h
  obtain ⟨v, b, rfl, _⟩ := h
  rfl
abbrev N_wrong_part : List Str := ["thing", "kind", "first", "many", "last", "right"]
theorem sc_wrong_part : FnScope N_wrong_part ["thing"] (defScope S_wrong_part) := ⟨rfl, rfl, rfl, by decide +kernel, rfl, by decide +kernel, by decide +kernel⟩
theorem ok_wrong_part {P : Program} {w : World} {K : PySem.W.Frag} {mg : Str → Option Value} {base : Heap} {f : Addr} {fd : FuncData} (F : Fun K "wrong_part" "wrong_part" S_wrong_part f fd) {f__is_amounts : Addr} {fd__is_amounts : FuncData} (C__is_amounts : Cal P w K mg base "_is_amounts" 4 f__is_amounts fd__is_amounts ["thing"] (sp__is_amounts K)) {f_is_int : Addr} {fd_is_int : FuncData} (C_is_int : Cal P w K mg base "is_int" 1 f_is_int fd_is_int ["thing"] (sp_is_int K)) {f__is_many : Addr} {fd__is_many : FuncData} (C__is_many : Cal P w K mg base "_is_many" 2 f__is_many fd__is_many ["thing", "first"] (sp__is_many K)) {f_is_day : Addr} {fd_is_day : FuncData} (C_is_day : Cal P w K mg base "is_day" 2 f_is_day fd_is_day ["thing"] (sp_is_day K)) (m_len : mg "len" = none) (m_isinstance : mg "isinstance" = none) (m_tuple : mg "tuple" = none) :
    FnG P w K mg base CX0 5 f fd ["thing"] (sp_wrong_part K) := by
  refine Fun_okG F sc_wrong_part (ar_wrong_part K) (fun cdv A outer s H vs Q E hg hr h => ?_)
  obtain ⟨v, i, rfl, hi, q⟩ := h
  refine ⟨_, (pss_cons (ps_if (pt_not (PW.pt (pw_and (pt_val (pe_callB (id := "isinstance") (isiK (K := K) rfl) (by rfl) m_isinstance (by decide +kernel) (pa_cons (pv 0) (pa_cons (pe_bltn (v := V.ty "tuple") (u := Value.type "tuple") (by rfl) m_tuple (by decide +kernel) rfl) pa_nil)))) (pw_and1 (pt_cmpR op_eq (pe_callB (id := "len") (lenK (K := K) rfl) (by rfl) m_len (by decide +kernel) (pa_cons (pv 0) pa_nil)) pe_int (nomark _)))))) (pss_one (ps_ret pe_int)) pss_nil)
    (pss_cons (ps_asg (pv 0) (pg_tup rfl (pgs_cons (pg_name (i := 1) sc_wrong_part.nd rfl (Or.inl rfl)) (pgs_cons (pg_name (i := 2) sc_wrong_part.nd rfl (Or.inl rfl)) (pgs_cons (pg_name (i := 3) sc_wrong_part.nd rfl (Or.inl rfl)) (pgs_cons (pg_name (i := 4) sc_wrong_part.nd rfl (Or.inl rfl)) pgs_nil))))))
    (pss_cons (ps_if (pt_cmpR (niK (K := K) rfl) (pv 1) (pe_tup (pa_cons pe_str (pa_cons pe_str pa_nil))) rfl) (pss_one (ps_ret pe_int)) pss_nil)
    (pss_cons (ps_if (pt_not (pt_val (pe_c C_is_day hg (hr.mono (by decide)) rfl (pa_cons (pv 2) pa_nil)))) (pss_one (ps_ret pe_int)) pss_nil)
    (pss_cons (ps_if (pt_not (pt_val (pe_c C__is_many hg (hr.mono (by decide)) rfl (pa_cons (pv 3) (pa_cons (pv 2) pa_nil))))) (pss_one (ps_ret pe_int)) pss_nil)
    (pss_cons (ps_set (i := 5) sc_wrong_part.nd rfl (Or.inl rfl) (pe_ifExp (pt_cmpR op_eq (pv 1) pe_str (nomark _)) (pe_c C__is_amounts hg (hr.mono (by decide)) rfl (pa_cons (pv 4) pa_nil)) (pe_c C_is_int hg (hr.mono (by decide)) rfl (pa_cons (pv 4) pa_nil))))
    (pss_one (ps_ret (pe_ifExp (pt_val (pv 5)) pe_non pe_int))))))))), ?_⟩
  cases i with
  | en e =>
    obtain ⟨⟨p, a, rs, rfl, hp, ha, A, ne, l4, dn, m1⟩, ok⟩ := hi
    walk_at "rd_6"
    refine iteT ?_
    walk_at "rd_6"
    refine iteF ?_
    walk_at "rd_6"
    rename_i t J1 n1 s1 e1
    refine ⟨t, _, rfl, .inr (SqT.of e1), rfl, rfl, ?_⟩
    walk_at "rd_6"
    refine iteF ?_
    walk_at "rd_6"
    refine ⟨e.first, rfl, by omega, by omega, ?_⟩
    walk_at "rd_6"
    refine iteF ?_
    walk_at "rd_6"
    refine ⟨e.many, e.first, rfl, by omega, by omega, ?_⟩
    walk_at "rd_6"
    refine iteF ?_
    walk_at "rd_6"
    refine iteT ?_
    walk_at "rd_6"
    refine ⟨a, rs, e.am, rfl, s1 _ _ ha, A.mono fun p xs h => s1 _ _ h, ne, l4, ok, fun J2 s2 => ?_⟩
    walk_at "rd_6"
    refine iteT ?_
    walk_at "rd_6"
    exact q J2 (Same.trans s1 s2)
  | st s0 =>
    obtain ⟨⟨p, rfl, hp⟩, dn, m1⟩ := hi
    walk_at "rd_6"
    refine iteT ?_
    walk_at "rd_6"
    refine iteF ?_
    walk_at "rd_6"
    rename_i t J1 n1 s1 e1
    refine ⟨t, _, rfl, .inr (SqT.of e1), rfl, rfl, ?_⟩
    walk_at "rd_6"
    refine iteF ?_
    walk_at "rd_6"
    refine ⟨s0.first, rfl, by omega, by omega, ?_⟩
    walk_at "rd_6"
    refine iteF ?_
    walk_at "rd_6"
    refine ⟨s0.many, s0.first, rfl, by omega, by omega, ?_⟩
    walk_at "rd_6"
    refine iteF ?_
    walk_at "rd_6"
    refine rd_eqStr ?_
    rw [show decide (("statement" : Str) = "entry") = false from by decide +kernel]
    walk_at "rd_6"
    refine iteF ?_
    walk_at "rd_6"
    refine ⟨.int s0.num, "int", rfl, ⟨.base (.int _), by simp⟩, ?_⟩
    walk_at "rd_6"
    refine iteT ?_
    walk_at "rd_6"
    exact q J1 s1
def sp_check_item (K : PySem.W.Frag) : Sp := fun vs H Q _ => ∃ (v : V) (i : Itm), vs = [v] ∧ ItmAt H v i ∧ ∀ J, Same H J → Q .non J
theorem ar_check_item (K : PySem.W.Frag) : ∀ vs H Q E, sp_check_item K vs H Q E → vs.length = 1 := by
  intro vs H Q E h
  obtain ⟨v, b, rfl, _⟩ := h
  rfl
abbrev N_check_item : List Str := ["thing", "part"]
theorem sc_check_item : FnScope N_check_item ["thing"] (defScope S_check_item) := ⟨rfl, rfl, rfl, by decide +kernel, rfl, by decide +kernel, by decide +kernel⟩
theorem ok_check_item {P : Program} {w : World} {K : PySem.W.Frag} {mg : Str → Option Value} {base : Heap} {f : Addr} {fd : FuncData} (F : Fun K "check_item" "check_item" S_check_item f fd) {f_wrong_part : Addr} {fd_wrong_part : FuncData} (C_wrong_part : Cal P w K mg base "wrong_part" 5 f_wrong_part fd_wrong_part ["thing"] (sp_wrong_part K)) :
    FnG P w K mg base CX0 6 f fd ["thing"] (sp_check_item K) := by
  refine Fun_okG F sc_check_item (ar_check_item K) (fun cdv A outer s H vs Q E hg hr h => ?_)
  obtain ⟨v, i, rfl, hi, q⟩ := h
  refine ⟨_, (pss_cons (ps_set (i := 1) sc_check_item.nd rfl (Or.inl rfl) (pe_c C_wrong_part hg (hr.mono (by decide)) rfl (pa_cons (pv 0) pa_nil)))
    (pss_one (ps_if (pt_cmpR op_notN (pv 1) pe_non (nomark _)) (pss_one ps_dead) pss_nil))), ?_⟩
  walk_at "rd_6"
  refine ⟨v, i, rfl, hi, fun J s => ?_⟩
  walk_at "rd_6"
  refine ⟨rfl, ?_⟩
  walk_at "rd_6"
  refine iteF ?_
  walk_at "rd_6"
  exact q J s

/-! ### the ledger's methods -/
def sp_Ledger___init__ (K : PySem.W.Frag) : Sp := fun vs H Q _ => ∃ (p C dx : Addr), vs = [.ref p] ∧ PySem.W.nsIn K mainGlobals "Ledger" = some (some (.ref C)) ∧ H p = some (.ins C dx []) ∧ ∀ (d : Addr) (J : Hp), H d = none → LgAt K J p d [] 0 → (∀ b o, H b = some o → b ≠ p → J b = some o) → Q .non J
theorem ar_Ledger___init__ (K : PySem.W.Frag) : ∀ vs H Q E, sp_Ledger___init__ K vs H Q E → vs.length = 1 := by
  intro vs H Q E h
  obtain ⟨v, b, _, rfl, _⟩ := h
  rfl
abbrev N_Ledger___init__ : List Str := ["self"]
theorem sc_Ledger___init__ : FnScope N_Ledger___init__ ["self"] (defScope S_Ledger___init__) := ⟨rfl, rfl, rfl, by decide +kernel, rfl, by decide +kernel, by decide +kernel⟩
theorem ok_Ledger___init__ {P : Program} {w : World} {K : PySem.W.Frag} {mg : Str → Option Value} {base : Heap} {f : Addr} {fd : FuncData} (F : Fun K "__init__" "Ledger.__init__" S_Ledger___init__ f fd) {C_L : Addr} (T : LgC K mg C_L) :
    FnOk P w K mg base CX0 1 f fd ["self"] (sp_Ledger___init__ K) := by
  refine F.ok sc_Ledger___init__ (ar_Ledger___init__ K) (fun cdv A outer s H vs Q E hr h => ?_)
  obtain ⟨p, C', dx, rfl, hC, hp, q⟩ := h
  refine ⟨_, (pss_cons (ps_fld (pv 0) pe_dnewK rfl)
    (pss_one (ps_fld (pv 0) pe_int rfl))), ?_⟩
  obtain rfl : C' = C_L := by
    have := hC.symm.trans T.at_
    simp at this
    exact this
  intro d hd
  have npd : p ≠ d := ne_of_none hp hd
  refine ⟨_, rfl, p, C', dx, [], rfl, (by rw [upd_ne npd]; exact hp), T.cl, T.nI, (by show 0 < 1000; decide), _, rfl, p, C', dx, _, rfl, upd_same, T.cl, T.nN, (by show 1 < 1000; decide), ?_⟩
  rw [lgF_new]
  refine q d _ hd ⟨⟨C', dx, hC, upd_same⟩, ⟨[], ?_, .nil⟩, List.nodup_nil, (fun x hx => by cases hx), Nat.zero_le _⟩ fun b o e hb => ?_
  · rw [upd_ne npd.symm, upd_ne npd.symm, upd_same]
  · rw [upd_ne hb, upd_ne hb, upd_ne (ne_of_none e hd)]
    exact e
theorem rd_lock {t : TE} {σ : L2.St} {H : Hp} {Q : VK} {d : Addr} {u : HO} (h : H d = some u) (m : Mut (some u)) (q : ∀ od, t σ (upd H d (.frz od u)) fun v H' => H' d = some (.frz od u) ∧ Q v (upd H' d u)) : tLockE t σ H Q := ⟨d, u, h, m, q⟩
theorem rd_vals {td : TE} {σ : L2.St} {H : Hp} {R : It → Hp → Prop} (q : td σ H fun x H1 => ∃ d o kvs, x = .ref d ∧ H1 d = some (.frz o (.dK kvs)) ∧ R (Itd d o kvs) H1) : iVals td σ H R := q
theorem rd_fldI {K : PySem.W.Frag} {mg : Str → Option Value} {ta : TE} {σ : L2.St} {H : Hp} {Q : VK} {C p d dx : Addr} {nx : Nat} (T : LgC K mg C) (h : H p = some (.ins C dx (lgF d nx))) (e : ∀ R : VK, R (.ref p) H → ta σ H R) (q : Q (.ref d) H) : tFld K ta "_items" σ H Q :=
  e _ ⟨p, C, dx, _, _, rfl, h, T.cl, T.nI, lgF_items d nx, q⟩
def sp_Ledger__of_kind (K : PySem.W.Frag) : Sp := fun vs H Q _ => ∃ (p d : Addr) (its : List (Nat × Itm)) (nx : Nat) (kd : Str), vs = [.ref p, .str kd] ∧ LgAt K H p d its nx ∧ (kd = "entry" ∨ kd = "statement") ∧
  ∀ z J ws js, H z = none → Same H J → J z = some (.lst ws) → ItsAt J ws js → (kd = "entry" → js = (its.map (·.2)).filter isEn) → (kd = "statement" → js = (its.map (·.2)).filter fun i => !isEn i) → Q (.ref z) J
theorem ar_Ledger__of_kind (K : PySem.W.Frag) : ∀ vs H Q E, sp_Ledger__of_kind K vs H Q E → vs.length = 2 := by
  intro vs H Q E h
  obtain ⟨p, d, its, nx, kd, rfl, _⟩ := h
  rfl
abbrev N_Ledger__of_kind : List Str := ["self", "kind", "item"]
theorem sc_Ledger__of_kind : FnScope N_Ledger__of_kind ["self", "kind"] (defScope S_Ledger__of_kind) := ⟨rfl, rfl, rfl, by decide +kernel, rfl, by decide +kernel, by decide +kernel⟩
theorem ok_Ledger__of_kind {P : Program} {w : World} {K : PySem.W.Frag} {mg : Str → Option Value} {base : Heap} {f : Addr} {fd : FuncData} (F : Fun K "_of_kind" "Ledger._of_kind" S_Ledger__of_kind f fd) {C_L : Addr} (T : LgC K mg C_L) :
    FnG P w K mg base CX0 1 f fd ["self", "kind"] (sp_Ledger__of_kind K) := by
  refine Fun_okG F sc_Ledger__of_kind (ar_Ledger__of_kind K) (fun cdv A outer s H vs Q E hg hr h => ?_)
  obtain ⟨p, d, its, nx, kd, rfl, L, hk, q⟩ := h
  refine ⟨_, (pss_one (ps_ret (pe_lock (pe_lc (own := [("item", 2)]) rfl sc_Ledger__of_kind.nd (pi_values (pe_fld (pv 0) rfl)) (blkOk_by (own := [("item", 2)]) (N := N_Ledger__of_kind) (sc := defScope S_Ledger__of_kind) (by decide +kernel)) (fun _ _ _ _ _ => (pg_name (i := 2) sc_Ledger__of_kind.nd rfl (Or.inl rfl))) (fun _ _ _ _ _ => (pts_one (pt_cmpR op_eq (pe_ix (ixK (K := K) rfl) (pv 2) pe_int (fun _ _ => rfl)) (pv 1) (nomark _)))) (fun _ _ _ _ _ => (pv 2)))))), ?_⟩
  obtain ⟨dx, hp⟩ := L.obC T
  obtain ⟨kvs, hd, hkv⟩ := L.dc
  have npd := L.ne
  have ll := hkv.len
  have l100 := L.len
  walk_at "rd_6"
  refine rd_lock hd trivial fun od => ?_
  refine rd_lc ?_
  refine rd_vals ?_
  refine rd_fldI T (by rw [upd_ne npd]; exact hp) (fun R h => rd_var rfl h) ?_
  refine ⟨d, od, kvs, rfl, upd_same, fun D nD => ?_⟩
  have nDd : D ≠ d := fun z => by
    subst z
    rw [upd_same] at nD
    cases nD
  have nDH : H D = none := by rw [upd_ne nDd] at nD; exact nD
  have off : ∀ (l : List V) (a : Addr) (xs : List V), H a = some (.tup xs) → upd (upd H d (.frz od (.dK kvs))) D (.lst l) a = some (.tup xs) := fun l a xs e => by
    rw [upd_ne (ne_of_none e nDH), upd_ne (fun z => by subst z; cases e.symm.trans hd)]
    exact e
  have mem : ∀ kv, kv ∈ kvs → ∃ it, ItmAt H kv.2 it := fun kv hm => by
    obtain ⟨i, hi, e⟩ := List.mem_iff_getElem.mp hm
    obtain ⟨n, it, _, _, h⟩ := hkv.get (i := i) (k := kv.1) (v := kv.2) (by rw [List.getElem?_eq_getElem hi, e])
    exact ⟨it, h⟩
  refine lc_filtD (kdV H kd) upd_same (by omega) nD (fun kv hm l R r => ?_) (fun kv hm l R r => ?_) ?_
  · obtain ⟨it, hit⟩ := mem kv hm
    obtain ⟨pp, a, b, c, ev, ep⟩ := hit.tup
    have ep' := off l _ _ ep
    rw [kdV_at hit] at r
    rw [ev]
    walk_at "rd_6"
    refine rd_eqStr ?_
    walk_at "rd_6"
    exact r
  · walk_at "rd_6"
    exact r
  · refine ⟨by rw [upd_ne nDd.symm]; exact upd_same, ?_⟩
    have sm : Same H (upd (upd (upd H d (.frz od (.dK kvs))) D (.lst ((kvs.map (·.2)).filter (kdV H kd)))) d (.dK kvs)) := fun b o e => by
      by_cases c : b = d
      · subst c
        rw [upd_same, ← hd, e]
      · rw [upd_ne c, upd_ne (ne_of_none e nDH), upd_ne c]
        exact e
    rcases hk with rfl | rfl
    · refine q D _ _ _ nDH sm (by rw [upd_ne nDd, upd_same]) ((hkv.filt (r := isEn) fun v i h => kdV_en h).mono fun p xs e => sm _ _ e) (fun _ => rfl) fun z => absurd z ent_ne_stm
    · refine q D _ _ _ nDH sm (by rw [upd_ne nDd, upd_same]) ((hkv.filt (r := fun i => !isEn i) fun v i h => kdV_st h).mono fun p xs e => sm _ _ e) (fun z => absurd z.symm ent_ne_stm) fun _ => rfl
def sp_Ledger_entries (K : PySem.W.Frag) : Sp := fun vs H Q _ => ∃ (p d : Addr) (its : List (Nat × Itm)) (nx : Nat), vs = [.ref p] ∧ LgAt K H p d its nx ∧
  ∀ z J ws, H z = none → Same H J → J z = some (.lst ws) → EntsAt J ws (entsOf (its.map (·.2))) → Q (.ref z) J
theorem ar_Ledger_entries (K : PySem.W.Frag) : ∀ vs H Q E, sp_Ledger_entries K vs H Q E → vs.length = 1 := by
  intro vs H Q E h
  obtain ⟨p, d, its, nx, rfl, _⟩ := h
  rfl
abbrev N_Ledger_entries : List Str := ["self"]
theorem sc_Ledger_entries : FnScope N_Ledger_entries ["self"] (defScope S_Ledger_entries) := ⟨rfl, rfl, rfl, by decide +kernel, rfl, by decide +kernel, by decide +kernel⟩
theorem ok_Ledger_entries {P : Program} {w : World} {K : PySem.W.Frag} {mg : Str → Option Value} {base : Heap} {f : Addr} {fd : FuncData} (F : Fun K "entries" "Ledger.entries" S_Ledger_entries f fd) {C_L : Addr} (T : LgC K mg C_L) {f_Ledger__of_kind : Addr} {fd_Ledger__of_kind : FuncData} (C_Ledger__of_kind : CalM P w K mg base C_L "_of_kind" 1 f_Ledger__of_kind fd_Ledger__of_kind ["self", "kind"] (sp_Ledger__of_kind K)) :
    FnG P w K mg base CX0 2 f fd ["self"] (sp_Ledger_entries K) := by
  refine Fun_okG F sc_Ledger_entries (ar_Ledger_entries K) (fun cdv A outer s H vs Q E hg hr h => ?_)
  obtain ⟨p, d, its, nx, rfl, L, q⟩ := h
  refine ⟨_, (pss_one (ps_ret (pm_c T.cl C_Ledger__of_kind hg (hr.mono (by decide)) (pv 0) (pa_cons pe_str pa_nil)))), ?_⟩
  walk_at "rd_6"
  refine rd_meth T L (fun R h => rd_var rfl h) ?_
  walk_at "rd_6"
  refine ⟨p, d, its, nx, _, rfl, L, .inl rfl, fun z J ws js nz s ez h e _ => ?_⟩
  refine q z J ws nz s ez ?_
  rw [e rfl] at h
  have := h.ents fun i hi => (List.mem_filter.mp hi).2
  rwa [entsOf_filter] at this
def sp_Ledger_statements (K : PySem.W.Frag) : Sp := fun vs H Q _ => ∃ (p d : Addr) (its : List (Nat × Itm)) (nx : Nat), vs = [.ref p] ∧ LgAt K H p d its nx ∧
  ∀ z J ws, H z = none → Same H J → J z = some (.lst ws) → StmsAt J ws (stmsOf (its.map (·.2))) → Q (.ref z) J
theorem ar_Ledger_statements (K : PySem.W.Frag) : ∀ vs H Q E, sp_Ledger_statements K vs H Q E → vs.length = 1 := by
  intro vs H Q E h
  obtain ⟨p, d, its, nx, rfl, _⟩ := h
  rfl
abbrev N_Ledger_statements : List Str := ["self"]
theorem sc_Ledger_statements : FnScope N_Ledger_statements ["self"] (defScope S_Ledger_statements) := ⟨rfl, rfl, rfl, by decide +kernel, rfl, by decide +kernel, by decide +kernel⟩
theorem ok_Ledger_statements {P : Program} {w : World} {K : PySem.W.Frag} {mg : Str → Option Value} {base : Heap} {f : Addr} {fd : FuncData} (F : Fun K "statements" "Ledger.statements" S_Ledger_statements f fd) {C_L : Addr} (T : LgC K mg C_L) {f_Ledger__of_kind : Addr} {fd_Ledger__of_kind : FuncData} (C_Ledger__of_kind : CalM P w K mg base C_L "_of_kind" 1 f_Ledger__of_kind fd_Ledger__of_kind ["self", "kind"] (sp_Ledger__of_kind K)) :
    FnG P w K mg base CX0 2 f fd ["self"] (sp_Ledger_statements K) := by
  refine Fun_okG F sc_Ledger_statements (ar_Ledger_statements K) (fun cdv A outer s H vs Q E hg hr h => ?_)
  obtain ⟨p, d, its, nx, rfl, L, q⟩ := h
  refine ⟨_, (pss_one (ps_ret (pm_c T.cl C_Ledger__of_kind hg (hr.mono (by decide)) (pv 0) (pa_cons pe_str pa_nil)))), ?_⟩
  walk_at "rd_6"
  refine rd_meth T L (fun R h => rd_var rfl h) ?_
  walk_at "rd_6"
  refine ⟨p, d, its, nx, _, rfl, L, .inr rfl, fun z J ws js nz s ez h _ e => ?_⟩
  refine q z J ws nz s ez ?_
  rw [e rfl] at h
  have := h.stms fun i hi => by simpa using (List.mem_filter.mp hi).2
  rwa [stmsOf_filter] at this
def sp_Ledger_numbered (K : PySem.W.Frag) : Sp := fun vs H Q _ => ∃ (p d : Addr) (its : List (Nat × Itm)) (nx : Nat), vs = [.ref p] ∧ LgAt K H p d its nx ∧
  ∀ z J rs, H z = none → Same H J → J z = some (.lst rs) → NumsAt J rs its → Dp K J (.ref z) (.list (its.map numD)) → Q (.ref z) J
theorem ar_Ledger_numbered (K : PySem.W.Frag) : ∀ vs H Q E, sp_Ledger_numbered K vs H Q E → vs.length = 1 := by
  intro vs H Q E h
  obtain ⟨p, d, its, nx, rfl, _⟩ := h
  rfl
abbrev N_Ledger_numbered : List Str := ["self"]
theorem sc_Ledger_numbered : FnScope N_Ledger_numbered ["self"] (defScope S_Ledger_numbered) := ⟨rfl, rfl, rfl, by decide +kernel, rfl, by decide +kernel, by decide +kernel⟩
theorem ok_Ledger_numbered {P : Program} {w : World} {K : PySem.W.Frag} {mg : Str → Option Value} {base : Heap} {f : Addr} {fd : FuncData} (F : Fun K "numbered" "Ledger.numbered" S_Ledger_numbered f fd) {C_L : Addr} (T : LgC K mg C_L) (m_list : mg "list" = none) :
    FnG P w K mg base CX0 1 f fd ["self"] (sp_Ledger_numbered K) := by
  refine Fun_okG F sc_Ledger_numbered (ar_Ledger_numbered K) (fun cdv A outer s H vs Q E hg hr h => ?_)
  obtain ⟨p, d, its, nx, rfl, L, q⟩ := h
  refine ⟨_, (pss_one (ps_ret (LiI.pe_listItems rfl (pe_fld (pv 0) rfl) (by rfl) m_list (by decide +kernel)))), ?_⟩
  obtain ⟨kvs, hd, hkv⟩ := L.dc
  walk_at "rd_6"
  exact rd_itemsN hd hkv (fun R h => rd_items T L (fun R h => rd_var rfl h) h) fun z J rs nz s e nn dp => q z J rs nz s e nn dp

def sp_Ledger_add (K : PySem.W.Frag) : Sp := fun vs H Q _ => ∃ (p d : Addr) (its : List (Nat × Itm)) (nx : Nat) (v : V) (i : Itm), vs = [.ref p, v] ∧ LgAt K H p d its nx ∧ ItmAt H v i ∧ (isEn i = true → (entsOf (its.map (·.2))).length ≤ 5) ∧ (isEn i = false → (stmsOf (its.map (·.2))).length ≤ 23) ∧ its.length ≤ 90 ∧
  ∀ J, LgAt K J p d (its ++ [(nx, i)]) (nx + 1) → Lk p d H J → Q (.int (nx : Int)) J
theorem ar_Ledger_add (K : PySem.W.Frag) : ∀ vs H Q E, sp_Ledger_add K vs H Q E → vs.length = 2 := by
  intro vs H Q E h
  obtain ⟨p, d, its, nx, v, i, rfl, _⟩ := h
  rfl
theorem its_len : ∀ is : List Itm, is.length = (entsOf is).length + (stmsOf is).length
  | [] => rfl
  | .en e :: r => by
    have := its_len r
    simp only [entsOf, stmsOf, List.length_cons]
    omega
  | .st e :: r => by
    have := its_len r
    simp only [entsOf, stmsOf, List.length_cons]
    omega
abbrev N_Ledger_add : List Str := ["self", "item", "kind", "most", "number"]
theorem sc_Ledger_add : FnScope N_Ledger_add ["self", "item"] (defScope S_Ledger_add) := ⟨rfl, rfl, rfl, by decide +kernel, rfl, by decide +kernel, by decide +kernel⟩
theorem ok_Ledger_add {P : Program} {w : World} {K : PySem.W.Frag} {mg : Str → Option Value} {base : Heap} {f : Addr} {fd : FuncData} (F : Fun K "add" "Ledger.add" S_Ledger_add f fd) {f_check_item : Addr} {fd_check_item : FuncData} (C_check_item : Cal P w K mg base "check_item" 6 f_check_item fd_check_item ["thing"] (sp_check_item K)) {C_L : Addr} (T : LgC K mg C_L) {f_Ledger__of_kind : Addr} {fd_Ledger__of_kind : FuncData} (C_Ledger__of_kind : CalM P w K mg base C_L "_of_kind" 1 f_Ledger__of_kind fd_Ledger__of_kind ["self", "kind"] (sp_Ledger__of_kind K)) (m_len : mg "len" = none) :
    FnG P w K mg base CX0 7 f fd ["self", "item"] (sp_Ledger_add K) := by
  refine Fun_okG F sc_Ledger_add (ar_Ledger_add K) (fun cdv A outer s H vs Q E hg hr h => ?_)
  obtain ⟨p, d, its, nx, v, i, rfl, L, hi, l5, l23, l90, q⟩ := h
  refine ⟨_, (pss_cons (ps_expr (pe_c C_check_item hg (hr.mono (by decide)) rfl (pa_cons (pv 1) pa_nil)))
    (pss_cons (ps_set (i := 2) sc_Ledger_add.nd rfl (Or.inl rfl) (pe_ix (ixK (K := K) rfl) (pv 1) pe_int (fun _ _ => rfl)))
    (pss_cons (ps_set (i := 3) sc_Ledger_add.nd rfl (Or.inl rfl) (pe_ifExp (pt_cmpR op_eq (pv 2) pe_str (nomark _)) (pe_con (pv 0) rfl) (pe_con (pv 0) rfl)))
    (pss_cons (ps_if (pt_cmpR op_ge (pe_callB (id := "len") (lenK (K := K) rfl) (by rfl) m_len (by decide +kernel) (pa_cons (pm_c T.cl C_Ledger__of_kind hg (hr.mono (by decide)) (pv 0) (pa_cons (pv 2) pa_nil)) pa_nil)) (pv 3) (nomark _)) (pss_one ps_dead) pss_nil)
    (pss_cons (ps_set (i := 4) sc_Ledger_add.nd rfl (Or.inl rfl) (pe_fld (pv 0) rfl))
    (pss_cons (ps_dput (hu_of hr) (pe_fld (pv 0) rfl) (pv 4) (pv 1) rfl)
    (pss_cons (ps_fld (pv 0) (pe_op op_add (pv 4) pe_int) rfl)
    (pss_one (ps_ret (pv 4)))))))))), ?_⟩
  have hlen := its_len (its.map (·.2))
  rw [List.length_map] at hlen
  walk_at "rd_6"
  refine ⟨v, i, rfl, hi, fun J s => ?_⟩
  have hiJ := hi.mono fun p xs e => s _ _ e
  have LJ := L.same s
  obtain ⟨pp, a, b, c, rfl, ep⟩ := hiJ.tup
  -- most, then the number of items of this kind
  have key : ∀ (kd : Str) (most : Int) (σ : L2.St), (kd = "entry" ∧ most = 6 ∧ (entsOf (its.map (·.2))).length ≤ 5 ∨ kd = "statement" ∧ most = 24 ∧ (stmsOf (its.map (·.2))).length ≤ 23) → ∀ z J2 ws js, Same J J2 → J2 z = some (.lst ws) → ItsAt J2 ws js → (kd = "entry" → js = (its.map (·.2)).filter isEn) → (kd = "statement" → js = (its.map (·.2)).filter fun i => !isEn i) → ¬ ((ws.length : Int) ≥ most) := by
    intro kd most σ hk z J2 ws js _ _ h1 h2 h3 h4
    have l := h1.len
    rcases hk with ⟨rfl, rfl, hk⟩ | ⟨rfl, rfl, hk⟩
    · rw [h2 rfl, entsOf_len] at l
      omega
    · rw [h3 rfl, stmsOf_len] at l
      omega
  have fin : ∀ (J2 : Hp) , Same J J2 → ∀ (Q2 : Hp → Prop), (∀ J3, LgAt K J3 p d (its ++ [(nx, i)]) (nx + 1) → Lk p d J2 J3 → Q2 J3) → ∃ dx kvs, J2 p = some (.ins C_L dx (lgF d nx)) ∧ J2 d = some (.dK kvs) ∧ kvs.length < sizeLine ∧
      ∀ J3, J3 = upd (upd J2 d (.dK (putK kvs (Sum.inl (nx : Int)) (.ref pp)))) p (.ins C_L dx (putF "_next_number" (.int ((nx : Int) + 1)) (lgF d nx))) → Q2 J3 := by
    intro J2 s2 Q2 h
    have L2' := LJ.same s2
    obtain ⟨dx, h1⟩ := L2'.obC T
    obtain ⟨kvs, hd, hkv⟩ := L2'.dc
    have npd := L2'.ne
    have nv := hkv.fresh fun x hx => Nat.ne_of_lt (L2'.lt x hx)
    refine ⟨dx, kvs, h1, hd, small1000 (by rw [hkv.len]; omega), fun J3 e => ?_⟩
    subst e
    have lk : Lk p d J2 (upd (upd J2 d (.dK (putK kvs (Sum.inl (nx : Int)) (.ref pp)))) p (.ins C_L dx (putF "_next_number" (.int ((nx : Int) + 1)) (lgF d nx)))) := fun a o e n1 n2 => by rw [upd_ne n1, upd_ne n2]; exact e
    refine h _ ⟨⟨C_L, dx, T.at_, ?_⟩, ⟨_, by rw [upd_ne npd.symm, upd_same], ?_⟩, ?_, ?_, ?_⟩ lk
    · rw [upd_same, show ((nx : Int) + 1) = ((nx + 1 : Nat) : Int) by omega, lgF_put]
    · rw [putK_new _ nv]
      rw [putK_new _ nv] at lk
      exact (KvsAt.snoc (n := nx) (hiJ.mono fun p xs e => s2 _ _ e) hkv).mono fun a xs e => L2'.tup lk e
    · rw [List.map_append, List.nodup_append]
      refine ⟨L2'.nd, by simp, fun a ha b hb => ?_⟩
      obtain ⟨x, hx, rfl⟩ := List.mem_map.mp ha
      obtain rfl := List.mem_singleton.mp hb
      exact Nat.ne_of_lt (L2'.lt x hx)
    · intro x hx
      rcases List.mem_append.mp hx with hx | hx
      · exact Nat.lt_succ_of_lt (L2'.lt x hx)
      · obtain rfl := List.mem_singleton.mp hx
        exact Nat.lt_succ_self _
    · rw [List.length_append, List.length_singleton]
      omega
  cases i with
  | en e =>
    have ep : J pp = some (.tup [.str "entry", a, b, c]) := ep
    walk_at "rd_6"
    refine iteT ?_
    refine rd_mostE T LJ (fun R h => rd_var rfl h) ?_
    walk_at "rd_6"
    refine rd_meth T LJ (fun R h => rd_var rfl h) ?_
    walk_at "rd_6"
    refine ⟨p, d, its, nx, _, rfl, LJ, .inl rfl, fun z J2 ws js nz s2 ez h1 h2 h3 => ?_⟩
    have nk := key "entry" 6 [] (.inl ⟨rfl, rfl, l5 rfl⟩) z J2 ws js s2 ez h1 h2 h3
    obtain ⟨dx, kvs, hp2, hd2, hz2, nxt⟩ := fin J2 s2 (Q (.int (nx : Int))) fun J3 L3 k3 => q J3 L3 ((Lk.of (Same.trans s s2)).trans k3)
    have LJ2 := LJ.same s2
    walk_at "rd_6"
    rw [decide_eq_false (by omega)]
    refine iteF ?_
    walk_at "rd_6"
    refine rd_nextN T LJ2 (fun R h => rd_var rfl h) ?_
    walk_at "rd_6"
    refine ⟨_, rfl, rd_items T LJ2 (fun R h => rd_var rfl h) ⟨_, rfl, d, _, rfl, DPut.k (k := Sum.inl (nx : Int)) hd2 hz2, ?_⟩⟩
    walk_at "rd_6"
    refine ⟨_, rfl, ?_⟩
    walk_at "rd_6"
    refine ⟨p, C_L, dx, _, rfl, (by rw [upd_ne LJ2.ne]; exact hp2), T.cl, T.nN, (by show 2 < 1000; decide), ?_⟩
    walk_at "rd_6"
    exact nxt _ rfl
  | st s0 =>
    have ep : J pp = some (.tup [.str "statement", a, b, c]) := ep
    walk_at "rd_6"
    refine rd_eqStr ?_
    rw [show decide (("statement" : Str) = "entry") = false from by decide +kernel]
    walk_at "rd_6"
    refine iteF ?_
    refine rd_mostS T LJ (fun R h => rd_var rfl h) ?_
    walk_at "rd_6"
    refine rd_meth T LJ (fun R h => rd_var rfl h) ?_
    walk_at "rd_6"
    refine ⟨p, d, its, nx, _, rfl, LJ, .inr rfl, fun z J2 ws js nz s2 ez h1 h2 h3 => ?_⟩
    have nk := key "statement" 24 [] (.inr ⟨rfl, rfl, l23 rfl⟩) z J2 ws js s2 ez h1 h2 h3
    obtain ⟨dx, kvs, hp2, hd2, hz2, nxt⟩ := fin J2 s2 (Q (.int (nx : Int))) fun J3 L3 k3 => q J3 L3 ((Lk.of (Same.trans s s2)).trans k3)
    have LJ2 := LJ.same s2
    walk_at "rd_6"
    rw [decide_eq_false (by omega)]
    refine iteF ?_
    walk_at "rd_6"
    refine rd_nextN T LJ2 (fun R h => rd_var rfl h) ?_
    walk_at "rd_6"
    refine ⟨_, rfl, rd_items T LJ2 (fun R h => rd_var rfl h) ⟨_, rfl, d, _, rfl, DPut.k (k := Sum.inl (nx : Int)) hd2 hz2, ?_⟩⟩
    walk_at "rd_6"
    refine ⟨_, rfl, ?_⟩
    walk_at "rd_6"
    refine ⟨p, C_L, dx, _, rfl, (by rw [upd_ne LJ2.ne]; exact hp2), T.cl, T.nN, (by show 2 < 1000; decide), ?_⟩
    walk_at "rd_6"
    exact nxt _ rfl
/-! ### choices, _telling, allowed -/
/-- the choices of a stretch: a number and the units that tell it -/
def chD (G : Nat) (es : List Ent) (d n : Nat) : List (Int × (Nat → Bool)) :=
  if ptU G (bS G es d) = ptU G (bS G es (d + n)) then [((bS G es (d + n) - bS G es d).fdiv (G : Int), fun _ => true)]
  else [((bS G es (d + n) - bS G es d).fdiv (G : Int), arcF (ptU G (bS G es d)) (ptU G (bS G es (d + n)))), ((bS G es (d + n) - bS G es d).fdiv (G : Int) + 1, arcF (ptU G (bS G es (d + n))) (ptU G (bS G es d)))]
theorem low_fdiv {t x y : Int} {g : Nat} (h : IsLow t (g : Int) x y) (g0 : 0 < g) : x.fdiv y = t.fdiv (g : Int) := by
  obtain ⟨y0, _, e, _, _⟩ := h
  have G0 : (0 : Int) < (g : Int) := by omega
  rw [Int.fdiv_eq_ediv_of_nonneg _ (by omega), Int.fdiv_eq_ediv_of_nonneg _ (by omega)]
  have a1 := Int.emod_nonneg x (show y ≠ 0 by omega)
  have a2 := Int.emod_lt_of_pos x y0
  have a3 := Int.emod_add_mul_ediv x y
  refine ((Int.ediv_emod_unique G0 (r := t - (g : Int) * (x / y))).mpr ⟨by omega, ?_, ?_⟩).1.symm
  · refine Int.le_of_mul_le_mul_right (a := y) ?_ y0
    have : (t - (g : Int) * (x / y)) * y = (x % y) * (g : Int) := by grind
    rw [this, Int.zero_mul]
    exact Int.mul_nonneg a1 (by omega)
  · refine Int.lt_of_mul_lt_mul_right (a := y) ?_ (by omega)
    have : (t - (g : Int) * (x / y)) * y = (x % y) * (g : Int) := by grind
    rw [this, Int.mul_comm (g : Int) y]
    exact Int.mul_lt_mul_of_pos_right a2 G0
theorem chD_hit {G : Nat} {es : List Ent} {d n : Nat} (g0 : 0 < G) {i : Nat} {a : Int} {f : Nat → Bool} (e : (chD G es d n)[i]? = some (a, f)) {u : Nat} (hu : u < G) : f u = tellF G es d n a u := by
  unfold chD at e
  unfold tellF
  split at e
  · rename_i c
    match i, e with
    | 0, e =>
      obtain ⟨rfl, rfl⟩ := Prod.mk.inj (Option.some.inj e)
      rw [told_same g0 c hu, decide_eq_true rfl]
    | i + 1, e => simp at e
  · rename_i c
    obtain ⟨t, o⟩ := told_arcs g0 c hu
    rw [t]
    match i, e with
    | 0, e =>
      obtain ⟨rfl, rfl⟩ := Prod.mk.inj (Option.some.inj e)
      cases arcF (ptU G (bS G es d)) (ptU G (bS G es (d + n))) u
      · exact (decide_eq_false (by simp; omega)).symm
      · exact (decide_eq_true (by simp)).symm
    | 1, e =>
      obtain ⟨rfl, rfl⟩ := Prod.mk.inj (Option.some.inj e)
      rw [o]
      cases arcF (ptU G (bS G es d)) (ptU G (bS G es (d + n))) u
      · exact (decide_eq_true (by simp)).symm
      · exact (decide_eq_false (by simp; omega)).symm
    | i + 2, e => simp at e
theorem chD_no {G : Nat} {es : List Ent} {d n : Nat} (g0 : 0 < G) {num : Int} (no : ∀ r ∈ chD G es d n, r.1 ≠ num) {u : Nat} (hu : u < G) : tellF G es d n num u = false := by
  unfold tellF
  unfold chD at no
  refine decide_eq_false fun z => ?_
  split at no
  · rename_i c
    rw [told_same g0 c hu] at z
    exact no _ (List.mem_cons_self ..) z
  · rename_i c
    rw [(told_arcs g0 c hu).1] at z
    split at z
    · exact no _ (List.mem_cons_self ..) (by omega)
    · exact no _ (List.mem_cons_of_mem _ (List.mem_cons_self ..)) z
def ChAt (K : PySem.W.Frag) (H J : Hp) (G : Nat) (r : V) (c : Int × (Nat → Bool)) : Prop := ∃ t L rs ss, r = .ref t ∧ SqT K J t [.int c.1, .ref L] ∧ H L = none ∧ J L = some (.lst rs) ∧ SnsAt K J rs ss ∧ Frm G c.2 ss ∧ rs.length ≤ 2
inductive ChsAt (K : PySem.W.Frag) (H J : Hp) (G : Nat) : List V → List (Int × (Nat → Bool)) → Prop
  | nil : ChsAt K H J G [] []
  | cons {r : V} {rs : List V} {c : Int × (Nat → Bool)} {cs : List (Int × (Nat → Bool))} (h : ChAt K H J G r c) (t : ChsAt K H J G rs cs) : ChsAt K H J G (r :: rs) (c :: cs)
theorem ChsAt.len {K : PySem.W.Frag} {H J : Hp} {G : Nat} : ∀ {rs : List V} {cs : List (Int × (Nat → Bool))}, ChsAt K H J G rs cs → rs.length = cs.length
  | _, _, .nil => rfl
  | _, _, .cons _ t => congrArg (· + 1) t.len
theorem ChsAt.get {K : PySem.W.Frag} {H J : Hp} {G : Nat} : ∀ {rs : List V} {cs : List (Int × (Nat → Bool))}, ChsAt K H J G rs cs → ∀ {i : Nat} {r : V}, rs[i]? = some r → ∃ c, cs[i]? = some c ∧ ChAt K H J G r c
  | _, _, .nil, _, _, e => by cases e
  | _, _, .cons h _, 0, _, e => by
    obtain rfl := Option.some.inj e
    exact ⟨_, rfl, h⟩
  | _, _, .cons _ t, _ + 1, _, e => t.get e
def sp_choices (K : PySem.W.Frag) : Sp := fun vs H Q _ => ∃ (l p : Addr) (es : List Ent) (d n G : Nat), vs = [.ref l, .ref p] ∧ SqT K H p [.int (d : Int), .int (n : Int)] ∧ Led H l es G ∧ 1 ≤ n ∧ d + n ≤ 10 ^ 30 ∧
  ∀ z J rs, Same H J → H z = none → J z = some (.lst rs) → ChsAt K H J G rs (chD G es d n) → Q (.ref z) J
theorem ar_choices (K : PySem.W.Frag) : ∀ vs H Q E, sp_choices K vs H Q E → vs.length = 2 := by
  intro vs H Q E h
  obtain ⟨l, p, es, d, n, G, rfl, _⟩ := h
  rfl
abbrev N_choices : List Str := ["entries", "stretch", "first", "many", "lesser", "start", "end"]
theorem sc_choices : FnScope N_choices ["entries", "stretch"] (defScope S_choices) := ⟨rfl, rfl, rfl, by decide +kernel, rfl, by decide +kernel, by decide +kernel⟩
theorem ok_choices {P : Program} {w : World} {K : PySem.W.Frag} {mg : Str → Option Value} {base : Heap} {f : Addr} {fd : FuncData} (F : Fun K "choices" "choices" S_choices f fd) {f_arc : Addr} {fd_arc : FuncData} (C_arc : Cal P w K mg base "arc" 2 f_arc fd_arc ["low", "high"] (sp_arc K)) {f_point : Addr} {fd_point : FuncData} (C_point : Cal P w K mg base "point" 6 f_point fd_point ["entries", "day"] (sp_point K)) {f_floor_of : Addr} {fd_floor_of : FuncData} (C_floor_of : Cal P w K mg base "floor_of" 1 f_floor_of fd_floor_of ["ratio"] (sp_floor_of K)) {f_exact : Addr} {fd_exact : FuncData} (C_exact : Cal P w K mg base "exact" 6 f_exact fd_exact ["entries", "stretch"] (sp_exact K)) {z_ONE : Addr} (c_ONE : TupC K mg "ONE" z_ONE [V.int 1, V.int 1]) {z_ZERO : Addr} (c_ZERO : TupC K mg "ZERO" z_ZERO [V.int 0, V.int 1]) :
    FnG P w K mg base CX0 7 f fd ["entries", "stretch"] (sp_choices K) := by
  refine Fun_okG F sc_choices (ar_choices K) (fun cdv A outer s H vs Q E hg hr h => ?_)
  obtain ⟨l, p, es, d, n, G, rfl, hp, L, n1, dn, q⟩ := h
  refine ⟨_, (pss_cons (ps_asg (pv 1) (pg_tup rfl (pgs_cons (pg_name (i := 2) sc_choices.nd rfl (Or.inl rfl)) (pgs_cons (pg_name (i := 3) sc_choices.nd rfl (Or.inl rfl)) pgs_nil))))
    (pss_cons (ps_set (i := 4) sc_choices.nd rfl (Or.inl rfl) (pe_c C_floor_of hg (hr.mono (by decide)) rfl (pa_cons (pe_c C_exact hg (hr.mono (by decide)) rfl (pa_cons (pv 0) (pa_cons (pv 1) pa_nil))) pa_nil)))
    (pss_cons (ps_set (i := 5) sc_choices.nd rfl (Or.inl rfl) (pe_c C_point hg (hr.mono (by decide)) rfl (pa_cons (pv 0) (pa_cons (pv 2) pa_nil))))
    (pss_cons (ps_set (i := 6) sc_choices.nd rfl (Or.inl rfl) (pe_c C_point hg (hr.mono (by decide)) rfl (pa_cons (pv 0) (pa_cons (pe_op op_add (pv 2) (pv 3)) pa_nil))))
    (pss_cons (ps_if (pt_cmpR (eqK (K := K) rfl (room_u hr)) (pv 5) (pv 6) (nomark _)) (pss_one (ps_ret (pe_lst (pa_cons (pe_tup (pa_cons (pv 4) (pa_cons (pe_lst (pa_cons (pe_tup (pa_cons (pe_glob (v := V.ref z_ZERO) (u := Value.ref z_ZERO) rfl c_ZERO.m rfl) (pa_cons (pe_glob (v := V.ref z_ONE) (u := Value.ref z_ONE) rfl c_ONE.m rfl) pa_nil))) pa_nil)) pa_nil))) pa_nil)))) pss_nil)
    (pss_one (ps_ret (pe_lst (pa_cons (pe_tup (pa_cons (pv 4) (pa_cons (pe_c C_arc hg (hr.mono (by decide)) rfl (pa_cons (pv 5) (pa_cons (pv 6) pa_nil))) pa_nil))) (pa_cons (pe_tup (pa_cons (pe_op op_add (pv 4) pe_int) (pa_cons (pe_c C_arc hg (hr.mono (by decide)) rfl (pa_cons (pv 6) (pa_cons (pv 5) pa_nil))) pa_nil))) pa_nil)))))))))), ?_⟩
  have g1 := L.lt
  have g0 := L.pos
  walk_at "rd_6"
  refine ⟨l, p, es, d, n, G, rfl, hp, L, n1, dn, fun ze xe ye J low s nz hz => ?_⟩
  have bye : Bd 2000 ye := (show Bd 500 ye from Nat.lt_of_le_of_lt low.2.2.2.2 g1).mono (by decide)
  walk_at "rd_6"
  refine ⟨ze, xe, ye, rfl, hz, low.1, bye, ?_⟩
  have efl : xe.fdiv ye = (bS G es (d + n) - bS G es d).fdiv (G : Int) := low_fdiv low g0
  walk_at "rd_6"
  refine ⟨l, es, d, G, rfl, L.same s, by omega, fun za xa ya J2 lowa s2 nza hza => ?_⟩
  walk_at "rd_6"
  rw [show (d : Int) + (n : Int) = ((d + n : Nat) : Int) by omega]
  refine ⟨l, es, d + n, G, rfl, (L.same s).same s2, dn, fun zb xb yb J3 lowb s3 nzb hzb => ?_⟩
  rw [← (ptU_eq g0 (bS G es d)).1] at lowa
  rw [← (ptU_eq g0 (bS G es (d + n))).1] at lowb
  have pa := (ptU_eq g0 (bS G es d)).2
  have pb := (ptU_eq g0 (bS G es (d + n))).2
  have ra : Ra K J3 za xa ya := ⟨SqT.of (s3 _ _ hza), lowa.1, lowa.2.1, (show Bd 500 xa from Nat.lt_of_le_of_lt lowa.2.2.2.1 (Nat.lt_trans (show (ptU G _ : Int).natAbs < G from by rw [Int.natAbs_natCast]; exact pa) g1)).mono (by decide), (show Bd 500 ya from Nat.lt_of_le_of_lt lowa.2.2.2.2 g1).mono (by decide)⟩
  have rb : Ra K J3 zb xb yb := ⟨SqT.of hzb, lowb.1, lowb.2.1, (show Bd 500 xb from Nat.lt_of_le_of_lt lowb.2.2.2.1 (Nat.lt_trans (show (ptU G _ : Int).natAbs < G from by rw [Int.natAbs_natCast]; exact pb) g1)).mono (by decide), (show Bd 500 yb from Nat.lt_of_le_of_lt lowb.2.2.2.2 g1).mono (by decide)⟩
  have sa := ra.sq
  have sb := rb.sq
  walk_at "rd_6"
  refine rd_if (fun c => ?_) (fun c => ?_)
  · have eq : ptU G (bS G es d) = ptU G (bS G es (d + n)) := by
      obtain ⟨rfl, rfl⟩ := c
      exact low_inj lowa lowb
    walk_at "rd_6"
    rename_i p4 J4 m4 s4 e4 p5 J5 m5 s5 e5 p6 J6 m6 s6 e6 z J7 m7 s7 e7
    have h3 : Same H J3 := Same.trans s (Same.trans s2 s3)
    have h5 : Same H J5 := Same.trans h3 (Same.trans s4 s5)
    have h7 : Same J4 J7 := Same.trans s5 (Same.trans s6 s7)
    refine q z J7 _ (Same.trans h5 (Same.trans s6 s7)) (Same.free h5 (Same.free s6 m7)) e7 ?_
    rw [show chD G es d n = [((bS G es (d + n) - bS G es d).fdiv (G : Int), fun _ => true)] from if_pos eq]
    refine .cons ⟨p6, p5, [.ref p4], [⟨0, 1, 1, 1⟩], rfl, ?_, Same.free (Same.trans h3 s4) m5, s7 _ _ (s6 _ _ e5), ?_, frm_all g0, Nat.le_of_ble_eq_true rfl⟩ .nil
    · rw [← efl]
      exact SqT.of (s7 _ _ e6)
    · exact .cons ⟨p4, z_ZERO, z_ONE, rfl, SqT.of (h7 _ _ e4), ⟨c_ZERO.sq J7, by decide, by decide, zero_lit, one_lit⟩, ⟨c_ONE.sq J7, by decide, by decide, one_lit, one_lit⟩⟩ .nil
  · have ne : ptU G (bS G es d) ≠ ptU G (bS G es (d + n)) := fun z => c (by
      rw [z] at lowa
      exact low_same lowa lowb g0 rfl)
    walk_at "rd_6"
    refine ⟨za, zb, xa, ya, xb, yb, rfl, ra, rb, fun L1 M1 rs1 nL1 t1 eL1 sn1 ll1 => ?_⟩
    walk_at "rd_6"
    rename_i p5 J5 m5 s5 e5
    have t5 : Same J3 J5 := Same.trans t1 s5
    refine ⟨zb, za, xb, yb, xa, ya, rfl, rb.mono fun xs h => sqt_same t5 h, ra.mono fun xs h => sqt_same t5 h, fun L2 M2 rs2 nL2 t2 eL2 sn2 ll2 => ?_⟩
    walk_at "rd_6"
    rename_i p6 J6 m6 s6 e6 z J7 m7 s7 e7
    have h3 : Same H J3 := Same.trans s (Same.trans s2 s3)
    have h5 : Same H J5 := Same.trans h3 t5
    have h6 : Same H J6 := Same.trans h5 (Same.trans t2 s6)
    have h57 : Same J5 J7 := Same.trans t2 (Same.trans s6 s7)
    have h27 : Same M2 J7 := Same.trans s6 s7
    refine q z J7 _ (Same.trans h6 s7) (Same.free h6 m7) e7 ?_
    rw [show chD G es d n = _ from if_neg ne]
    refine .cons ⟨p5, L1, rs1, _, rfl, ?_, Same.free h3 nL1, h57 _ _ (s5 _ _ eL1), sn1.mono fun a xs h => sqt_same (Same.trans s5 h57) h, frm_arcF pa pb lowa lowb, ll1⟩ (.cons ⟨p6, L2, rs2, _, rfl, ?_, Same.free h5 nL2, h27 _ _ eL2, sn2.mono fun a xs h => sqt_same h27 h, frm_arcF pb pa lowb lowa, ll2⟩ .nil)
    · rw [← efl]
      exact SqT.of (h57 _ _ e5)
    · rw [← efl]
      exact SqT.of (s7 _ _ e6)
def sp__telling (K : PySem.W.Frag) : Sp := fun vs H Q _ => ∃ (l p : Addr) (es : List Ent) (d n G : Nat) (num : Int), vs = [.ref l, .ref p, .int num] ∧ SqT K H p [.int (d : Int), .int (n : Int)] ∧ Led H l es G ∧ 1 ≤ n ∧ d + n ≤ 10 ^ 30 ∧
  ∀ z J rs ss, Same H J → H z = none → J z = some (.lst rs) → SnsAt K J rs ss → Frm G (tellF G es d n num) ss → rs.length ≤ 2 → Q (.ref z) J
theorem ar__telling (K : PySem.W.Frag) : ∀ vs H Q E, sp__telling K vs H Q E → vs.length = 3 := by
  intro vs H Q E h
  obtain ⟨l, p, es, d, n, G, num, rfl, _⟩ := h
  rfl
abbrev N__telling : List Str := ["entries", "stretch", "number", "choice", "cuts"]
theorem sc__telling : FnScope N__telling ["entries", "stretch", "number"] (defScope S__telling) := ⟨rfl, rfl, rfl, by decide +kernel, rfl, by decide +kernel, by decide +kernel⟩
theorem ok__telling {P : Program} {w : World} {K : PySem.W.Frag} {mg : Str → Option Value} {base : Heap} {f : Addr} {fd : FuncData} (F : Fun K "_telling" "_telling" S__telling f fd) {f_choices : Addr} {fd_choices : FuncData} (C_choices : Cal P w K mg base "choices" 7 f_choices fd_choices ["entries", "stretch"] (sp_choices K)) :
    FnG P w K mg base CX0 8 f fd ["entries", "stretch", "number"] (sp__telling K) := by
  refine Fun_okG F sc__telling (ar__telling K) (fun cdv A outer s H vs Q E hg hr h => ?_)
  obtain ⟨l, p, es, d, n, G, num, rfl, hp, L, n1, dn, q⟩ := h
  refine ⟨_, (pss_cons (ps_for PassesOwn.never rfl (piL (K := K) rfl (pe_c C_choices hg (hr.mono (by decide)) rfl (pa_cons (pv 0) (pa_cons (pv 1) pa_nil)))) (pgT (K := K) rfl rfl (pgs_cons (pg_name (i := 3) sc__telling.nd rfl (Or.inl rfl)) (pgs_cons (pg_name (i := 4) sc__telling.nd rfl (Or.inl rfl)) pgs_nil))) (pss_one (ps_if (pt_cmpR op_eq (pv 3) (pv 2) (nomark _)) (pss_one (ps_ret (pv 4))) pss_nil)))
    (pss_one (ps_ret (pe_lst pa_nil)))), ?_⟩
  have g0 := L.pos
  walk_at "rd_6"
  refine ⟨l, p, es, d, n, G, rfl, hp, L, n1, dn, fun zc J rs s nz hz cs => ?_⟩
  have ln := cs.len
  walk_at "rd_6"
  refine lp_lst (xs := rs) (fun i σ' M => (∃ (o3 o4 : Option V), σ' = [some (.ref l), some (.ref p), some (.int num), o3, o4]) ∧ M = J ∧ ∀ j r, j < i → (chD G es d n)[j]? = some r → r.1 ≠ num)
    ⟨⟨none, none, rfl⟩, rfl, fun j r h => by omega⟩ (fun i σ M _ w => ?_) (fun i r σ M hr w => ?_) (fun σ M w => ?_)
  · obtain ⟨⟨o3, o4, rfl⟩, rfl, no⟩ := w
    exact SqL.of hz
  · obtain ⟨⟨o3, o4, rfl⟩, rfl, no⟩ := w
    obtain ⟨c, ec, t, Lc, rs', ss, rfl, ht, nL, hL, sn, fr, ll⟩ := cs.get hr
    walk_at "rd_6"
    refine rd_if (fun c2 => ?_) (fun c2 => ?_)
    · walk_at "rd_6"
      have c2 : c.1 = num := c2
      exact q Lc _ rs' ss s nL hL sn (fr.congr fun u hu => (chD_hit g0 ec hu).trans (by rw [c2])) ll
    · walk_at "rd_6"
      have c2 : c.1 ≠ num := c2
      refine ⟨⟨_, _, rfl⟩, rfl, fun j r h e => ?_⟩
      by_cases cj : j = i
      · subst cj
        rw [ec] at e
        obtain rfl := Option.some.inj e
        exact c2
      · exact no j r (by omega) e
  · obtain ⟨⟨o3, o4, rfl⟩, rfl, no⟩ := w
    walk_at "rd_6"
    rename_i z J2 nz2 s2 e2
    refine q z J2 [] [] (Same.trans s s2) (Same.free s nz2) e2 .nil ((frm_nil g0).congr fun u hu => (chD_no g0 (fun r hr => ?_) hu).symm) (by decide)
    obtain ⟨j, hj, ej⟩ := List.mem_iff_getElem.mp hr
    exact no j r (by omega) (by rw [List.getElem?_eq_getElem hj, ej])
def sp_allowed (K : PySem.W.Frag) : Sp := fun vs H Q _ => ∃ (l p : Addr) (es : List Ent) (w : V) (d n G : Nat) (num : Int), vs = [.ref l, .ref p] ∧ SqT K H p [w, .int (d : Int), .int (n : Int), .int num] ∧ Led H l es G ∧ 1 ≤ n ∧ d + n ≤ 10 ^ 30 ∧
  ∀ z J rs ss, Same H J → H z = none → J z = some (.lst rs) → SnsAt K J rs ss → Frm G (tellF G es d n num) ss → rs.length ≤ 2 → Q (.ref z) J
theorem ar_allowed (K : PySem.W.Frag) : ∀ vs H Q E, sp_allowed K vs H Q E → vs.length = 2 := by
  intro vs H Q E h
  obtain ⟨l, p, es, w, d, n, G, num, rfl, _⟩ := h
  rfl
abbrev N_allowed : List Str := ["entries", "statement", "_", "first", "many", "number"]
theorem sc_allowed : FnScope N_allowed ["entries", "statement"] (defScope S_allowed) := ⟨rfl, rfl, rfl, by decide +kernel, rfl, by decide +kernel, by decide +kernel⟩
theorem ok_allowed {P : Program} {w : World} {K : PySem.W.Frag} {mg : Str → Option Value} {base : Heap} {f : Addr} {fd : FuncData} (F : Fun K "allowed" "allowed" S_allowed f fd) {f__telling : Addr} {fd__telling : FuncData} (C__telling : Cal P w K mg base "_telling" 8 f__telling fd__telling ["entries", "stretch", "number"] (sp__telling K)) :
    FnG P w K mg base CX0 9 f fd ["entries", "statement"] (sp_allowed K) := by
  refine Fun_okG F sc_allowed (ar_allowed K) (fun cdv A outer s H vs Q E hg hr h => ?_)
  obtain ⟨l, p, es, w, d, n, G, num, rfl, hp, L, n1, dn, q⟩ := h
  refine ⟨_, (pss_cons (ps_asg (pv 1) (pg_tup rfl (pgs_cons (pg_name (i := 2) sc_allowed.nd rfl (Or.inl rfl)) (pgs_cons (pg_name (i := 3) sc_allowed.nd rfl (Or.inl rfl)) (pgs_cons (pg_name (i := 4) sc_allowed.nd rfl (Or.inl rfl)) (pgs_cons (pg_name (i := 5) sc_allowed.nd rfl (Or.inl rfl)) pgs_nil))))))
    (pss_one (ps_ret (pe_c C__telling hg (hr.mono (by decide)) rfl (pa_cons (pv 0) (pa_cons (pe_tup (pa_cons (pv 3) (pa_cons (pv 4) pa_nil))) (pa_cons (pv 5) pa_nil))))))), ?_⟩
  walk_at "rd_6"
  rename_i p2 J2 m2 s2 e2
  refine ⟨l, p2, es, d, n, G, num, rfl, SqT.of e2, L.same s2, n1, dn, fun z J rs ss s nz ez sn fr ll => ?_⟩
  exact q z J rs ss (Same.trans s2 s) (Same.free s2 nz) ez sn fr ll

theorem ten6 : (10 : Int) ^ Int.toNat 6 = 1000000 := by decide
def sp__law_amount (K : PySem.W.Frag) : Sp := fun vs H Q _ => ∃ (b : Addr), vs = [.ref b] ∧ Bag b H ∧ ∀ (p : Addr) (x y : Int) J, 0 < y → Int.gcd x y = 1 → Bd 20 x → Bd 20 y → (x.natAbs ≤ 1000000 ∧ y ≤ 1000000) → H p = none → J p = some (.tup [.int x, .int y]) → Kp b H J → Bag b J → Q (.ref p) J
theorem ar__law_amount (K : PySem.W.Frag) : ∀ vs H Q E, sp__law_amount K vs H Q E → vs.length = 1 := by
  intro vs H Q E h
  obtain ⟨b, rfl, _⟩ := h
  rfl
abbrev N__law_amount : List Str := ["_law_bag_here", "_law_under", "_law_tops", "_law_top"]
theorem sc__law_amount : FnScope N__law_amount ["_law_bag_here"] (defScope S__law_amount) := ⟨rfl, rfl, rfl, by decide +kernel, rfl, by decide +kernel, by decide +kernel⟩
theorem ok__law_amount {P : Program} {w : World} {K : PySem.W.Frag} {mg : Str → Option Value} {base : Heap} {f : Addr} {fd : FuncData} (F : Fun K "_law_amount" "_law_amount" S__law_amount f fd) {f__law_lowest : Addr} {fd__law_lowest : FuncData} (C__law_lowest : Cal P w K mg base "_law_lowest" 2 f__law_lowest fd__law_lowest ["_law_top", "_law_under"] (sp__law_lowest K)) {f__law_take : Addr} {fd__law_take : FuncData} (C__law_take : Cal P w K mg base "_law_take" 1 f__law_take fd__law_take ["_law_bag_here", "_law_size"] (sp__law_take K)) :
    FnG P w K mg base CX0 3 f fd ["_law_bag_here"] (sp__law_amount K) := by
  refine Fun_okG F sc__law_amount (ar__law_amount K) (fun cdv A outer s H vs Q E hg hr h => ?_)
  obtain ⟨b, rfl, hb, q⟩ := h
  refine ⟨_, (pss_cons (ps_set (i := 1) sc__law_amount.nd rfl (Or.inl rfl) (pe_ix (ixK (K := K) rfl) (pe_lst (pa_cons pe_int (pa_cons pe_int (pa_cons pe_int (pa_cons pe_int (pa_cons pe_int (pa_cons pe_int (pa_cons pe_int (pa_cons pe_int (pa_cons pe_int (pa_cons pe_int (pa_cons pe_int pa_nil)))))))))))) (pe_c C__law_take hg (hr.mono (by decide)) rfl (pa_cons (pv 0) (pa_cons pe_int pa_nil))) (fun _ _ => rfl)))
    (pss_cons (ps_set (i := 2) sc__law_amount.nd rfl (Or.inl rfl) (pe_lst (pa_cons (pe_c C__law_take hg (hr.mono (by decide)) rfl (pa_cons (pv 0) (pa_cons (pe_op op_add (pe_op op_ml pe_int (pv 1)) pe_int) pa_nil))) (pa_cons (pe_op op_sub (pe_c C__law_take hg (hr.mono (by decide)) rfl (pa_cons (pv 0) (pa_cons (pe_op op_add (pv 1) pe_int) pa_nil))) (pv 1)) (pa_cons pe_int (pa_cons (pe_op op_sub (pe_c C__law_take hg (hr.mono (by decide)) rfl (pa_cons (pv 0) (pa_cons pe_int pa_nil))) pe_int) pa_nil))))))
    (pss_cons (ps_set (i := 3) sc__law_amount.nd rfl (Or.inl rfl) (pe_ix (ixK (K := K) rfl) (pv 2) (pe_c C__law_take hg (hr.mono (by decide)) rfl (pa_cons (pv 0) (pa_cons pe_int pa_nil))) (fun _ _ => rfl)))
    (pss_one (ps_ret (pe_c C__law_lowest hg (hr.mono (by decide)) rfl (pa_cons (pv 3) (pa_cons (pv 1) pa_nil)))))))), ?_⟩
  walk_at "rd_6"
  rename_i p1 J1 n1 s1 e1
  have m1 : p1 ≠ b := hb.ne n1
  have g1 := hb.same s1
  refine ⟨b, 11, rfl, g1, by decide, by decide, fun r2 J2 r2a r2b k2 g2 => ?_⟩
  refine rd_pick (k2 _ _ m1 e1) r2a r2b fun v hv => ?_
  obtain ⟨u, rfl, u1, u2⟩ : ∃ u : Int, v = .int u ∧ 1 ≤ u ∧ u ≤ 12 := by
    simp only [List.mem_cons, List.not_mem_nil, or_false] at hv
    rcases hv with rfl | rfl | rfl | rfl | rfl | rfl | rfl | rfl | rfl | rfl | rfl
    all_goals exact ⟨_, rfl, by decide, by decide⟩
  have K2 : Kp b H J2 := (Kp.of s1).trans k2
  clear hv k2 s1 g1 e1 m1 n1
  walk_at "rd_6"
  refine ⟨b, 2 * u + 1, rfl, g2, by omega, by omega, fun r3 J3 r3a r3b k3 g3 => ?_⟩
  walk_at "rd_6"
  refine ⟨b, u + 1, rfl, g3, by omega, by omega, fun r4 J4 r4a r4b k4 g4 => ?_⟩
  walk_at "rd_6"
  refine ⟨b, 60, rfl, g4, by decide, by decide, fun r5 J5 r5a r5b k5 g5 => ?_⟩
  walk_at "rd_6"
  rename_i p6 J6 n6 s6 e6
  have m6 : p6 ≠ b := g5.ne n6
  have g6 := g5.same s6
  refine ⟨b, 4, rfl, g6, by decide, by decide, fun r7 J7 r7a r7b k7 g7 => ?_⟩
  have K7 : Kp b H J7 := K2.trans (k3.trans (k4.trans (k5.trans ((Kp.of s6).trans k7))))
  refine rd_pick (k7 _ _ m6 e6) r7a r7b fun v hv => ?_
  obtain ⟨t, rfl, t1⟩ : ∃ t : Int, v = .int t ∧ t.natAbs ≤ 1000 := by
    simp only [List.mem_cons, List.not_mem_nil, or_false] at hv
    rcases hv with rfl | rfl | rfl | rfl
    all_goals exact ⟨_, rfl, by omega⟩
  clear hv K2 k3 k4 k5 s6 k7 g2 g3 g4 g5 g6 e6 m6 n6
  walk_at "rd_6"
  refine ⟨t, u, rfl, by omega, Bd.mono (m := 20) (by unfold Bd; omega) (by decide), fun x y p J8 low np s8 e8 => ?_⟩
  exact q p x y J8 low.1 low.2.1 (by have := low.2.2.2.1; unfold Bd; omega) (by have := low.2.2.2.2; unfold Bd; omega) (by have := low.2.2.2.1; have := low.2.2.2.2; omega) (K7.free g7 np) e8 (K7.trans (Kp.of s8)) (g7.same s8)
def sp__law_entry (K : PySem.W.Frag) : Sp := fun vs H Q _ => ∃ (b : Addr) (last : Nat), vs = [.ref b, .int (last : Int)] ∧ Bag b H ∧ last ≤ 1000 ∧ ∀ (v : V) (e : Ent) J, EntAt J v e → AmOk e → e.first + e.many ≤ last + 1 → Kp b H J → Bag b J → Q v J
theorem ar__law_entry (K : PySem.W.Frag) : ∀ vs H Q E, sp__law_entry K vs H Q E → vs.length = 2 := by
  intro vs H Q E h
  obtain ⟨b, last, rfl, _⟩ := h
  rfl
abbrev N__law_entry : List Str := ["_law_bag_here", "_law_last", "_law_first", "_law_many", "_law_k"]
theorem sc__law_entry : FnScope N__law_entry ["_law_bag_here", "_law_last"] (defScope S__law_entry) := ⟨rfl, rfl, rfl, by decide +kernel, rfl, by decide +kernel, by decide +kernel⟩
theorem ok__law_entry {P : Program} {w : World} {K : PySem.W.Frag} {mg : Str → Option Value} {base : Heap} {f : Addr} {fd : FuncData} (F : Fun K "_law_entry" "_law_entry" S__law_entry f fd) {f__law_take : Addr} {fd__law_take : FuncData} (C__law_take : Cal P w K mg base "_law_take" 1 f__law_take fd__law_take ["_law_bag_here", "_law_size"] (sp__law_take K)) {f__law_amount : Addr} {fd__law_amount : FuncData} (C__law_amount : Cal P w K mg base "_law_amount" 3 f__law_amount fd__law_amount ["_law_bag_here"] (sp__law_amount K)) (m_tuple : mg "tuple" = none) (m_range : mg "range" = none) :
    FnG P w K mg base CX0 4 f fd ["_law_bag_here", "_law_last"] (sp__law_entry K) := by
  refine Fun_okG F sc__law_entry (ar__law_entry K) (fun cdv A outer s H vs Q E hg hr h => ?_)
  obtain ⟨b, last, rfl, hb, lb, q⟩ := h
  refine ⟨_, (pss_cons (ps_set (i := 2) sc__law_entry.nd rfl (Or.inl rfl) (pe_ix (ixK (K := K) rfl) (pe_lst (pa_cons pe_int (pa_cons (pe_c C__law_take hg (hr.mono (by decide)) rfl (pa_cons (pv 0) (pa_cons (pe_op op_add (pv 1) pe_int) pa_nil))) pa_nil))) (pe_c C__law_take hg (hr.mono (by decide)) rfl (pa_cons (pv 0) (pa_cons pe_int pa_nil))) (fun _ _ => rfl)))
    (pss_cons (ps_set (i := 3) sc__law_entry.nd rfl (Or.inl rfl) (pe_ix (ixK (K := K) rfl) (pe_lst (pa_cons (pe_op op_sub (pe_op op_add (pv 1) pe_int) (pv 2)) (pa_cons (pe_op op_add pe_int (pe_c C__law_take hg (hr.mono (by decide)) rfl (pa_cons (pv 0) (pa_cons (pe_op op_sub (pe_op op_add (pv 1) pe_int) (pv 2)) pa_nil)))) pa_nil))) (pe_c C__law_take hg (hr.mono (by decide)) rfl (pa_cons (pv 0) (pa_cons pe_int pa_nil))) (fun _ _ => rfl)))
    (pss_one (ps_ret (pe_tup (pa_cons pe_str (pa_cons (pv 2) (pa_cons (pv 3) (pa_cons (pe_callTy (T := "tuple") (tupK (K := K) rfl) (by rfl) m_tuple (by decide +kernel) (pa_cons (pe_lc (own := [("_law_k", 4)]) rfl sc__law_entry.nd (pi_range1 rfl m_range (pa_cons (pe_op op_add pe_int (pe_c C__law_take hg (hr.mono (by decide)) rfl (pa_cons (pv 0) (pa_cons pe_int pa_nil)))) pa_nil)) (blkOk_by (own := [("_law_k", 4)]) (N := N__law_entry) (sc := defScope S__law_entry) (by decide +kernel)) (fun _ _ _ _ _ => (pg_name (i := 4) sc__law_entry.nd rfl (Or.inl rfl))) (fun _ _ _ _ _ => pts_nil) (fun _ _ _ _ _ => (pe_c C__law_amount hg (hr.mono (by decide)) rfl (pa_cons (pv 0) pa_nil)))) pa_nil)) pa_nil))))))))), ?_⟩
  walk_at "rd_6"
  refine ⟨b, last + 1, rfl, hb, by omega, by omega, fun r1 J1 r1a r1b k1 g1 => ?_⟩
  walk_at "rd_6"
  rename_i p2 J2 n2 s2 e2
  have m2 : p2 ≠ b := g1.ne n2
  have g2 := g1.same s2
  refine ⟨b, 2, rfl, g2, by decide, by decide, fun r3 J3 r3a r3b k3 g3 => ?_⟩
  have K3 : Kp b H J3 := k1.trans ((Kp.of s2).trans k3)
  refine rd_pick (k3 _ _ m2 e2) r3a r3b fun v hv => ?_
  obtain ⟨first, rfl, f1⟩ : ∃ f : Nat, v = .int (f : Int) ∧ f ≤ last := by
    simp only [List.mem_cons, List.not_mem_nil, or_false] at hv
    rcases hv with rfl | rfl
    · exact ⟨0, rfl, by omega⟩
    · exact ⟨r1.toNat, by rw [Int.toNat_of_nonneg r1a], by omega⟩
  clear hv k1 s2 k3 g1 g2 e2 m2 n2
  walk_at "rd_6"
  refine ⟨b, last + 1 - first, rfl, g3, by omega, by omega, fun r4 J4 r4a r4b k4 g4 => ?_⟩
  walk_at "rd_6"
  rename_i p5 J5 n5 s5 e5
  have m5 : p5 ≠ b := g4.ne n5
  have g5 := g4.same s5
  refine ⟨b, 2, rfl, g5, by decide, by decide, fun r6 J6 r6a r6b k6 g6 => ?_⟩
  have K6 : Kp b H J6 := K3.trans (k4.trans ((Kp.of s5).trans k6))
  refine rd_pick (k6 _ _ m5 e5) r6a r6b fun v hv => ?_
  obtain ⟨many, rfl, m1, ml⟩ : ∃ f : Nat, v = .int (f : Int) ∧ 1 ≤ f ∧ first + f ≤ last + 1 := by
    simp only [List.mem_cons, List.not_mem_nil, or_false] at hv
    rcases hv with rfl | rfl
    · exact ⟨last + 1 - first, by congr 1; omega, by omega, by omega⟩
    · exact ⟨(1 + r4).toNat, by rw [Int.toNat_of_nonneg (by omega)], by omega, by omega⟩
  clear hv K3 k4 s5 k6 g3 g4 g5 e5 m5 n5
  walk_at "rd_6"
  refine ⟨b, 4, rfl, g6, by decide, by decide, fun r7 J7 r7a r7b k7 g7 => ?_⟩
  have K7 := K6.trans k7
  clear K6 k7 g6
  walk_at "rd_6"
  have hn : (1 + r7).toNat ≤ 4 ∧ 1 ≤ (1 + r7).toNat := by omega
  generalize (1 + r7).toNat = N at hn ⊢
  intro D nD
  have mD : D ≠ b := g7.ne nD
  refine lc_growB (fun i ys J => Kd b D J7 J ∧ Bag b J ∧ ∃ l, AmsAt J ys l ∧ ∀ r ∈ l, r.1.natAbs ≤ 1000000 ∧ r.2 ≤ 1000000) ⟨Kd.start _, g7.new nD, [], .nil, fun r hr => by cases hr⟩ (fun i ys J hi hy hD w => ?_) fun ys J8 hy hD w => ?_
  · obtain ⟨kd, gJ, l, hl, ao⟩ := w
    walk_at "rd_6"
    refine ⟨rfl, ?_⟩
    walk_at "rd_6"
    refine ⟨b, rfl, gJ, fun p x y J2 y0 gg bx bu xy np ep k2 g2 => ?_⟩
    refine lcEndB_mk (k2 _ _ mD hD) hy (by omega) fun J4 p4 e4 => ⟨(kd.kp k2).pu p4, p4.bag mD g2, l ++ [(x, y)], ?_, fun r hr => (List.mem_append.mp hr).elim (ao r) fun h => by
      obtain rfl := List.mem_singleton.mp h
      exact xy⟩
    exact (hl.mono fun p xs h => p4.tup (k2.tup gJ h)).snoc (p4.tup ep) y0 gg bx bu
  obtain ⟨kd, g8, l, hl, ao⟩ := w
  have K8 := K7.trans (kd.of nD)
  have ln := hl.len
  clear K7 g7 kd nD
  walk_at "rd_6"
  refine rd_tupL (SqL.of hD) fun t J9 nt s9 e9 => ?_
  walk_at "rd_6"
  rename_i p10 J10 n10 s10 e10
  have s8 := Same.trans s9 s10
  refine q _ ⟨first, many, l⟩ J10 ⟨p10, t, ys, rfl, e10, s10 _ _ e9, hl.mono fun p xs h => s8 _ _ h, ?_, ?_, ?_, m1⟩ ao ml (K8.trans (Kp.of s8)) (g8.same s8)
  · intro z
    rw [show l = [] from z, List.length_nil] at ln
    omega
  · show l.length ≤ 4
    omega
  · show first + many ≤ 10 ^ 30
    omega
def sp__law_entries (K : PySem.W.Frag) : Sp := fun vs H Q _ => ∃ (b : Addr) (last most : Nat), vs = [.ref b, .int (last : Int), .int (most : Int)] ∧ Bag b H ∧ last ≤ 1000 ∧ most ≤ 100 ∧ ∀ (l : Addr) (ws : List V) (es : List Ent) J, l ≠ b → H l = none → J l = some (.lst ws) → EntsAt J ws es → ws.length ≤ most → (∀ e ∈ es, AmOk e) → (∀ e ∈ es, e.first + e.many ≤ last + 1) → Kp b H J → Bag b J → Q (.ref l) J
theorem ar__law_entries (K : PySem.W.Frag) : ∀ vs H Q E, sp__law_entries K vs H Q E → vs.length = 3 := by
  intro vs H Q E h
  obtain ⟨b, last, most, rfl, _⟩ := h
  rfl
abbrev N__law_entries : List Str := ["_law_bag_here", "_law_last", "_law_most", "_law_k"]
theorem sc__law_entries : FnScope N__law_entries ["_law_bag_here", "_law_last", "_law_most"] (defScope S__law_entries) := ⟨rfl, rfl, rfl, by decide +kernel, rfl, by decide +kernel, by decide +kernel⟩
theorem ok__law_entries {P : Program} {w : World} {K : PySem.W.Frag} {mg : Str → Option Value} {base : Heap} {f : Addr} {fd : FuncData} (F : Fun K "_law_entries" "_law_entries" S__law_entries f fd) {f__law_take : Addr} {fd__law_take : FuncData} (C__law_take : Cal P w K mg base "_law_take" 1 f__law_take fd__law_take ["_law_bag_here", "_law_size"] (sp__law_take K)) {f__law_entry : Addr} {fd__law_entry : FuncData} (C__law_entry : Cal P w K mg base "_law_entry" 4 f__law_entry fd__law_entry ["_law_bag_here", "_law_last"] (sp__law_entry K)) (m_range : mg "range" = none) :
    FnG P w K mg base CX0 5 f fd ["_law_bag_here", "_law_last", "_law_most"] (sp__law_entries K) := by
  refine Fun_okG F sc__law_entries (ar__law_entries K) (fun cdv A outer s H vs Q E hg hr h => ?_)
  obtain ⟨b, last, most, rfl, hb, lb, mb, q⟩ := h
  refine ⟨_, (pss_one (ps_ret (pe_lc (own := [("_law_k", 3)]) rfl sc__law_entries.nd (pi_range1 rfl m_range (pa_cons (pe_c C__law_take hg (hr.mono (by decide)) rfl (pa_cons (pv 0) (pa_cons (pe_op op_add (pv 2) pe_int) pa_nil))) pa_nil)) (blkOk_by (own := [("_law_k", 3)]) (N := N__law_entries) (sc := defScope S__law_entries) (by decide +kernel)) (fun _ _ _ _ _ => (pg_name (i := 3) sc__law_entries.nd rfl (Or.inl rfl))) (fun _ _ _ _ _ => pts_nil) (fun _ _ _ _ _ => (pe_c C__law_entry hg (hr.mono (by decide)) rfl (pa_cons (pv 0) (pa_cons (pv 1) pa_nil))))))), ?_⟩
  walk_at "rd_6"
  refine ⟨b, most + 1, rfl, hb, by omega, by omega, fun r7 J7 r7a r7b k7 g7 => ?_⟩
  walk_at "rd_6"
  have hn : r7.toNat ≤ most := by omega
  generalize r7.toNat = N at hn ⊢
  intro D nD
  have mD : D ≠ b := g7.ne nD
  refine lc_growB (fun i ys J => Kd b D J7 J ∧ Bag b J ∧ ∃ es, EntsAt J ys es ∧ (∀ e ∈ es, AmOk e) ∧ ∀ e ∈ es, e.first + e.many ≤ last + 1) ⟨Kd.start _, g7.new nD, [], .nil, (fun e he => by cases he), fun e he => by cases he⟩ (fun i ys J hi hy hD w => ?_) fun ys J8 hy hD w => ?_
  · obtain ⟨kd, gJ, es, hl, ha, hf⟩ := w
    walk_at "rd_6"
    refine ⟨rfl, ?_⟩
    walk_at "rd_6"
    refine ⟨b, last, rfl, gJ, lb, fun v e J2 ev ea ef k2 g2 => ?_⟩
    refine lcEndB_mk (k2 _ _ mD hD) hy (by omega) fun J4 p4 e4 => ⟨(kd.kp k2).pu p4, p4.bag mD g2, es ++ [e], ?_, (fun x hx => (List.mem_append.mp hx).elim (ha x) fun h => by
      obtain rfl := List.mem_singleton.mp h
      exact ea), fun x hx => ?_⟩
    · exact (hl.mono fun p xs h => p4.tup (k2.tup gJ h)).snoc (ev.mono fun p xs h => p4.tup h)
    · rcases List.mem_append.mp hx with hx | hx
      · exact hf x hx
      · obtain rfl := List.mem_singleton.mp hx
        exact ef
  obtain ⟨kd, g8, es, hl, ha, hf⟩ := w
  exact q D ys es J8 mD (k7.free g7 nD) hD hl (by omega) ha hf (k7.trans (kd.of nD)) g8

def sp__law_grain (K : PySem.W.Frag) : Sp := fun vs H Q _ => ∃ (l : Addr) (ws : List V) (es : List Ent), vs = [.ref l] ∧ H l = some (.lst ws) ∧ EntsAt H ws es ∧ ws.length ≤ 10 ∧ ∀ G : Nat, 0 < G → G ≤ 2 ^ (80 * ws.length) → (∀ e ∈ es, Fits G e.am) → Q (.int (G : Int)) H
theorem ar__law_grain (K : PySem.W.Frag) : ∀ vs H Q E, sp__law_grain K vs H Q E → vs.length = 1 := by
  intro vs H Q E h
  obtain ⟨l, ws, es, rfl, _⟩ := h
  rfl
abbrev N__law_grain : List Str := ["_law_entries_here", "_law_grain_here", "_law_word", "_law_first", "_law_many", "_law_amounts", "_law_top", "_law_under"]
theorem sc__law_grain : FnScope N__law_grain ["_law_entries_here"] (defScope S__law_grain) := ⟨rfl, rfl, rfl, by decide +kernel, rfl, by decide +kernel, by decide +kernel⟩
theorem ok__law_grain {P : Program} {w : World} {K : PySem.W.Frag} {mg : Str → Option Value} {base : Heap} {f : Addr} {fd : FuncData} (F : Fun K "_law_grain" "_law_grain" S__law_grain f fd) {f__law_part : Addr} {fd__law_part : FuncData} (C__law_part : Cal P w K mg base "_law_part" 1 f__law_part fd__law_part ["_law_one", "_law_other"] (sp__law_part K)) :
    FnG P w K mg base CX0 2 f fd ["_law_entries_here"] (sp__law_grain K) := by
  refine Fun_okG F sc__law_grain (ar__law_grain K) (fun cdv A outer s H vs Q E hg hr h => ?_)
  obtain ⟨l, ws, es, rfl, hl, t, lw, q⟩ := h
  refine ⟨_, (pss_cons (ps_set (i := 1) sc__law_grain.nd rfl (Or.inl rfl) pe_int)
    (pss_cons (ps_for PassesOwn.never rfl (piL (K := K) rfl (pv 0)) (pgT (K := K) rfl rfl (pgs_cons (pg_name (i := 2) sc__law_grain.nd rfl (Or.inl rfl)) (pgs_cons (pg_name (i := 3) sc__law_grain.nd rfl (Or.inl rfl)) (pgs_cons (pg_name (i := 4) sc__law_grain.nd rfl (Or.inl rfl)) (pgs_cons (pg_name (i := 5) sc__law_grain.nd rfl (Or.inl rfl)) pgs_nil))))) (pss_one (ps_for PassesOwn.never rfl (piT (K := K) rfl (pv 5)) (pgT (K := K) rfl rfl (pgs_cons (pg_name (i := 6) sc__law_grain.nd rfl (Or.inl rfl)) (pgs_cons (pg_name (i := 7) sc__law_grain.nd rfl (Or.inl rfl)) pgs_nil))) (pss_one (ps_set (i := 1) sc__law_grain.nd rfl (Or.inl rfl) (pe_op op_dv (pe_op op_ml (pv 1) (pv 7)) (pe_c C__law_part hg (hr.mono (by decide)) rfl (pa_cons (pv 1) (pa_cons (pv 7) pa_nil)))))))))
    (pss_one (ps_ret (pv 1))))), ?_⟩
  have ln := t.len
  walk_at "rd_6"
  refine lp_lst (xs := ws) (fun i σ' M => ∃ (G : Nat) (o2 o3 o4 o5 o6 o7 : Option V), σ' = [some (.ref l), some (.int (G : Int)), o2, o3, o4, o5, o6, o7] ∧ M = H ∧ 0 < G ∧ G ≤ 2 ^ (80 * i) ∧ ∀ e ∈ es.take i, Fits G e.am)
    ⟨1, none, none, none, none, none, none, rfl, rfl, by decide, by decide, fun e he => by simp at he⟩ (fun i σ M _ w => ?_) (fun i r σ M hr w => ?_) (fun σ M w => ?_)
  · obtain ⟨G, o2, o3, o4, o5, o6, o7, rfl, rfl, _⟩ := w
    exact SqL.of hl
  · obtain ⟨G, o2, o3, o4, o5, o6, o7, rfl, rfl, g0, gb, gf⟩ := w
    obtain ⟨e, ee, p, a, rs, rfl, hp, ha, am, ne, l4, fm, m1⟩ := t.get hr
    have la := am.len
    have i10 : i < ws.length := (List.getElem?_eq_some_iff.mp hr).1
    walk_at "rd_6"
    refine rd_forT ?_
    walk_at "rd_6"
    refine lp_tup (xs := rs) (fun j σ' M' => ∃ (G' : Nat) (o6 o7 : Option V), σ' = [some (.ref l), some (.int (G' : Int)), some (.str "entry"), some (.int (e.first : Int)), some (.int (e.many : Int)), some (.ref a), o6, o7] ∧ M' = M ∧ 0 < G' ∧ G' ≤ 2 ^ (80 * i + 20 * j) ∧ G ∣ G' ∧ Fits G' (e.am.take j))
      ⟨G, o6, o7, rfl, rfl, g0, gb, Nat.dvd_refl _, fun x hx => by simp at hx⟩ (fun j σ M' _ w => ?_) (fun j v σ M' hv w => ?_) (fun σ M' w => ?_)
    · obtain ⟨G', o6, o7, rfl, rfl, _⟩ := w
      exact SqT.of ha
    · obtain ⟨G', o6, o7, rfl, rfl, g0', gb', gd, gf'⟩ := w
      obtain ⟨pr, x, y, rfl, er, hpr, y0, gg, bx, bu⟩ := am.get hv
      obtain ⟨U, rfl⟩ := Int.eq_ofNat_of_zero_le (show 0 ≤ y by omega)
      have jl : j < rs.length := (List.getElem?_eq_some_iff.mp hv).1
      have U20 : U ≤ 2 ^ 20 := by unfold Bd at bu; omega
      obtain ⟨lp, ll⟩ := lcm_le g0' gb' (by omega) U20
      have bG : Bd 900 (G' : Int) := by
        have h1 : (2 : Nat) ^ (80 * i + 20 * j) < 2 ^ 900 := Nat.pow_lt_pow_right (by decide) (by omega)
        unfold Bd
        omega
      have gp : ((Int.gcd (G' : Int) (U : Int) : Nat) : Int) ≠ 0 := by
        have : 0 < Int.gcd (G' : Int) (U : Int) := Int.gcd_pos_of_ne_zero_right _ (by omega)
        omega
      have bg : Bd 20 ((Int.gcd (G' : Int) (U : Int) : Nat) : Int) := by
        have : Int.gcd (G' : Int) (U : Int) ≤ (U : Int).natAbs := Int.gcd_le_natAbs_right _ (by omega)
        unfold Bd at bu ⊢
        omega
      walk_at "rd_6"
      refine ⟨_, _, rfl, ?_⟩
      walk_at "rd_6"
      refine rd_I (rd_dvB _ gp bg) ?_
      rw [lcm_at]
      walk_at "rd_6"
      refine ⟨Nat.lcm G' U, _, _, rfl, rfl, lp, by rw [show 80 * i + 20 * (j + 1) = 80 * i + 20 * j + 20 by omega]; exact ll, Nat.dvd_trans gd (Nat.dvd_lcm_left _ _), ?_⟩
      intro x hx
      rw [List.take_add_one, er] at hx
      rcases List.mem_append.mp hx with hx | hx
      · exact (gf'.up (Nat.dvd_lcm_left _ _)) x hx
      · simp at hx
        subst hx
        exact ⟨by show (0 : Int) < (U : Int); omega, Int.natCast_dvd_natCast.mpr (Nat.dvd_lcm_right _ _)⟩
    · obtain ⟨G', o6, o7, rfl, rfl, g0', gb', gd, gf'⟩ := w
      rw [la, List.take_length] at gf'
      refine ⟨G', _, _, _, _, _, _, rfl, rfl, g0', Nat.le_trans gb' (Nat.pow_le_pow_right (by decide) (by omega)), fun x hx => ?_⟩
      rw [List.take_add_one, ee] at hx
      rcases List.mem_append.mp hx with hx | hx
      · exact (gf x hx).up gd
      · simp at hx
        subst hx
        exact gf'
  · obtain ⟨G, o2, o3, o4, o5, o6, o7, rfl, rfl, g0, gb, gf⟩ := w
    rw [ln, List.take_length] at gf
    walk_at "rd_6"
    exact q G g0 gb gf

theorem fdiv_nat (N L : Nat) : (N : Int).fdiv (L : Int) = ((N / L : Nat) : Int) := by
  rw [Int.fdiv_eq_ediv_of_nonneg _ (by omega)]
  push_cast
  rfl
theorem fmod_nat (N L : Nat) : (N : Int).fmod (L : Int) = ((N % L : Nat) : Int) := by
  rw [Int.fmod_eq_emod_of_nonneg _ (by omega)]
  push_cast
  rfl
theorem bS_take {G : Nat} {es : List Ent} {i : Nat} {e : Ent} (h : es[i]? = some e) (d : Nat) : bS G (es.take (i + 1)) d = bS G (es.take i) d + bE G e d := by
  unfold bS
  rw [List.take_add_one, h, List.map_append, List.sum_append]
  simp
def sp__law_before (K : PySem.W.Frag) : Sp := fun vs H Q _ => ∃ (l : Addr) (es : List Ent) (d G : Nat), vs = [.ref l, .int (d : Int), .int (G : Int)] ∧ Led H l es G ∧ ∀ J, Same H J → Q (.int (bS G es d)) J
theorem ar__law_before (K : PySem.W.Frag) : ∀ vs H Q E, sp__law_before K vs H Q E → vs.length = 3 := by
  intro vs H Q E h
  obtain ⟨l, es, d, G, rfl, _⟩ := h
  rfl
abbrev N__law_before : List Str := ["_law_entries_here", "_law_day", "_law_grain_here", "_law_found", "_law_word", "_law_first", "_law_many", "_law_amounts", "_law_units", "_law_top", "_law_under", "_law_days"]
theorem sc__law_before : FnScope N__law_before ["_law_entries_here", "_law_day", "_law_grain_here"] (defScope S__law_before) := ⟨rfl, rfl, rfl, by decide +kernel, rfl, by decide +kernel, by decide +kernel⟩
theorem ok__law_before {P : Program} {w : World} {K : PySem.W.Frag} {mg : Str → Option Value} {base : Heap} {f : Addr} {fd : FuncData} (F : Fun K "_law_before" "_law_before" S__law_before f fd) (m_sum : mg "sum" = none) (m_len : mg "len" = none) (m_min : mg "min" = none) (m_max : mg "max" = none) :
    FnG P w K mg base CX0 1 f fd ["_law_entries_here", "_law_day", "_law_grain_here"] (sp__law_before K) := by
  refine Fun_okG F sc__law_before (ar__law_before K) (fun cdv A outer s H vs Q E hg hr h => ?_)
  obtain ⟨l, es, d, G, rfl, ⟨ws, hl, t, fit, g0, g1, lw⟩, q⟩ := h
  refine ⟨_, (pss_cons (ps_set (i := 3) sc__law_before.nd rfl (Or.inl rfl) pe_int)
    (pss_cons (ps_for PassesOwn.never rfl (piL (K := K) rfl (pv 0)) (pgT (K := K) rfl rfl (pgs_cons (pg_name (i := 4) sc__law_before.nd rfl (Or.inl rfl)) (pgs_cons (pg_name (i := 5) sc__law_before.nd rfl (Or.inl rfl)) (pgs_cons (pg_name (i := 6) sc__law_before.nd rfl (Or.inl rfl)) (pgs_cons (pg_name (i := 7) sc__law_before.nd rfl (Or.inl rfl)) pgs_nil))))) (pss_cons (ps_setLc (i := 8) (own := [("_law_top", 9), ("_law_under", 10)]) (g := (gTup K 2 (gCons (gName 9) (gCons (gName 10) gNil)))) rfl sc__law_before.nd rfl rfl (sw_true rfl rfl rfl (by decide +kernel)) (piT (K := K) rfl (pv 7)) (blkOk_by (own := [("_law_top", 9), ("_law_under", 10)]) (N := N__law_before) (sc := defScope S__law_before) (by decide +kernel)) (fun _ _ _ _ _ => (pgT rfl rfl (pgs_cons (pg_name (i := 9) sc__law_before.nd rfl (Or.inl rfl)) (pgs_cons (pg_name (i := 10) sc__law_before.nd rfl (Or.inl rfl)) pgs_nil)))) (fun _ _ _ _ _ => pts_nil) (fun _ _ _ _ _ => (pe_op op_dv (pe_op op_ml (pv 9) (pv 2)) (pv 10))))
    (pss_cons (ps_set (i := 11) sc__law_before.nd rfl (Or.inl rfl) (pe_callB (id := "min") (call_min2 rfl) (by rfl) m_min (by decide +kernel) (pa_cons (pe_callB (id := "max") (call_max2 rfl) (by rfl) m_max (by decide +kernel) (pa_cons (pe_op op_sub (pv 1) (pv 5)) (pa_cons pe_int pa_nil))) (pa_cons (pv 6) pa_nil))))
    (pss_cons (ps_set (i := 3) sc__law_before.nd rfl (Or.inl rfl) (pe_op op_add (pv 3) (pe_op op_ml (pe_op op_dv (pv 11) (pe_callB (id := "len") (lenK (K := K) rfl) (by rfl) m_len (by decide +kernel) (pa_cons (pv 8) pa_nil))) (pe_callB (id := "sum") (sumK (K := K) rfl rfl) (by rfl) m_sum (by decide +kernel) (pa_cons (pv 8) pa_nil)))))
    (pss_one (ps_set (i := 3) sc__law_before.nd rfl (Or.inl rfl) (pe_op op_add (pv 3) (pe_callB (id := "sum") (sumK (K := K) rfl rfl) (by rfl) m_sum (by decide +kernel) (pa_cons (pe_slice (slK (K := K) rfl) (pv 8) po_none (po_some (pe_op op_modN (pv 11) (pe_callB (id := "len") (lenK (K := K) rfl) (by rfl) m_len (by decide +kernel) (pa_cons (pv 8) pa_nil))))) pa_nil)))))))))
    (pss_one (ps_ret (pv 3))))), ?_⟩
  have ln := t.len
  walk_at "rd_6"
  refine lp_lst (xs := ws) (fun i σ' M => ∃ (o4 o5 o6 o7 o8 o9 o10 o11 : Option V), σ' = [some (.ref l), some (.int (d : Int)), some (.int (G : Int)), some (.int (bS G (es.take i) d)), o4, o5, o6, o7, o8, o9, o10, o11] ∧ Same H M)
    ⟨none, none, none, none, none, none, none, none, rfl, fun _ _ e => e⟩ (fun i σ M _ w => ?_) (fun i r σ M hr w => ?_) (fun σ M w => ?_)
  · obtain ⟨o4, o5, o6, o7, o8, o9, o10, o11, rfl, sM⟩ := w
    exact SqL.of (sM _ _ hl)
  · obtain ⟨o4, o5, o6, o7, o8, o9, o10, o11, rfl, sM⟩ := w
    obtain ⟨e, ee, en⟩ := t.get hr
    have fe := fit e (List.mem_of_getElem? ee)
    obtain ⟨p, a, rs, rfl, hp, ha, am, ne, l4, fm, m1⟩ := en.mono fun p xs h => sM _ _ h
    have la := am.len
    have ul := uts_len G e
    have L0 : 0 < e.am.length := List.length_pos_iff.mpr ne
    have hu : ∀ u ∈ uts G e, Bd 520 u := fun u hu => by
      obtain ⟨r, hr, rfl⟩ := List.mem_map.mp hu
      exact unit_bd (am.bds r hr).1 (am.bds r hr).2.2.1 g1
    have bG : Bd 500 (G : Int) := g1
    walk_at "rd_6"
    intro D nD
    refine lc_sig (τ := [some (.ref l), some (.int (d : Int)), some (.int (G : Int)), some (.int (bS G (es.take i) d)), some (.str "entry"), some (.int (e.first : Int)), some (.int (e.many : Int)), some (.ref a), o8, o9, o10, o11]) rfl ?_
    refine lc_growT (xs := rs) (fun ys _ => ys = ((uts G e).take ys.length).map V.int) (fun J k => SqT.of (k _ _ (ne_of_none ha nD) ha)) (by omega) nD (fun J k => by simp) (fun j v ys J hx i5 hy k hD hP => ?_) fun ys J hy k hD hP => ?_
    · obtain ⟨pr, x, y, rfl, er, hpr, y0, gg, bx, bu⟩ := am.get hx
      have hpr := k _ _ (ne_of_none hpr nD) hpr
      walk_at "rd_6"
      refine ⟨rfl, ?_⟩
      walk_at "rd_6"
      refine lcEnd_mk hD hy i5 k fun J4 p4 e4 => ?_
      have eu : (uts G e)[j]? = some (unit G (x, y)) := by
        unfold uts
        rw [List.getElem?_map, er]
        rfl
      have ev : (x * (G : Int)).fdiv y = unit G (x, y) := Int.fdiv_eq_ediv_of_nonneg _ (by omega)
      rw [List.length_append, List.length_singleton, hy, List.take_add_one, eu, List.map_append, ev]
      rw [hy] at hP
      rw [← hP]
      rfl
    have sJ : Same M J := fun a o h => k a o (ne_of_none h nD) h
    have S := Same.trans sM sJ
    rw [hy, la, ← ul, List.take_length] at hP
    subst hP
    clear k nD hp ha hy sJ sM
    have eN : (if (e.many : Int) < (if (0 : Int) > (d : Int) - (e.first : Int) then (0 : Int) else (d : Int) - (e.first : Int)) then (e.many : Int) else (if (0 : Int) > (d : Int) - (e.first : Int) then (0 : Int) else (d : Int) - (e.first : Int))) = ((min (d - e.first) e.many : Nat) : Int) := by
      split <;> split <;> omega
    have eB : bE G e d = rnd (uts G e) (min (d - e.first) e.many) := rfl
    have N30 : min (d - e.first) e.many ≤ 10 ^ 30 := by omega
    walk_at "rd_6"
    rw [eN]
    rw [List.length_map]
    have eT := bS_take (G := G) ee d
    rw [eB] at eT
    unfold rnd at eT
    generalize min (d - e.first) e.many = N at eT N30 ⊢
    clear eN eB
    have U0 : 0 < (uts G e).length := by omega
    have U4 : (uts G e).length ≤ 4 := by omega
    refine rd_I ⟨by omega, by omega⟩ ?_
    walk_at "rd_6"
    refine rd_sum (SqL.of hD) rfl ?_
    rw [fdiv_nat]
    have bq : Bd 110 ((N / (uts G e).length : Nat) : Int) := by
      have h := Nat.div_le_self N (uts G e).length
      unfold Bd
      rw [Int.natAbs_natCast]
      exact Nat.lt_of_le_of_lt h (by omega)
    have bs : Bd (3 + 520) (uts G e).sum := bd_sums hu (by omega)
    refine rd_I (rd_mulB bq bs) ?_
    walk_at "rd_6"
    rw [List.length_map]
    refine rd_I (by omega) ?_
    walk_at "rd_6"
    rename_i p5 J5 n5 s5 e5
    rw [fmod_nat, cut_take (by rw [List.length_map]; exact Nat.le_of_lt (Nat.mod_lt _ U0)), ← List.map_take] at e5
    refine rd_sum (SqL.of e5) rfl ?_
    walk_at "rd_6"
    rw [Int.add_assoc, ← eT]
    exact ⟨_, _, _, _, _, _, _, _, rfl, Same.trans S s5⟩
  · obtain ⟨o4, o5, o6, o7, o8, o9, o10, o11, rfl, sM⟩ := w
    rw [ln, List.take_length]
    walk_at "rd_6"
    exact q M sM

def sp__law_told (K : PySem.W.Frag) : Sp := fun vs H Q _ => ∃ (l : Addr) (es : List Ent) (u : Int) (i n G : Nat), vs = [.ref l, .int u, .int (i : Int), .int (n : Int), .int (G : Int)] ∧ Led H l es G ∧ ∀ J, Same H J → Q (.int (toldN G es u i n)) J
theorem ar__law_told (K : PySem.W.Frag) : ∀ vs H Q E, sp__law_told K vs H Q E → vs.length = 5 := by
  intro vs H Q E h
  obtain ⟨l, es, u, i, n, G, rfl, _⟩ := h
  rfl
abbrev N__law_told : List Str := ["_law_entries_here", "_law_unit", "_law_first", "_law_many", "_law_grain_here", "_law_low", "_law_high"]
theorem sc__law_told : FnScope N__law_told ["_law_entries_here", "_law_unit", "_law_first", "_law_many", "_law_grain_here"] (defScope S__law_told) := ⟨rfl, rfl, rfl, by decide +kernel, rfl, by decide +kernel, by decide +kernel⟩
theorem ok__law_told {P : Program} {w : World} {K : PySem.W.Frag} {mg : Str → Option Value} {base : Heap} {f : Addr} {fd : FuncData} (F : Fun K "_law_told" "_law_told" S__law_told f fd) {f__law_before : Addr} {fd__law_before : FuncData} (C__law_before : Cal P w K mg base "_law_before" 1 f__law_before fd__law_before ["_law_entries_here", "_law_day", "_law_grain_here"] (sp__law_before K)) :
    FnG P w K mg base CX0 2 f fd ["_law_entries_here", "_law_unit", "_law_first", "_law_many", "_law_grain_here"] (sp__law_told K) := by
  refine Fun_okG F sc__law_told (ar__law_told K) (fun cdv A outer s H vs Q E hg hr h => ?_)
  obtain ⟨l, es, u, i, n, G, rfl, L, q⟩ := h
  refine ⟨_, (pss_cons (ps_par (i := 5) (j := 6) rfl sc__law_told.nd rfl rfl (by decide) rfl rfl (pa_cons (pe_c C__law_before hg (hr.mono (by decide)) rfl (pa_cons (pv 0) (pa_cons (pv 2) (pa_cons (pv 4) pa_nil)))) (pa_cons (pe_c C__law_before hg (hr.mono (by decide)) rfl (pa_cons (pv 0) (pa_cons (pe_op op_add (pv 2) (pv 3)) (pa_cons (pv 4) pa_nil)))) pa_nil)) (by rfl))
    (pss_one (ps_ret (pe_op op_sub (pe_op op_dv (pe_op op_add (pv 6) (pv 1)) (pv 4)) (pe_op op_dv (pe_op op_add (pv 5) (pv 1)) (pv 4)))))), ?_⟩
  have g0 := L.pos
  have g1 := L.lt
  have bG : Bd 500 (G : Int) := g1
  have gz : (G : Int) ≠ 0 := by omega
  walk_at "rd_6"
  refine ⟨l, es, i, G, rfl, L, fun J s => ?_⟩
  walk_at "rd_6"
  rw [show (i : Int) + (n : Int) = ((i + n : Nat) : Int) by omega]
  refine ⟨l, es, i + n, G, rfl, L.same s, fun J2 s2 => ?_⟩
  walk_at "rd_6"
  refine rd_I (rd_dvB _ gz bG) ?_
  walk_at "rd_6"
  refine rd_I (rd_dvB _ gz bG) ?_
  walk_at "rd_6"
  exact q J2 (Same.trans s s2)

def sp__law_stretch (K : PySem.W.Frag) : Sp := fun vs H Q _ => ∃ (b : Addr) (last : Nat), vs = [.ref b, .int (last : Int)] ∧ Bag b H ∧ last ≤ 1000 ∧ ∀ (p : Addr) (i n : Nat) J, H p = none → J p = some (.tup [.int (i : Int), .int (n : Int)]) → 1 ≤ n → i + n ≤ last + 1 → Kp b H J → Bag b J → Q (.ref p) J
theorem ar__law_stretch (K : PySem.W.Frag) : ∀ vs H Q E, sp__law_stretch K vs H Q E → vs.length = 2 := by
  intro vs H Q E h
  obtain ⟨b, last, rfl, _⟩ := h
  rfl
abbrev N__law_stretch : List Str := ["_law_bag_here", "_law_last", "_law_first"]
theorem sc__law_stretch : FnScope N__law_stretch ["_law_bag_here", "_law_last"] (defScope S__law_stretch) := ⟨rfl, rfl, rfl, by decide +kernel, rfl, by decide +kernel, by decide +kernel⟩
theorem ok__law_stretch {P : Program} {w : World} {K : PySem.W.Frag} {mg : Str → Option Value} {base : Heap} {f : Addr} {fd : FuncData} (F : Fun K "_law_stretch" "_law_stretch" S__law_stretch f fd) {f__law_take : Addr} {fd__law_take : FuncData} (C__law_take : Cal P w K mg base "_law_take" 1 f__law_take fd__law_take ["_law_bag_here", "_law_size"] (sp__law_take K)) :
    FnG P w K mg base CX0 2 f fd ["_law_bag_here", "_law_last"] (sp__law_stretch K) := by
  refine Fun_okG F sc__law_stretch (ar__law_stretch K) (fun cdv A outer s H vs Q E hg hr h => ?_)
  obtain ⟨b, last, rfl, hb, lb, q⟩ := h
  refine ⟨_, (pss_cons (ps_set (i := 2) sc__law_stretch.nd rfl (Or.inl rfl) (pe_c C__law_take hg (hr.mono (by decide)) rfl (pa_cons (pv 0) (pa_cons (pe_op op_add (pv 1) pe_int) pa_nil))))
    (pss_one (ps_ret (pe_tup (pa_cons (pv 2) (pa_cons (pe_ix (ixK (K := K) rfl) (pe_lst (pa_cons (pe_op op_add pe_int (pe_c C__law_take hg (hr.mono (by decide)) rfl (pa_cons (pv 0) (pa_cons (pe_op op_sub (pe_op op_add (pv 1) pe_int) (pv 2)) pa_nil)))) (pa_cons pe_int (pa_cons (pe_op op_sub (pe_op op_add (pv 1) pe_int) (pv 2)) pa_nil)))) (pe_c C__law_take hg (hr.mono (by decide)) rfl (pa_cons (pv 0) (pa_cons pe_int pa_nil))) (fun _ _ => rfl)) pa_nil)))))), ?_⟩
  walk_at "rd_6"
  refine ⟨b, last + 1, rfl, hb, by omega, by omega, fun r1 J1 r1a r1b k1 g1 => ?_⟩
  obtain ⟨i, rfl⟩ := Int.eq_ofNat_of_zero_le r1a
  walk_at "rd_6"
  refine ⟨b, last + 1 - i, rfl, g1, by omega, by omega, fun r4 J4 r4a r4b k4 g4 => ?_⟩
  walk_at "rd_6"
  rename_i p5 J5 n5 s5 e5
  have m5 : p5 ≠ b := g4.ne n5
  have g5 := g4.same s5
  refine ⟨b, 3, rfl, g5, by decide, by decide, fun r6 J6 r6a r6b k6 g6 => ?_⟩
  have K6 : Kp b H J6 := k1.trans (k4.trans ((Kp.of s5).trans k6))
  refine rd_pick (k6 _ _ m5 e5) r6a r6b fun v hv => ?_
  obtain ⟨n, rfl, n1, nl⟩ : ∃ f : Nat, v = .int (f : Int) ∧ 1 ≤ f ∧ i + f ≤ last + 1 := by
    simp only [List.mem_cons, List.not_mem_nil, or_false] at hv
    rcases hv with rfl | rfl | rfl
    · exact ⟨(1 + r4).toNat, by rw [Int.toNat_of_nonneg (by omega)], by omega, by omega⟩
    · exact ⟨1, rfl, by omega, by omega⟩
    · exact ⟨last + 1 - i, by congr 1; omega, by omega, by omega⟩
  clear hv k1 k4 s5 k6 g1 g4 g5 e5 m5 n5
  walk_at "rd_6"
  rename_i p7 J7 n7 s7 e7
  exact q p7 i n J7 (K6.free g6 n7) e7 n1 nl (K6.trans (Kp.of s7)) (g6.same s7)

def sp__law_statements (K : PySem.W.Frag) : Sp := fun vs H Q _ => ∃ (b l : Addr) (es : List Ent) (last most : Nat), vs = [.ref b, .ref l, .int (last : Int), .int (most : Int)] ∧ Bag b H ∧ l ≠ b ∧ (∃ ws, H l = some (.lst ws) ∧ EntsAt H ws es ∧ ws.length ≤ 4) ∧ last ≤ 100 ∧ most ≤ 100 ∧
  ∀ (s : Addr) (ws : List V) (ss : List Stm) J, s ≠ b → H s = none → J s = some (.lst ws) → StmsAt J ws ss → ws.length ≤ most → (∀ x ∈ ss, 1 ≤ x.many ∧ x.first + x.many ≤ last + 1 ∧ Bd 700 x.num) → Kp b H J → Bag b J → Q (.ref s) J
theorem ar__law_statements (K : PySem.W.Frag) : ∀ vs H Q E, sp__law_statements K vs H Q E → vs.length = 4 := by
  intro vs H Q E h
  obtain ⟨b, l, es, last, most, rfl, _⟩ := h
  rfl
abbrev N__law_statements : List Str := ["_law_bag_here", "_law_entries_here", "_law_last", "_law_most", "_law_grain_here", "_law_found", "_law_unit", "_law_wrong", "_law_k", "_law_first", "_law_many", "_law_number"]
theorem sc__law_statements : FnScope N__law_statements ["_law_bag_here", "_law_entries_here", "_law_last", "_law_most"] (defScope S__law_statements) := ⟨rfl, rfl, rfl, by decide +kernel, rfl, by decide +kernel, by decide +kernel⟩
theorem ok__law_statements {P : Program} {w : World} {K : PySem.W.Frag} {mg : Str → Option Value} {base : Heap} {f : Addr} {fd : FuncData} (F : Fun K "_law_statements" "_law_statements" S__law_statements f fd) {f__law_take : Addr} {fd__law_take : FuncData} (C__law_take : Cal P w K mg base "_law_take" 1 f__law_take fd__law_take ["_law_bag_here", "_law_size"] (sp__law_take K)) {f__law_told : Addr} {fd__law_told : FuncData} (C__law_told : Cal P w K mg base "_law_told" 2 f__law_told fd__law_told ["_law_entries_here", "_law_unit", "_law_first", "_law_many", "_law_grain_here"] (sp__law_told K)) {f__law_stretch : Addr} {fd__law_stretch : FuncData} (C__law_stretch : Cal P w K mg base "_law_stretch" 2 f__law_stretch fd__law_stretch ["_law_bag_here", "_law_last"] (sp__law_stretch K)) {f__law_grain : Addr} {fd__law_grain : FuncData} (C__law_grain : Cal P w K mg base "_law_grain" 2 f__law_grain fd__law_grain ["_law_entries_here"] (sp__law_grain K)) (m_range : mg "range" = none) :
    FnG P w K mg base CX0 3 f fd ["_law_bag_here", "_law_entries_here", "_law_last", "_law_most"] (sp__law_statements K) := by
  refine Fun_okG F sc__law_statements (ar__law_statements K) (fun cdv A outer s H vs Q E hg hr h => ?_)
  obtain ⟨b, l, es, last, most, rfl, hb, nl, ⟨ws, hl, t, lw⟩, l100, m100, q⟩ := h
  refine ⟨_, (pss_cons (ps_par (i := 4) (j := 5) rfl sc__law_statements.nd rfl rfl (by decide) rfl rfl (pa_cons (pe_c C__law_grain hg (hr.mono (by decide)) rfl (pa_cons (pv 1) pa_nil)) (pa_cons (pe_lst pa_nil) pa_nil)) (by rfl))
    (pss_cons (ps_par (i := 6) (j := 7) rfl sc__law_statements.nd rfl rfl (by decide) rfl rfl (pa_cons (pe_c C__law_take hg (hr.mono (by decide)) rfl (pa_cons (pv 0) (pa_cons (pv 4) pa_nil))) (pa_cons (pe_cmpR op_eq (pe_c C__law_take hg (hr.mono (by decide)) rfl (pa_cons (pv 0) (pa_cons pe_int pa_nil))) pe_int (nomark _)) pa_nil)) (by rfl))
    (pss_cons (ps_for PassesOwn.never rfl (pi_range1 rfl m_range (pa_cons (pe_c C__law_take hg (hr.mono (by decide)) rfl (pa_cons (pv 0) (pa_cons (pe_op op_add (pv 3) pe_int) pa_nil))) pa_nil)) (pg_name (i := 8) sc__law_statements.nd rfl (Or.inl rfl)) (pss_cons (ps_asg (pe_c C__law_stretch hg (hr.mono (by decide)) rfl (pa_cons (pv 0) (pa_cons (pv 2) pa_nil))) (pg_tup rfl (pgs_cons (pg_name (i := 9) sc__law_statements.nd rfl (Or.inl rfl)) (pgs_cons (pg_name (i := 10) sc__law_statements.nd rfl (Or.inl rfl)) pgs_nil))))
    (pss_cons (ps_set (i := 11) sc__law_statements.nd rfl (Or.inl rfl) (pe_c C__law_told hg (hr.mono (by decide)) rfl (pa_cons (pv 1) (pa_cons (pv 6) (pa_cons (pv 9) (pa_cons (pv 10) (pa_cons (pv 4) pa_nil)))))))
    (pss_cons (ps_if (PW.pt (pw_and (pt_val (pv 7)) (pw_and1 (pt_cmpR op_eq (pe_c C__law_take hg (hr.mono (by decide)) rfl (pa_cons (pv 0) (pa_cons pe_int pa_nil))) pe_int (nomark _))))) (pss_one (ps_set (i := 11) sc__law_statements.nd rfl (Or.inl rfl) (pe_op op_sub (pe_op op_add (pv 11) (pe_c C__law_take hg (hr.mono (by decide)) rfl (pa_cons (pv 0) (pa_cons pe_int pa_nil)))) pe_int))) pss_nil)
    (pss_one (ps_expr (pe_bm PySem.F.plainAttrs_list PySem.F.slot_list_append PySem.F.type_list_append mt_append (pv 5) (pa_cons (pe_tup (pa_cons pe_str (pa_cons (pv 9) (pa_cons (pv 10) (pa_cons (pv 11) pa_nil))))) pa_nil))))))))
    (pss_one (ps_ret (pv 5)))))), ?_⟩
  walk_at "rd_6"
  refine ⟨l, ws, es, rfl, hl, t, by omega, fun G g0 gb gf => ?_⟩
  have G320 : G ≤ 2 ^ 320 := Nat.le_trans gb (Nat.pow_le_pow_right (by decide) (by omega))
  have G400 : G < 2 ^ 400 := Nat.lt_of_le_of_lt G320 (Nat.pow_lt_pow_right (by decide) (by decide))
  have L : Led H l es G := ⟨ws, hl, t, gf, g0, Nat.lt_of_le_of_lt G320 (Nat.pow_lt_pow_right (by decide) (by decide)), by omega⟩
  clear hl t gb gf lw
  walk_at "rd_6"
  rename_i p1 J1 n1 s1 e1
  have m1 : p1 ≠ b := hb.ne n1
  have g1 := hb.same s1
  refine ⟨b, G, rfl, g1, by omega, by omega, fun u J2 ua ub k2 g2 => ?_⟩
  walk_at "rd_6"
  refine ⟨b, 3, rfl, g2, by decide, by decide, fun r3 J3 r3a r3b k3 g3 => ?_⟩
  walk_at "rd_6"
  refine ⟨b, most + 1, rfl, g3, by omega, by omega, fun r4 J4 r4a r4b k4 g4 => ?_⟩
  have k14 : Kp b J1 J4 := k2.trans (k3.trans k4)
  have K4 : Kp b H J4 := (Kp.of s1).trans k14
  have e4 := k14 _ _ m1 e1
  have hn : r4.toNat ≤ most := by omega
  generalize hN : r4.toNat = N at hn
  clear k2 k3 k4 s1 e1 g1 g2 g3 k14
  walk_at "rd_6"
  rw [hN]
  refine lp_rng (fun i σ' M => ∃ (zs : List V) (ss : List Stm) (o8 o9 o10 o11 : Option V), σ' = [some (.ref b), some (.ref l), some (.int (last : Int)), some (.int (most : Int)), some (.int (G : Int)), some (.ref p1), some (.int u), some (.bl (decide (r3 = 0))), o8, o9, o10, o11] ∧ M p1 = some (.lst zs) ∧ StmsAt M zs ss ∧ zs.length ≤ i ∧ (∀ x ∈ ss, 1 ≤ x.many ∧ x.first + x.many ≤ last + 1 ∧ Bd 700 x.num) ∧ Kp b H M ∧ Bag b M)
    ⟨[], [], none, none, none, none, rfl, e4, .nil, Nat.le_refl _, (fun x hx => by cases hx), K4, g4⟩ (fun i σ M hi w => ?_) (fun σ M w => ?_)
  · obtain ⟨zs, ss, o8, o9, o10, o11, rfl, hz, sz', le, ok, kM, gM⟩ := w
    walk_at "rd_6"
    refine ⟨b, last, rfl, gM, by omega, fun p i' n' J5 np e5 n1' nle k5 g5 => ?_⟩
    have hz5 := k5 _ _ m1 hz
    have sz5 := sz'.mono fun p xs h => k5.tup gM h
    have kM5 := kM.trans k5
    have L5 := L.kp kM5 hb nl
    clear hz sz' kM k5 gM
    walk_at "rd_6"
    refine ⟨l, es, u, i', n', G, rfl, L5, fun J6 s6 => ?_⟩
    have hz6 := s6 _ _ hz5
    have sz6 := sz5.mono fun p xs h => s6 _ _ h
    have kM6 := kM5.trans (Kp.of s6)
    have g6 := g5.same s6
    have bu : Bd 400 u := by unfold Bd; omega
    have bt : Bd 660 (toldN G es u i' n') := by
      have h1 : Bd 652 ((bS G es (i' + n') + u).fdiv (G : Int)) := Bd.mono (m := 651) (((L.bd (i' + n')).add (bu.mono (by decide))).le (natAbs_fdiv_le _ (by omega))) (by decide)
      have h2 : Bd 652 ((bS G es i' + u).fdiv (G : Int)) := Bd.mono (m := 651) (((L.bd i').add (bu.mono (by decide))).le (natAbs_fdiv_le _ (by omega))) (by decide)
      exact (h1.sub h2).mono (by decide)
    clear hz5 sz5 kM5 g5 L5 s6
    have fin : ∀ (num : Int) (J : Hp), Bd 700 num → Kp b H J → Bag b J → J p1 = some (.lst zs) → StmsAt J zs ss → ∀ c J7, Same J J7 → J7 c = some (.tup [.str "statement", .int (i' : Int), .int (n' : Int), .int num]) → ∀ J8, Pu p1 J7 J8 → J8 p1 = some (.lst (zs ++ [.ref c])) →
        StmsAt J8 (zs ++ [.ref c]) (ss ++ [⟨i', n', num⟩]) ∧ (zs ++ [V.ref c]).length ≤ i + 1 ∧ (∀ x ∈ ss ++ [⟨i', n', num⟩], 1 ≤ x.many ∧ x.first + x.many ≤ last + 1 ∧ Bd 700 x.num) ∧ Kp b H J8 ∧ Bag b J8 := fun num J bn kJ gJ hJ sJ c J7 s7 e7 J8 p8 e8 => by
      refine ⟨(sJ.mono fun p xs h => p8.tup (s7 _ _ h)).snoc ⟨c, rfl, p8.tup e7⟩, by rw [List.length_append, List.length_singleton]; omega, fun x hx => ?_, ?_, p8.bag m1 (gJ.same s7)⟩
      · rcases List.mem_append.mp hx with hx | hx
        · exact ok x hx
        · obtain rfl := List.mem_singleton.mp hx
          exact ⟨n1', nle, bn⟩
      · exact (kJ.trans (Kp.of s7)).pu p8 n1
    have walkNum : True := trivial
    walk_at "rd_6"
    refine rd_if (fun c => ?_) (fun c => ?_)
    · walk_at "rd_6"
      refine ⟨b, 3, rfl, g6, by decide, by decide, fun r7 J7 r7a r7b k7 g7 => ?_⟩
      have hz7 := k7 _ _ m1 hz6
      have sz7 := sz6.mono fun p xs h => k7.tup g6 h
      have kM7 := kM6.trans k7
      walk_at "rd_6"
      refine rd_if (fun c2 => ?_) (fun c2 => ?_)
      · walk_at "rd_6"
        refine ⟨b, 3, rfl, g7, by decide, by decide, fun r8 J8 r8a r8b k8 g8 => ?_⟩
        have hz8 := k8 _ _ m1 hz7
        have sz8 := sz7.mono fun p xs h => k8.tup g7 h
        have kM8 := kM7.trans k8
        have bn : Bd 700 (toldN G es u i' n' + r8 - 1) := by
          have h1 : Bd 661 (toldN G es u i' n' + r8) := bt.add (by unfold Bd; omega)
          exact Bd.mono (m := 662) (h1.sub (by unfold Bd; omega)) (by decide)
        walk_at "rd_6"
        rename_i c9 J9 n9 s9 e9
        refine rd_appK (s9 _ _ hz8) (by omega) fun JA pA eA => ?_
        obtain ⟨f1, f2, f3, f4, f5⟩ := fin _ _ bn kM8 g8 hz8 sz8 c9 J9 s9 e9 JA pA eA
        walk_at "rd_6"
        exact ⟨_, _, _, _, _, _, rfl, eA, f1, f2, f3, f4, f5⟩
      · walk_at "rd_6"
        rename_i c9 J9 n9 s9 e9
        refine rd_appK (s9 _ _ hz7) (by omega) fun JA pA eA => ?_
        obtain ⟨f1, f2, f3, f4, f5⟩ := fin _ _ (bt.mono (by decide)) kM7 g7 hz7 sz7 c9 J9 s9 e9 JA pA eA
        walk_at "rd_6"
        exact ⟨_, _, _, _, _, _, rfl, eA, f1, f2, f3, f4, f5⟩
    · walk_at "rd_6"
      rw [if_neg Bool.false_ne_true]
      walk_at "rd_6"
      rename_i c9 J9 n9 s9 e9
      refine rd_appK (s9 _ _ hz6) (by omega) fun JA pA eA => ?_
      obtain ⟨f1, f2, f3, f4, f5⟩ := fin _ _ (bt.mono (by decide)) kM6 g6 hz6 sz6 c9 J9 s9 e9 JA pA eA
      walk_at "rd_6"
      exact ⟨_, _, _, _, _, _, rfl, eA, f1, f2, f3, f4, f5⟩
  · obtain ⟨zs, ss, o8, o9, o10, o11, rfl, hz, sz', le, ok, kM, gM⟩ := w
    walk_at "rd_6"
    exact q p1 zs ss M m1 n1 hz sz' (by omega) ok kM gM

def sp__law_case (K : PySem.W.Frag) : Sp := fun vs H Q _ => ∃ (b : Addr) (most : Nat), vs = [.ref b, .int (most : Int)] ∧ Bag b H ∧ most ≤ 100 ∧
  ∀ (p l s : Addr) (es : List Ent) (ss : List Stm) (last G : Nat) J, J p = some (.tup [.ref l, .ref s, .int (last : Int), .int (G : Int)]) → Case K J l s es ss last G → (∀ e ∈ es, AmOk e) → ss.length ≤ most → l ≠ b → s ≠ b → l ≠ s → H l = none → H s = none → Kp b H J → Bag b J → Q (.ref p) J
theorem ar__law_case (K : PySem.W.Frag) : ∀ vs H Q E, sp__law_case K vs H Q E → vs.length = 2 := by
  intro vs H Q E h
  obtain ⟨b, most, rfl, _⟩ := h
  rfl
abbrev N__law_case : List Str := ["_law_bag_here", "_law_most", "_law_last", "_law_entries_here", "_law_under", "_law_statements_here"]
theorem sc__law_case : FnScope N__law_case ["_law_bag_here", "_law_most"] (defScope S__law_case) := ⟨rfl, rfl, rfl, by decide +kernel, rfl, by decide +kernel, by decide +kernel⟩
theorem ok__law_case {P : Program} {w : World} {K : PySem.W.Frag} {mg : Str → Option Value} {base : Heap} {f : Addr} {fd : FuncData} (F : Fun K "_law_case" "_law_case" S__law_case f fd) {f__law_grain : Addr} {fd__law_grain : FuncData} (C__law_grain : Cal P w K mg base "_law_grain" 2 f__law_grain fd__law_grain ["_law_entries_here"] (sp__law_grain K)) {f__law_statements : Addr} {fd__law_statements : FuncData} (C__law_statements : Cal P w K mg base "_law_statements" 3 f__law_statements fd__law_statements ["_law_bag_here", "_law_entries_here", "_law_last", "_law_most"] (sp__law_statements K)) {f__law_take : Addr} {fd__law_take : FuncData} (C__law_take : Cal P w K mg base "_law_take" 1 f__law_take fd__law_take ["_law_bag_here", "_law_size"] (sp__law_take K)) {f__law_lowest : Addr} {fd__law_lowest : FuncData} (C__law_lowest : Cal P w K mg base "_law_lowest" 2 f__law_lowest fd__law_lowest ["_law_top", "_law_under"] (sp__law_lowest K)) {f__law_entries : Addr} {fd__law_entries : FuncData} (C__law_entries : Cal P w K mg base "_law_entries" 5 f__law_entries fd__law_entries ["_law_bag_here", "_law_last", "_law_most"] (sp__law_entries K)) :
    FnG P w K mg base CX0 6 f fd ["_law_bag_here", "_law_most"] (sp__law_case K) := by
  refine Fun_okG F sc__law_case (ar__law_case K) (fun cdv A outer s H vs Q E hg hr h => ?_)
  obtain ⟨b, most, rfl, hb, m100, q⟩ := h
  refine ⟨_, (pss_cons (ps_set (i := 2) sc__law_case.nd rfl (Or.inl rfl) (pe_op op_add pe_int (pe_c C__law_take hg (hr.mono (by decide)) rfl (pa_cons (pv 0) (pa_cons pe_int pa_nil)))))
    (pss_cons (ps_set (i := 3) sc__law_case.nd rfl (Or.inl rfl) (pe_c C__law_entries hg (hr.mono (by decide)) rfl (pa_cons (pv 0) (pa_cons (pv 2) (pa_cons pe_int pa_nil)))))
    (pss_cons (ps_if (pt_cmpR op_eq (pe_c C__law_take hg (hr.mono (by decide)) rfl (pa_cons (pv 0) (pa_cons pe_int pa_nil))) pe_int (nomark _)) (pss_cons (ps_set (i := 4) sc__law_case.nd rfl (Or.inl rfl) (pe_ix (ixK (K := K) rfl) (pe_lst (pa_cons pe_int (pa_cons (pe_op op_pow pe_int pe_int) (pa_cons pe_int pa_nil)))) (pe_c C__law_take hg (hr.mono (by decide)) rfl (pa_cons (pv 0) (pa_cons pe_int pa_nil))) (fun _ _ => rfl)))
    (pss_one (ps_expr (pe_bm PySem.F.plainAttrs_list PySem.F.slot_list_append PySem.F.type_list_append mt_append (pv 3) (pa_cons (pe_tup (pa_cons pe_str (pa_cons (pe_c C__law_take hg (hr.mono (by decide)) rfl (pa_cons (pv 0) (pa_cons (pv 2) pa_nil))) (pa_cons pe_int (pa_cons (pe_tup (pa_cons (pe_c C__law_lowest hg (hr.mono (by decide)) rfl (pa_cons (pe_op op_sub (pe_c C__law_take hg (hr.mono (by decide)) rfl (pa_cons (pv 0) (pa_cons (pe_op op_ml pe_int (pv 4)) pa_nil))) (pv 4)) (pa_cons (pv 4) pa_nil))) pa_nil)) pa_nil))))) pa_nil))))) pss_nil)
    (pss_cons (ps_set (i := 5) sc__law_case.nd rfl (Or.inl rfl) (pe_c C__law_statements hg (hr.mono (by decide)) rfl (pa_cons (pv 0) (pa_cons (pv 3) (pa_cons (pv 2) (pa_cons (pv 1) pa_nil))))))
    (pss_one (ps_ret (pe_tup (pa_cons (pv 3) (pa_cons (pv 5) (pa_cons (pv 2) (pa_cons (pe_c C__law_grain hg (hr.mono (by decide)) rfl (pa_cons (pv 3) pa_nil)) pa_nil))))))))))), ?_⟩
  walk_at "rd_6"
  refine ⟨b, 12, rfl, hb, by decide, by decide, fun r1 J1 r1a r1b k1 g1 => ?_⟩
  obtain ⟨r, rfl⟩ := Int.eq_ofNat_of_zero_le r1a
  walk_at "rd_6"
  rw [show (2 : Int) + (r : Int) = ((2 + r : Nat) : Int) by omega]
  have hl13 : 2 ≤ 2 + r ∧ 2 + r ≤ 13 := by omega
  generalize 2 + r = last at hl13 ⊢
  clear r1a r1b
  refine ⟨b, last, 3, rfl, g1, by omega, by omega, fun l ws es J2 nl nHl hl t lw ha hf k2 g2 => ?_⟩
  have K2 := k1.trans k2
  have nHl := k1.free g1 nHl
  clear k1 k2 g1
  walk_at "rd_6"
  refine ⟨b, 4, rfl, g2, by decide, by decide, fun r3 J3 r3a r3b k3 g3 => ?_⟩
  have hl3 := k3 _ _ nl hl
  have t3 := t.mono fun p xs h => k3.tup g2 h
  have K3 := K2.trans k3
  clear hl t K2 k3 g2
  -- what follows once the entries stand
  have rest : ∀ (ws : List V) (es : List Ent) (J : Hp) (σ : L2.St), J l = some (.lst ws) → EntsAt J ws es → ws.length ≤ 4 → (∀ e ∈ es, AmOk e) → (∀ e ∈ es, e.first + e.many ≤ last + 1) → Kp b H J → Bag b J →
      ∀ (s p : Addr) (us : List V) (ss : List Stm) (J4 J6 : Hp) (G : Nat), s ≠ b → J s = none → J4 s = some (.lst us) → StmsAt J4 us ss → us.length ≤ most → (∀ x ∈ ss, 1 ≤ x.many ∧ x.first + x.many ≤ last + 1 ∧ Bd 700 x.num) → Kp b J J4 → Bag b J4 →
        0 < G → G ≤ 2 ^ (80 * ws.length) → (∀ e ∈ es, Fits G e.am) → Same J4 J6 → J6 p = some (.tup [.ref l, .ref s, .int (last : Int), .int (G : Int)]) → Q (.ref p) J6 := by
    intro ws es J σ hl t lw ha hf kJ gJ s p us ss J4 J6 G ns nJs hs u lu ok k4 g4 g0 gb gf s6 e6
    have G320 : G ≤ 2 ^ 320 := Nat.le_trans gb (Nat.pow_le_pow_right (by decide) (by omega))
    have ln := t.len
    have lu2 := u.len
    refine q p l s es ss last G J6 e6 ⟨⟨ws, s6 _ _ (k4 _ _ nl hl), t.mono fun p xs h => s6 _ _ (k4.tup gJ h), gf, g0, Nat.lt_of_le_of_lt G320 (Nat.pow_lt_pow_right (by decide) (by decide)), by omega⟩, G320, by omega, hf, hl13.1, hl13.2, ⟨us, s6 _ _ hs, u.mono fun p xs h => s6 _ _ h⟩, ok⟩ ha (by omega) nl ns (ne_of_none hl nJs) nHl (kJ.free gJ nJs) (kJ.trans (k4.trans (Kp.of s6))) (g4.same s6)
  walk_at "rd_6"
  refine rd_if (fun c => ?_) (fun c => ?_)
  · walk_at "rd_6"
    rename_i p4 J4 n4 s4 e4
    have m4 : p4 ≠ b := g3.ne n4
    have g4 := g3.same s4
    refine ⟨b, 3, rfl, g4, by decide, by decide, fun r5 J5 r5a r5b k5 g5 => ?_⟩
    refine rd_pick (k5 _ _ m4 e4) r5a r5b fun v hv => ?_
    obtain ⟨u, rfl, u1, u2⟩ : ∃ u : Int, v = .int u ∧ 1 ≤ u ∧ u ≤ 1000000 := by
      simp only [List.mem_cons, List.not_mem_nil, or_false] at hv
      rcases hv with rfl | rfl | rfl
      · exact ⟨_, rfl, by decide, by decide⟩
      · exact ⟨_, rfl, by rw [ten6]; decide, by rw [ten6]; decide⟩
      · exact ⟨_, rfl, by decide, by decide⟩
    have k35 : Kp b J3 J5 := (Kp.of s4).trans k5
    have hl5 := k35 _ _ nl hl3
    have t5 := t3.mono fun p xs h => k35.tup g3 h
    have K5 := K3.trans k35
    clear hv hl3 t3 K3 s4 k5 k35 g3 g4 e4 m4 n4
    walk_at "rd_6"
    refine ⟨b, last, rfl, g5, by omega, by omega, fun r6 J6 r6a r6b k6 g6 => ?_⟩
    obtain ⟨first, rfl⟩ := Int.eq_ofNat_of_zero_le r6a
    have hl6 := k6 _ _ nl hl5
    have t6 := t5.mono fun p xs h => k6.tup g5 h
    have K6 := K5.trans k6
    clear hl5 t5 K5 k6 g5
    walk_at "rd_6"
    refine ⟨b, 2 * u, rfl, g6, by omega, by omega, fun r7 J7 r7a r7b k7 g7 => ?_⟩
    have hl7 := k7 _ _ nl hl6
    have t7 := t6.mono fun p xs h => k7.tup g6 h
    have K7 := K6.trans k7
    clear hl6 t6 K6 k7 g6
    walk_at "rd_6"
    refine ⟨r7 - u, u, rfl, by omega, Bd.mono (m := 20) (by unfold Bd; omega) (by decide), fun x y p8 J8 low n8 s8 e8 => ?_⟩
    walk_at "rd_6"
    rename_i p9 J9 n9 s9 e9 p10 J10 n10 s10 e10
    have s80 := Same.trans s8 (Same.trans s9 s10)
    have hl10 := s80 _ _ hl7
    have t10 := t7.mono fun p xs h => s80 _ _ h
    have nHl10 : l ≠ p10 := ne_of_none hl7 (Same.free s8 (Same.free s9 n10))
    have e810 := s10 _ _ (s9 _ _ e8)
    have e910 := s10 _ _ e9
    have K10 := K7.trans (Kp.of s80)
    have g10 := g7.same s80
    have bx : Bd 20 x := by have := low.2.2.2.1; unfold Bd; omega
    have bu : Bd 20 y := by have := low.2.2.2.2; unfold Bd; omega
    have xy : x.natAbs ≤ 1000000 ∧ y ≤ 1000000 := by have := low.2.2.2.1; have := low.2.2.2.2; omega
    clear hl7 t7 K7 g7 s80 s8 s9 s10 n8 n9 n10 e8 e9
    have ln := t10.len
    refine rd_appK hl10 (by omega) fun J11 p11 e11 => ?_
    have t11 : EntsAt J11 (ws ++ [.ref p10]) (es ++ [⟨first, 1, [(x, y)]⟩]) := (t10.mono fun p xs h => p11.tup h).snoc ⟨p10, p9, _, rfl, p11.tup e10, p11.tup e910, .cons (p11.tup e810) low.1 low.2.1 bx bu .nil, by simp, by simp, by show first + 1 ≤ 10 ^ 30; omega, Nat.le_refl 1⟩
    have K11 : Kp b H J11 := K10.pu p11 nHl
    have g11 := p11.bag nl g10
    have hf11 : ∀ e ∈ es ++ [(⟨first, 1, [(x, y)]⟩ : Ent)], e.first + e.many ≤ last + 1 := fun e he => by
      rcases List.mem_append.mp he with he | he
      · exact hf e he
      · obtain rfl := List.mem_singleton.mp he
        show first + 1 ≤ last + 1
        omega
    have ha11 : ∀ e ∈ es ++ [(⟨first, 1, [(x, y)]⟩ : Ent)], AmOk e := fun e he => (List.mem_append.mp he).elim (ha e) fun h => by
      obtain rfl := List.mem_singleton.mp h
      intro r hr
      obtain rfl := List.mem_singleton.mp hr
      exact xy
    clear t10 hl10 K10 g10 e810 e910 e10 p11
    walk_at "rd_6"
    refine ⟨b, l, es ++ [⟨first, 1, [(x, y)]⟩], last, most, rfl, g11, nl, ⟨_, e11, t11, by rw [List.length_append, List.length_singleton]; omega⟩, by omega, m100, fun s us ss J4 ns nJs hs u' lu ok k4 g4 => ?_⟩
    walk_at "rd_6"
    refine ⟨l, _, _, rfl, k4 _ _ nl e11, t11.mono fun p xs h => k4.tup g11 h, by rw [List.length_append, List.length_singleton]; omega, fun G g0 gb gf => ?_⟩
    walk_at "rd_6"
    rename_i p12 J12 n12 s12 e12
    exact rest _ _ J11 [] e11 t11 (by rw [List.length_append, List.length_singleton]; omega) ha11 hf11 K11 g11 s p12 us ss J4 J12 G ns nJs hs u' lu ok k4 g4 g0 gb gf s12 e12
  · walk_at "rd_6"
    refine ⟨b, l, es, last, most, rfl, g3, nl, ⟨_, hl3, t3, by omega⟩, by omega, m100, fun s us ss J4 ns nJs hs u' lu ok k4 g4 => ?_⟩
    walk_at "rd_6"
    refine ⟨l, _, _, rfl, k4 _ _ nl hl3, t3.mono fun p xs h => k4.tup g3 h, by omega, fun G g0 gb gf => ?_⟩
    walk_at "rd_6"
    rename_i p12 J12 n12 s12 e12
    exact rest _ _ J3 [] hl3 t3 (by omega) ha hf K3 g3 s p12 us ss J4 J12 G ns nJs hs u' lu ok k4 g4 g0 gb gf s12 e12

/-! ### the points, the ends of stretches -/
/-- ptU of the days -/
def ptL (G : Nat) (es : List Ent) (ds : List Nat) : List Int := ds.map fun d => ((ptU G (bS G es d) : Nat) : Int)
def sp__law_points (K : PySem.W.Frag) : Sp := fun vs H Q _ => ∃ (l m : Addr) (es : List Ent) (ds : List Nat) (G : Nat), vs = [.ref l, .ref m, .int (G : Int)] ∧ Led H l es G ∧ H m = some (.lst (ds.map nV)) ∧ ds.length ≤ 72 ∧
  ∀ (ps : List Nat) z J, Same H J → H z = none → J z = some (.lst (ps.map nV)) → ps.Pairwise (· < ·) → (∀ p, p ∈ ps ↔ p = 0 ∨ ∃ d ∈ ds, p = ptU G (bS G es d)) → ps.length ≤ 73 → Q (.ref z) J
theorem ar__law_points (K : PySem.W.Frag) : ∀ vs H Q E, sp__law_points K vs H Q E → vs.length = 3 := by
  intro vs H Q E h
  obtain ⟨l, m, es, ds, G, rfl, _⟩ := h
  rfl
abbrev N__law_points : List Str := ["_law_entries_here", "_law_days", "_law_grain_here", "_law_day"]
theorem sc__law_points : FnScope N__law_points ["_law_entries_here", "_law_days", "_law_grain_here"] (defScope S__law_points) := ⟨rfl, rfl, rfl, by decide +kernel, rfl, by decide +kernel, by decide +kernel⟩
theorem ok__law_points {P : Program} {w : World} {K : PySem.W.Frag} {mg : Str → Option Value} {base : Heap} {f : Addr} {fd : FuncData} (F : Fun K "_law_points" "_law_points" S__law_points f fd) {f__law_before : Addr} {fd__law_before : FuncData} (C__law_before : Cal P w K mg base "_law_before" 1 f__law_before fd__law_before ["_law_entries_here", "_law_day", "_law_grain_here"] (sp__law_before K)) (m_set : mg "set" = none) (m_sorted : mg "sorted" = none) :
    FnG P w K mg base CX0 2 f fd ["_law_entries_here", "_law_days", "_law_grain_here"] (sp__law_points K) := by
  refine Fun_okG F sc__law_points (ar__law_points K) (fun cdv A outer s H vs Q E hg hr h => ?_)
  obtain ⟨l, m, es, ds, G, rfl, L, hm, ld, q⟩ := h
  refine ⟨_, (pss_one (ps_ret (pe_callB (id := "sorted") (sortAK (w := w) rfl rfl) (by rfl) m_sorted (by decide +kernel) (pa_cons (pe_callTy (T := "set") (setIK (w := w) (K := K) rfl rfl rfl) (by rfl) m_set (by decide +kernel) (pa_cons (pe_op op_cat (pe_lst (pa_cons pe_int pa_nil)) (pe_lc (own := [("_law_day", 3)]) rfl sc__law_points.nd (piL (K := K) rfl (pv 1)) (blkOk_by (own := [("_law_day", 3)]) (N := N__law_points) (sc := defScope S__law_points) (by decide +kernel)) (fun _ _ _ _ _ => (pg_name (i := 3) sc__law_points.nd rfl (Or.inl rfl))) (fun _ _ _ _ _ => pts_nil) (fun _ _ _ _ _ => (pe_op op_modN (pe_un un_neg (pe_c C__law_before hg (hr.mono (by decide)) rfl (pa_cons (pv 0) (pa_cons (pv 3) (pa_cons (pv 2) pa_nil))))) (pv 2))))) pa_nil)) pa_nil)))), ?_⟩
  have g0 := L.pos
  have g1 := L.lt
  have bG : Bd 500 (G : Int) := g1
  have gz : (G : Int) ≠ 0 := by omega
  walk_at "rd_6"
  rename_i p1 J1 n1 s1 e1
  intro D nD
  have nm : m ≠ D := ne_of_none (s1 _ _ hm) nD
  refine lc_growL (fun ys J => ys = ((ptL G es ds).take ys.length).map V.int) (s1 _ _ hm) (by rw [List.length_map]; omega) nD (fun J k => by simp) (fun i v ys J hx i5 ly k hD hP => ?_) fun ys J ly k hD hP => ?_
  · rw [List.getElem?_map] at hx
    obtain ⟨d, ed, rfl⟩ := Option.map_eq_some_iff.mp hx
    have LJ : Led J l es G := (L.same s1).same fun a o h => k a o (ne_of_none h nD) h
    walk_at "rd_6"
    refine ⟨rfl, ?_⟩
    walk_at "rd_6"
    refine ⟨l, es, d, G, rfl, LJ, fun J2 s2 => ?_⟩
    walk_at "rd_6"
    rw [← (ptU_eq g0 _).1]
    refine lcEnd_mk (s2 _ _ hD) ly i5 (k.trans (Kp.of s2)) fun J4 p4 e4 => ?_
    have e : (ptL G es ds)[i]? = some ((ptU G (bS G es d) : Nat) : Int) := by
      unfold ptL
      rw [List.getElem?_map, ed]
      rfl
    rw [List.length_append, List.length_singleton, ly, List.take_add_one, e, List.map_append]
    rw [ly] at hP
    rw [← hP]
    rfl
  · rw [List.length_map] at ly
    have lp : (ptL G es ds).length = ds.length := by
      unfold ptL
      rw [List.length_map]
    rw [ly, ← lp, List.take_length] at hP
    have sJ : Same J1 J := fun a o h => k a o (ne_of_none h nD) h
    refine rd_catK (sJ _ _ e1) hD (by rw [List.length_singleton]; omega) fun p2 J2 n2 s2 e2 => ?_
    walk_at "rd_6"
    refine rd_setI (ns := 0 :: ptL G es ds) (SqL.of e2) (by rw [hP]; rfl) (by rw [List.length_cons]; omega) fun p3 J3 S n ln hS n3 s3 e3 => ?_
    rw [List.length_cons] at ln
    walk_at "rd_6"
    refine rd_sortA e3 (by omega) fun ns z J4 pw mem len n4 s4 e4 => ?_
    have h2 : Same H J2 := Same.trans s1 (Same.trans sJ s2)
    have pos : ∀ x ∈ ns, ∃ u : Nat, x = (u : Int) := fun x hx => by
      rcases List.mem_cons.mp ((hS x).mp ((mem x).mp hx)) with rfl | hx
      · exact ⟨0, rfl⟩
      · obtain ⟨d, _, rfl⟩ := List.mem_map.mp hx
        exact ⟨_, rfl⟩
    have en : ns = (ns.map Int.toNat).map fun u : Nat => (u : Int) := by
      rw [List.map_map]
      refine (List.map_id ns).symm.trans (List.map_congr_left fun x hx => ?_)
      obtain ⟨u, rfl⟩ := pos x hx
      rfl
    have memN : ∀ p : Nat, p ∈ ns.map Int.toNat ↔ (p : Int) ∈ ns := fun p => by
      constructor
      · intro h
        obtain ⟨x, hx, rfl⟩ := List.mem_map.mp h
        obtain ⟨u, rfl⟩ := pos x hx
        exact hx
      · intro h
        exact List.mem_map.mpr ⟨_, h, rfl⟩
    refine q (ns.map Int.toNat) z J4 (Same.trans h2 (Same.trans s3 s4)) (Same.free (Same.trans h2 s3) n4) ?_ ?_ (fun p => ?_) (by rw [List.length_map]; omega)
    · rw [e4]
      congr 2
      conv => lhs; rw [en]
      simp only [List.map_map]
      rfl
    · rw [en, List.pairwise_map] at pw
      exact pw.imp fun h => by omega
    · rw [memN, mem, hS, List.mem_cons]
      refine or_congr (by omega) ⟨fun h => ?_, fun h => ?_⟩
      · obtain ⟨d, hd, e⟩ := List.mem_map.mp h
        exact ⟨d, hd, by omega⟩
      · obtain ⟨d, hd, rfl⟩ := h
        exact List.mem_map.mpr ⟨d, hd, rfl⟩
def endsL (ps : List (Nat × Nat)) : List Nat := ps.flatMap fun r => [r.1, r.1 + r.2]
theorem endsL_take {ps : List (Nat × Nat)} {i : Nat} {r : Nat × Nat} (e : ps[i]? = some r) : endsL (ps.take (i + 1)) = endsL (ps.take i) ++ [r.1, r.1 + r.2] := by
  unfold endsL
  rw [List.take_add_one, e, List.flatMap_append]
  simp
theorem endsL_len (ps : List (Nat × Nat)) : (endsL ps).length = 2 * ps.length := by
  induction ps with
  | nil => rfl
  | cons r t ih =>
    unfold endsL at ih ⊢
    rw [List.flatMap_cons, List.length_append, ih]
    simp
    omega
def sp__law_ends (K : PySem.W.Frag) : Sp := fun vs H Q _ => ∃ (l : Addr) (rs : List V) (ps : List (Nat × Nat)), vs = [.ref l] ∧ H l = some (.lst rs) ∧ PrsAt H rs ps ∧ rs.length ≤ 30 ∧
  ∀ z J, Same H J → H z = none → J z = some (.lst ((endsL ps).map nV)) → Q (.ref z) J
theorem ar__law_ends (K : PySem.W.Frag) : ∀ vs H Q E, sp__law_ends K vs H Q E → vs.length = 1 := by
  intro vs H Q E h
  obtain ⟨l, rs, ps, rfl, _⟩ := h
  rfl
abbrev N__law_ends : List Str := ["_law_stretches", "_law_found", "_law_first", "_law_many"]
theorem sc__law_ends : FnScope N__law_ends ["_law_stretches"] (defScope S__law_ends) := ⟨rfl, rfl, rfl, by decide +kernel, rfl, by decide +kernel, by decide +kernel⟩
theorem ok__law_ends {P : Program} {w : World} {K : PySem.W.Frag} {mg : Str → Option Value} {base : Heap} {f : Addr} {fd : FuncData} (F : Fun K "_law_ends" "_law_ends" S__law_ends f fd) :
    FnG P w K mg base CX0 1 f fd ["_law_stretches"] (sp__law_ends K) := by
  refine Fun_okG F sc__law_ends (ar__law_ends K) (fun cdv A outer s H vs Q E hg hr h => ?_)
  obtain ⟨l, rs, ps, rfl, hl, pr, lr, q⟩ := h
  refine ⟨_, (pss_cons (ps_set (i := 1) sc__law_ends.nd rfl (Or.inl rfl) (pe_lst pa_nil))
    (pss_cons (ps_for PassesOwn.never rfl (piL (K := K) rfl (pv 0)) (pgT (K := K) rfl rfl (pgs_cons (pg_name (i := 2) sc__law_ends.nd rfl (Or.inl rfl)) (pgs_cons (pg_name (i := 3) sc__law_ends.nd rfl (Or.inl rfl)) pgs_nil))) (pss_one (ps_expr (pe_bm PySem.F.plainAttrs_list PySem.F.slot_list_extend PySem.F.type_list_extend mt_extend (pv 1) (pa_cons (pe_lst (pa_cons (pv 2) (pa_cons (pe_op op_add (pv 2) (pv 3)) pa_nil))) pa_nil)))))
    (pss_one (ps_ret (pv 1))))), ?_⟩
  have ln := pr.len
  walk_at "rd_6"
  rename_i p1 J1 n1 s1 e1
  refine lp_lst (xs := rs) (fun i σ' M => (∃ (o2 o3 : Option V), σ' = [some (.ref l), some (.ref p1), o2, o3]) ∧ Same H M ∧ M p1 = some (.lst ((endsL (ps.take i)).map nV)))
    ⟨⟨none, none, rfl⟩, s1, e1⟩ (fun i σ M _ w => ?_) (fun i r σ M hr w => ?_) (fun σ M w => ?_)
  · obtain ⟨⟨o2, o3, rfl⟩, s, e⟩ := w
    exact SqL.of (s _ _ hl)
  · obtain ⟨⟨o2, o3, rfl⟩, s, e⟩ := w
    obtain ⟨c, lo, hi, rfl, er, hc⟩ := pr.get hr
    have hc := s _ _ hc
    have l1 : ((endsL (ps.take i)).map nV).length ≤ 60 := by
      rw [List.length_map, endsL_len]
      have := List.length_take_le i ps
      have := List.length_take_le' i ps
      omega
    walk_at "rd_6"
    rename_i p2 J2 n2 s2 e2
    refine rd_extK (s2 _ _ e) e2 (Nat.le_trans (Nat.add_le_add_right l1 2) (by decide)) fun J3 p3 e3 => ?_
    walk_at "rd_6"
    refine ⟨⟨_, _, rfl⟩, fun a o h => p3.1 _ _ (ne_of_none h n1) (s2 _ _ (s _ _ h)), ?_⟩
    rw [e3, endsL_take er, List.map_append, ← Int.natCast_add]
    rfl
  · obtain ⟨⟨o2, o3, rfl⟩, s, e⟩ := w
    rw [ln, List.take_length] at e
    walk_at "rd_6"
    exact q p1 M s n1 e

/-! ### lists of ints compared -/
theorem dp_ints {K : PySem.W.Frag} {H : Hp} : ∀ ns : List Int, DpAll K H (ns.map V.int) (ns.map PyData.int)
  | [] => .nil
  | n :: ns => .cons (.int n) (dp_ints ns)
theorem eqv_ints : ∀ ns ms : List Int, PyData.eqvAll (ns.map PyData.int) (ms.map PyData.int) = decide (ns = ms)
  | [], [] => by simp [PyData.eqvAll]
  | [], t :: ts => by simp [PyData.eqvAll]
  | s :: ss, [] => by simp [PyData.eqvAll]
  | s :: ss, t :: ts => by
    rw [List.map_cons, List.map_cons, PyData.eqvAll, eqv_ints ss ts]
    by_cases h1 : s = t <;> by_cases h2 : ss = ts <;> simp [PyData.eqv, h1, h2]
theorem lay_ints : ∀ ns : List Int, PyData.canLayAll0 (ns.map PyData.int) = true ∧ PyData.depthAll (ns.map PyData.int) ≤ 1
  | [] => by simp [PyData.canLayAll0, PyData.depthAll]
  | n :: ns => by
    obtain ⟨a, b⟩ := lay_ints ns
    simp [PyData.canLayAll0, PyData.canLay0, PyData.depthAll, PyData.depth, a]
    try omega
theorem rd_eqIs {K : PySem.W.Frag} {H : Hp} {Q : VK} {a b : Addr} {ns ms : List Int} (h : SqL K H a (ns.map V.int)) (k : SqL K H b (ms.map V.int)) (q : Q (.bl (decide (ns = ms))) H) : rEqD K (.ref a) (.ref b) H Q := by
  obtain ⟨a1, a2⟩ := lay_ints ns
  obtain ⟨b1, b2⟩ := lay_ints ms
  refine ⟨_, _, Dp.lst h (dp_ints ns), Dp.lst k (dp_ints ms), ?_, ?_, ?_⟩
  · have z : PyData.depthAll (ns.map PyData.int) + 1 ≤ 64 := by omega
    simp [SeqAt.shaped, PyData.canLay0, PyData.depth, a1, z]
  · have z : PyData.depthAll (ms.map PyData.int) + 1 ≤ 64 := by omega
    simp [SeqAt.shaped, PyData.canLay0, PyData.depth, b1, z]
  · have e : PyData.eqv (.list (ns.map PyData.int)) (.list (ms.map PyData.int)) = decide (ns = ms) := by
      rw [PyData.eqv, eqv_ints]
    rw [e]
    exact q
def stP (s : Stm) : Nat × Nat := (s.first, s.many)
def saidL (G : Nat) (es : List Ent) (ss : List Stm) (u : Nat) : List Int := ss.map fun s => toldN G es (u : Int) s.first s.many
def okU (G : Nat) (es : List Ent) (ss : List Stm) (u : Nat) : Bool := decide (saidL G es ss u = ss.map Stm.num)
def Pts (G : Nat) (es : List Ent) (ds : List Nat) (ps : List Nat) : Prop := ps.Pairwise (· < ·) ∧ (∀ p, p ∈ ps ↔ p = 0 ∨ ∃ d ∈ ds, p = ptU G (bS G es d)) ∧ ps.length ≤ 73
def sp__law_left (K : PySem.W.Frag) : Sp := fun vs H Q _ => ∃ (l sl dl : Addr) (es : List Ent) (sws : List V) (ss : List Stm) (ds : List Nat) (G : Nat), vs = [.ref l, .ref sl, .ref dl, .int (G : Int)] ∧ Led H l es G ∧ H sl = some (.lst sws) ∧ StmsAt H sws ss ∧ sws.length ≤ 24 ∧ H dl = some (.lst (ds.map nV)) ∧ ds.length ≤ 24 ∧
  ∀ (ps : List Nat) z J, Same H J → H z = none → Pts G es (ds ++ endsL (ss.map stP)) ps → J z = some (.lst ((ps.filter (okU G es ss)).map nV)) → Q (.ref z) J
theorem ar__law_left (K : PySem.W.Frag) : ∀ vs H Q E, sp__law_left K vs H Q E → vs.length = 4 := by
  intro vs H Q E h
  obtain ⟨l, sl, dl, es, sws, ss, ds, G, rfl, _⟩ := h
  rfl
abbrev N__law_left : List Str := ["_law_entries_here", "_law_statements_here", "_law_days", "_law_grain_here", "_law_stretches", "_law_word", "_law_first", "_law_many", "_law_number", "_law_found", "_law_unit", "_law_said", "_law_statement"]
theorem sc__law_left : FnScope N__law_left ["_law_entries_here", "_law_statements_here", "_law_days", "_law_grain_here"] (defScope S__law_left) := ⟨rfl, rfl, rfl, by decide +kernel, rfl, by decide +kernel, by decide +kernel⟩
theorem ok__law_left {P : Program} {w : World} {K : PySem.W.Frag} {mg : Str → Option Value} {base : Heap} {f : Addr} {fd : FuncData} (F : Fun K "_law_left" "_law_left" S__law_left f fd) {f__law_points : Addr} {fd__law_points : FuncData} (C__law_points : Cal P w K mg base "_law_points" 2 f__law_points fd__law_points ["_law_entries_here", "_law_days", "_law_grain_here"] (sp__law_points K)) {f__law_ends : Addr} {fd__law_ends : FuncData} (C__law_ends : Cal P w K mg base "_law_ends" 1 f__law_ends fd__law_ends ["_law_stretches"] (sp__law_ends K)) {f__law_told : Addr} {fd__law_told : FuncData} (C__law_told : Cal P w K mg base "_law_told" 2 f__law_told fd__law_told ["_law_entries_here", "_law_unit", "_law_first", "_law_many", "_law_grain_here"] (sp__law_told K)) (m_list : mg "list" = none) :
    FnG P w K mg base CX0 3 f fd ["_law_entries_here", "_law_statements_here", "_law_days", "_law_grain_here"] (sp__law_left K) := by
  refine Fun_okG F sc__law_left (ar__law_left K) (fun cdv A outer s H vs Q E hg hr h => ?_)
  obtain ⟨l, sl, dl, es, sws, ss, ds, G, rfl, L, hs, st, lw, hd, ld, q⟩ := h
  refine ⟨_, (pss_cons (ps_setLc (i := 4) (own := [("_law_word", 5), ("_law_first", 6), ("_law_many", 7), ("_law_number", 8)]) (g := (gTup K 4 (gCons (gName 5) (gCons (gName 6) (gCons (gName 7) (gCons (gName 8) gNil)))))) rfl sc__law_left.nd rfl rfl (sw_true rfl rfl rfl (by decide +kernel)) (piL (K := K) rfl (pv 1)) (blkOk_by (own := [("_law_word", 5), ("_law_first", 6), ("_law_many", 7), ("_law_number", 8)]) (N := N__law_left) (sc := defScope S__law_left) (by decide +kernel)) (fun _ _ _ _ _ => (pgT rfl rfl (pgs_cons (pg_name (i := 5) sc__law_left.nd rfl (Or.inl rfl)) (pgs_cons (pg_name (i := 6) sc__law_left.nd rfl (Or.inl rfl)) (pgs_cons (pg_name (i := 7) sc__law_left.nd rfl (Or.inl rfl)) (pgs_cons (pg_name (i := 8) sc__law_left.nd rfl (Or.inl rfl)) pgs_nil)))))) (fun _ _ _ _ _ => pts_nil) (fun _ _ _ _ _ => (pe_tup (pa_cons (pv 6) (pa_cons (pv 7) pa_nil)))))
    (pss_cons (ps_set (i := 9) sc__law_left.nd rfl (Or.inl rfl) (pe_lst pa_nil))
    (pss_cons (ps_for PassesOwn.never rfl (piL (K := K) rfl (pe_c C__law_points hg (hr.mono (by decide)) rfl (pa_cons (pv 0) (pa_cons (pe_op op_cat (pe_callTy (T := "list") (lstK (K := K) rfl) (by rfl) m_list (by decide +kernel) (pa_cons (pv 2) pa_nil)) (pe_c C__law_ends hg (hr.mono (by decide)) rfl (pa_cons (pv 4) pa_nil))) (pa_cons (pv 3) pa_nil))))) (pg_name (i := 10) sc__law_left.nd rfl (Or.inr rfl)) (pss_cons (ps_setLc (i := 11) (own := [("_law_word", 5), ("_law_first", 6), ("_law_many", 7), ("_law_number", 8)]) (g := (gTup K 4 (gCons (gName 5) (gCons (gName 6) (gCons (gName 7) (gCons (gName 8) gNil)))))) rfl sc__law_left.nd rfl rfl (sw_true rfl rfl rfl (by decide +kernel)) (piL (K := K) rfl (pv 1)) (blkOk_by (own := [("_law_word", 5), ("_law_first", 6), ("_law_many", 7), ("_law_number", 8)]) (N := N__law_left) (sc := defScope S__law_left) (by decide +kernel)) (fun _ _ _ _ _ => (pgT rfl rfl (pgs_cons (pg_name (i := 5) sc__law_left.nd rfl (Or.inl rfl)) (pgs_cons (pg_name (i := 6) sc__law_left.nd rfl (Or.inl rfl)) (pgs_cons (pg_name (i := 7) sc__law_left.nd rfl (Or.inl rfl)) (pgs_cons (pg_name (i := 8) sc__law_left.nd rfl (Or.inl rfl)) pgs_nil)))))) (fun _ _ _ _ _ => pts_nil) (fun _ _ _ _ _ => (pe_c C__law_told hg (hr.mono (by decide)) rfl (pa_cons (pv 0) (pa_cons (pv 10) (pa_cons (pv 6) (pa_cons (pv 7) (pa_cons (pv 3) pa_nil))))))))
    (pss_one (ps_if (pt_cmpR (eqK (K := K) rfl (room_u hr)) (pv 11) (pe_lc (own := [("_law_statement", 12)]) rfl sc__law_left.nd (piL (K := K) rfl (pv 1)) (blkOk_by (own := [("_law_statement", 12)]) (N := N__law_left) (sc := defScope S__law_left) (by decide +kernel)) (fun _ _ _ _ _ => (pg_name (i := 12) sc__law_left.nd rfl (Or.inl rfl))) (fun _ _ _ _ _ => pts_nil) (fun _ _ _ _ _ => (pe_ix (ixK (K := K) rfl) (pv 12) pe_int (fun _ _ => rfl)))) (nomark _)) (pss_one (ps_expr (pe_bm PySem.F.plainAttrs_list PySem.F.slot_list_append PySem.F.type_list_append mt_append (pv 9) (pa_cons (pv 10) pa_nil)))) pss_nil))))
    (pss_one (ps_ret (pv 9)))))), ?_⟩
  have ln := st.len
  walk_at "rd_6"
  intro D nD
  refine lc_growL (fun ys J => PrsAt J ys ((ss.map stP).take ys.length)) hs (by omega) nD (fun J k => by simp; exact .nil) (fun i v ys J hx i5 ly k hD hP => ?_) fun ys J ly k hD hP => ?_
  · obtain ⟨s, es', c, rfl, hc⟩ := st.get hx
    have hc := k _ _ (ne_of_none hc nD) hc
    walk_at "rd_6"
    refine ⟨rfl, ?_⟩
    walk_at "rd_6"
    rename_i p2 J2 n2 s2 e2
    refine lcEnd_mk (s2 _ _ hD) ly i5 (k.trans (Kp.of s2)) fun J4 p4 e4 => ?_
    have e : (ss.map stP)[i]? = some (s.first, s.many) := by
      rw [List.getElem?_map, es']
      rfl
    rw [List.length_append, List.length_singleton, ly, List.take_add_one, e]
    rw [ly] at hP
    exact (hP.mono fun p xs h => p4.tup (s2 _ _ h)).app (.cons (p4.tup e2) .nil)
  have s1 : Same H J := fun a o h => k a o (ne_of_none h nD) h
  rw [ly, ln, ← List.length_map (f := stP) (as := ss), List.take_length] at hP
  walk_at "rd_6"
  rename_i p1 J1 n1 sJ1 e1
  have nf : H p1 = none := Same.free s1 n1
  refine rd_lstOf (SqL.of (sJ1 _ _ (s1 _ _ hd))) fun p3 J3 n3 s3 e3 => ?_
  walk_at "rd_6"
  have hP3 : PrsAt J3 ys (ss.map stP) := hP.mono fun p xs h => s3 _ _ (sJ1 _ _ h)
  refine ⟨D, ys, ss.map stP, rfl, s3 _ _ (sJ1 _ _ hD), hP3, by omega, fun z4 J4 s4 n4 e4 => ?_⟩
  have le4 : (endsL (ss.map stP)).length ≤ 48 := by
    rw [endsL_len, List.length_map]
    omega
  refine rd_catK (s4 _ _ e3) e4 (by rw [List.length_map, List.length_map]; omega) fun p5 J5 n5 s5 e5 => ?_
  walk_at "rd_6"
  have t5 : Same J1 J5 := Same.trans s3 (Same.trans s4 s5)
  have h5 : Same H J5 := Same.trans s1 (Same.trans sJ1 t5)
  rw [← List.map_append] at e5
  refine ⟨l, p5, es, ds ++ endsL (ss.map stP), G, rfl, L.same h5, e5, by rw [List.length_append]; omega, fun ps zp J6 s6 n6 e6 pw mem len => ?_⟩
  have e16 := s6 _ _ (t5 _ _ e1)
  have h6 : Same H J6 := Same.trans h5 s6
  have np : zp ≠ p1 := fun z => by
    subst z
    rw [t5 _ _ e1] at n6
    cases n6
  clear s1 k hD hP nD sJ1 s3 e3 hP3 s4 e4 n4 n5 s5 e5 t5 h5 n6 n3
  refine ⟨zp, rfl, ⟨_, SqL.of e6⟩, ?_⟩
  refine lp_lst (xs := ps.map nV) (fun i σ' M => (∃ (o5 o6 o7 o8 o10 o11 o12 : Option V), σ' = [some (.ref l), some (.ref sl), some (.ref dl), some (.int (G : Int)), some (.ref D), o5, o6, o7, o8, some (.ref p1), o10, o11, o12]) ∧ Same H M ∧ M zp = some (.lst (ps.map nV)) ∧ M p1 = some (.lst (((ps.take i).filter (okU G es ss)).map nV)))
    ⟨⟨none, none, none, none, none, none, none, rfl⟩, h6, e6, e16⟩ (fun i σ M _ w => ?_) (fun i r σ M hr w => ?_) (fun σ M w => ?_)
  · exact SqL.of w.2.2.1
  · obtain ⟨⟨o5, o6, o7, o8, o10, o11, o12, rfl⟩, sM, eM, fM⟩ := w
    rw [List.getElem?_map] at hr
    obtain ⟨u, eu, rfl⟩ := Option.map_eq_some_iff.mp hr
    have LM := L.same sM
    have hsM := sM _ _ hs
    have lf : (((ps.take i).filter (okU G es ss)).map nV).length ≤ 1000 := by
      rw [List.length_map]
      have h1 := List.length_filter_le (okU G es ss) (ps.take i)
      have h2 := List.length_take_le' i ps
      omega
    have nx : ∀ J, Same M J → (∀ o8 o10 o11 : Option V, True) → True := fun _ _ _ => trivial
    clear nx
    walk_at "rd_6"
    intro D7 nD7
    refine lc_sig (τ := [some (.ref l), some (.ref sl), some (.ref dl), some (.int (G : Int)), some (.ref D), o5, o6, o7, o8, some (.ref p1), some (nV u), o11, o12]) rfl ?_
    refine lc_growL (fun ys _ => ys = ((saidL G es ss u).take ys.length).map V.int) hsM (by omega) nD7 (fun J k => by simp) (fun j v ys J hx i5 ly k hD hP => ?_) fun ys J7 ly7 k7 hD7 hP7 => ?_
    · obtain ⟨s, es', c, rfl, hc⟩ := st.get hx
      have hc := k _ _ (ne_of_none (sM _ _ hc) nD7) (sM _ _ hc)
      have LJ : Led J l es G := LM.same fun a o h => k a o (ne_of_none h nD7) h
      walk_at "rd_6"
      refine ⟨rfl, ?_⟩
      walk_at "rd_6"
      refine ⟨l, es, (u : Int), s.first, s.many, G, rfl, LJ, fun J8 s8 => ?_⟩
      refine lcEnd_mk (s8 _ _ hD) ly i5 (k.trans (Kp.of s8)) fun J4 p4 e4 => ?_
      have e : (saidL G es ss u)[j]? = some (toldN G es (u : Int) s.first s.many) := by
        unfold saidL
        rw [List.getElem?_map, es']
        rfl
      rw [List.length_append, List.length_singleton, ly, List.take_add_one, e, List.map_append]
      rw [ly] at hP
      rw [← hP]
      rfl
    have lsd : (saidL G es ss u).length = ss.length := by
      unfold saidL
      rw [List.length_map]
    rw [ly7, ln, ← lsd, List.take_length] at hP7
    have s7 : Same M J7 := fun a o h => k7 a o (ne_of_none h nD7) h
    walk_at "rd_6"
    intro D9 nD9
    refine lc_sig (τ := [some (.ref l), some (.ref sl), some (.ref dl), some (.int (G : Int)), some (.ref D), o5, o6, o7, o8, some (.ref p1), some (nV u), some (.ref D7), o12]) rfl ?_
    refine lc_growL (fun ys _ => ys = ((ss.map Stm.num).take ys.length).map V.int) (s7 _ _ hsM) (by omega) nD9 (fun J k => by simp) (fun j v ys J hx i5 ly k hD hP => ?_) fun ys9 J9 ly9 k9 hD9 hP9 => ?_
    · obtain ⟨s, es', c, rfl, hc⟩ := st.get hx
      have hc := s7 _ _ (sM _ _ hc)
      have hc := k _ _ (ne_of_none hc nD9) hc
      walk_at "rd_6"
      refine ⟨rfl, ?_⟩
      walk_at "rd_6"
      refine lcEnd_mk hD ly i5 k fun J4 p4 e4 => ?_
      have e : (ss.map Stm.num)[j]? = some s.num := by
        rw [List.getElem?_map, es']
        rfl
      rw [List.length_append, List.length_singleton, ly, List.take_add_one, e, List.map_append]
      rw [ly] at hP
      rw [← hP]
      rfl
    rw [ly9, ln, ← List.length_map (f := Stm.num) (as := ss), List.take_length] at hP9
    have s9 : Same J7 J9 := fun a o h => k9 a o (ne_of_none h nD9) h
    rw [hP7] at hD7
    rw [hP9] at hD9
    have h9 : Same H J9 := Same.trans sM (Same.trans s7 s9)
    have eM9 := s9 _ _ (s7 _ _ eM)
    have fM9 := s9 _ _ (s7 _ _ fM)
    walk_at "rd_6"
    refine rd_eqIs (SqL.of (s9 _ _ hD7)) (SqL.of hD9) ?_
    walk_at "rd_6"
    refine rd_if (fun c => ?_) (fun c => ?_)
    · walk_at "rd_6"
      refine rd_appK fM9 lf fun JA pA eA => ?_
      walk_at "rd_6"
      refine ⟨⟨_, _, _, _, _, _, _, rfl⟩, fun a o h => pA.1 _ _ (ne_of_none h nf) (h9 _ _ h), pA.1 _ _ np eM9, ?_⟩
      rw [eA, List.take_add_one, eu, List.filter_append, List.map_append]
      have ok : okU G es ss u = true := decide_eq_true c
      simp [ok]
    · walk_at "rd_6"
      refine ⟨⟨_, _, _, _, _, _, _, rfl⟩, h9, eM9, ?_⟩
      rw [fM9, List.take_add_one, eu, List.filter_append, List.map_append]
      have ok : okU G es ss u = false := decide_eq_false c
      simp [ok]
  · obtain ⟨⟨o5, o6, o7, o8, o10, o11, o12, rfl⟩, sM, eM, fM⟩ := w
    rw [List.length_map, List.take_length] at fM
    walk_at "rd_6"
    exact q ps p1 M sM nf ⟨pw, mem, len⟩ fM

section
variable {K : PySem.W.Frag} {H : Hp}
theorem sql_same {J : Hp} {a : Addr} {xs : List V} (s : Same H J) (h : SqL K H a xs) : SqL K J a xs := by
  rcases h with (e | ⟨u, e⟩) | e
  · exact .inl (.inl (s _ _ e))
  · exact .inl (.inr ⟨u, s _ _ e⟩)
  · exact .inr e
theorem KvsAt.stok : ∀ {kvs : List (Key × V)} {its : List (Nat × Itm)}, KvsAt H kvs its → ∀ s ∈ stmsOf (its.map (·.2)), StOk s
  | _, _, .nil, _, m => by cases m
  | _, _, .cons (i := .en _) h t, s, m => t.stok s m
  | _, _, .cons (i := .st _) h t, s, m => by
    rcases List.mem_cons.mp m with rfl | m
    · exact h.2
    · exact t.stok s m
mutual
theorem dp_same {J : Hp} (s : Same H J) : ∀ {v : V} {d : PyData}, Dp K H v d → Dp K J v d
  | _, _, .int i => .int i
  | _, _, .bl b => .bl b
  | _, _, .non => .non
  | _, _, .str x => .str x
  | _, _, .lst h t => .lst (sql_same s h) (dpAll_same s t)
  | _, _, .tup h t => .tup (sqt_same s h) (dpAll_same s t)
theorem dpAll_same {J : Hp} (s : Same H J) : ∀ {vs : List V} {ds : List PyData}, DpAll K H vs ds → DpAll K J vs ds
  | _, _, .nil => .nil
  | _, _, .cons h t => .cons (dp_same s h) (dpAll_same s t)
end
end
theorem okU_snoc {G : Nat} {es : List Ent} {ss : List Stm} {s : Stm} (u : Nat) : okU G es (ss ++ [s]) u = (okU G es ss u && tellF G es s.first s.many s.num u) := by
  unfold okU tellF saidL
  rw [List.map_append, List.map_append, Bool.eq_iff_iff, Bool.and_eq_true, decide_eq_true_iff, decide_eq_true_iff, decide_eq_true_iff]
  constructor
  · intro h
    have := List.append_inj h (by simp)
    exact ⟨this.1, by simpa using this.2⟩
  · rintro ⟨h1, h2⟩
    rw [h1]
    simpa using h2
theorem okU_iff {G : Nat} {es : List Ent} {ss : List Stm} {u : Nat} : okU G es ss u = true ↔ ∀ s ∈ ss, toldN G es (u : Int) s.first s.many = s.num := by
  unfold okU saidL
  rw [decide_eq_true_iff]
  exact List.map_inj_left
def sp_telling_all (K : PySem.W.Frag) : Sp := fun vs H Q _ => ∃ (l sl : Addr) (es : List Ent) (sws : List V) (ss : List Stm) (G : Nat), vs = [.ref l, .ref sl] ∧ Led H l es G ∧ H sl = some (.lst sws) ∧ StmsAt H sws ss ∧ sws.length ≤ 24 ∧ (∀ s ∈ ss, StOk s) ∧
  ∀ rs zs z J, Same H J → H z = none → J z = some (.lst rs) → SnsAt K J rs zs → Frm G (okU G es ss) zs → rs.length ≤ 60 → Q (.ref z) J
theorem ar_telling_all (K : PySem.W.Frag) : ∀ vs H Q E, sp_telling_all K vs H Q E → vs.length = 2 := by
  intro vs H Q E h
  obtain ⟨l, sl, es, sws, ss, G, rfl, _⟩ := h
  rfl
abbrev N_telling_all : List Str := ["entries", "statements", "cuts", "statement"]
theorem sc_telling_all : FnScope N_telling_all ["entries", "statements"] (defScope S_telling_all) := ⟨rfl, rfl, rfl, by decide +kernel, rfl, by decide +kernel, by decide +kernel⟩
theorem ok_telling_all {P : Program} {w : World} {K : PySem.W.Frag} {mg : Str → Option Value} {base : Heap} {f : Addr} {fd : FuncData} (F : Fun K "telling_all" "telling_all" S_telling_all f fd) {f_both : Addr} {fd_both : FuncData} (C_both : Cal P w K mg base "both" 2 f_both fd_both ["one", "other"] (sp_both K)) {f_allowed : Addr} {fd_allowed : FuncData} (C_allowed : Cal P w K mg base "allowed" 9 f_allowed fd_allowed ["entries", "statement"] (sp_allowed K)) {z_ONE : Addr} (c_ONE : TupC K mg "ONE" z_ONE [V.int 1, V.int 1]) {z_ZERO : Addr} (c_ZERO : TupC K mg "ZERO" z_ZERO [V.int 0, V.int 1]) :
    FnG P w K mg base CX0 10 f fd ["entries", "statements"] (sp_telling_all K) := by
  refine Fun_okG F sc_telling_all (ar_telling_all K) (fun cdv A outer s H vs Q E hg hr h => ?_)
  obtain ⟨l, sl, es, sws, ss, G, rfl, L, hs, st, lw, ok, q⟩ := h
  refine ⟨_, (pss_cons (ps_set (i := 2) sc_telling_all.nd rfl (Or.inl rfl) (pe_lst (pa_cons (pe_tup (pa_cons (pe_glob (v := V.ref z_ZERO) (u := Value.ref z_ZERO) rfl c_ZERO.m rfl) (pa_cons (pe_glob (v := V.ref z_ONE) (u := Value.ref z_ONE) rfl c_ONE.m rfl) pa_nil))) pa_nil)))
    (pss_cons (ps_for PassesOwn.never rfl (piL (K := K) rfl (pv 1)) (pg_name (i := 3) sc_telling_all.nd rfl (Or.inl rfl)) (pss_one (ps_set (i := 2) sc_telling_all.nd rfl (Or.inl rfl) (pe_c C_both hg (hr.mono (by decide)) rfl (pa_cons (pv 2) (pa_cons (pe_c C_allowed hg (hr.mono (by decide)) rfl (pa_cons (pv 0) (pa_cons (pv 3) pa_nil))) pa_nil))))))
    (pss_one (ps_ret (pv 2))))), ?_⟩
  have g0 := L.pos
  have ln := st.len
  walk_at "rd_6"
  rename_i p1 J1 n1 s1 e1 c J2 n2 s2 e2
  have s12 : Same H J2 := Same.trans s1 s2
  refine lp_lst (xs := sws) (fun i σ' M => ∃ (c : Addr) (o3 : Option V) (rs : List V) (zs : List Sn), σ' = [some (.ref l), some (.ref sl), some (.ref c), o3] ∧ Same H M ∧ H c = none ∧ M c = some (.lst rs) ∧ SnsAt K M rs zs ∧ Frm G (okU G es (ss.take i)) zs ∧ rs.length ≤ 1 + 2 * i)
    ⟨c, none, _, [⟨0, 1, 1, 1⟩], rfl, s12, Same.free s1 n2, e2, .cons ⟨p1, z_ZERO, z_ONE, rfl, SqT.of (s2 _ _ e1), ⟨c_ZERO.sq J2, by decide, by decide, zero_lit, one_lit⟩, ⟨c_ONE.sq J2, by decide, by decide, one_lit, one_lit⟩⟩ .nil, (frm_all g0).congr fun u hu => (okU_iff.mpr fun s hs => by cases hs).symm, Nat.le_refl _⟩
    (fun i σ M _ w => ?_) (fun i r σ M hr w => ?_) (fun σ M w => ?_)
  · obtain ⟨c, o3, rs, zs, rfl, sM, _⟩ := w
    exact SqL.of (sM _ _ hs)
  · obtain ⟨c, o3, rs, zs, rfl, sM, nc, hc, sn, fr, lc⟩ := w
    have li : i < sws.length := (List.getElem?_eq_some_iff.mp hr).1
    obtain ⟨s0, es0, p0, rfl, ep0⟩ := st.get hr
    have ok0 := ok _ (List.mem_of_getElem? es0)
    walk_at "rd_6"
    refine ⟨l, p0, es, .str "statement", s0.first, s0.many, G, s0.num, rfl, SqT.of (sM _ _ ep0), L.same sM, ok0.2, ok0.1, fun z J3 rs2 zs2 s3 nz ez sn2 fr2 ll2 => ?_⟩
    walk_at "rd_6"
    refine ⟨c, z, rs, rs2, zs, zs2, rfl, s3 _ _ hc, ez, sn.mono fun p xs h => sqt_same s3 h, sn2, by omega, by omega, fun c2 J4 ws n4 s4 e4 sn4 le4 => ?_⟩
    walk_at "rd_6"
    refine ⟨c2, _, ws, _, rfl, Same.trans sM (Same.trans s3 s4), Same.free sM (Same.free s3 n4), e4, sn4, (Frm.both fr fr2).congr fun u hu => ?_, by omega⟩
    rw [show ss.take (i + 1) = ss.take i ++ [s0] by rw [List.take_add_one, es0]; rfl, okU_snoc]
  · obtain ⟨c, o3, rs, zs, rfl, sM, nc, hc, sn, fr, lc⟩ := w
    walk_at "rd_6"
    rw [ln, List.take_length] at fr
    exact q rs zs c M sM nc hc sn fr (by omega)
def sp_left (K : PySem.W.Frag) : Sp := fun vs H Q _ => ∃ (p d : Addr) (its : List (Nat × Itm)) (nx G : Nat), vs = [.ref p] ∧ LgAt K H p d its nx ∧ 0 < G ∧ G < 2 ^ 500 ∧ (∀ e ∈ entsOf (its.map (·.2)), Fits G e.am) ∧ (entsOf (its.map (·.2))).length ≤ 10 ∧ (stmsOf (its.map (·.2))).length ≤ 24 ∧
  ∀ rs zs z J, Same H J → H z = none → J z = some (.lst rs) → SnsAt K J rs zs → Frm G (okU G (entsOf (its.map (·.2))) (stmsOf (its.map (·.2)))) zs → rs.length ≤ 60 → Q (.ref z) J
theorem ar_left (K : PySem.W.Frag) : ∀ vs H Q E, sp_left K vs H Q E → vs.length = 1 := by
  intro vs H Q E h
  obtain ⟨p, d, its, nx, G, rfl, _⟩ := h
  rfl
abbrev N_left : List Str := ["ledger"]
theorem sc_left : FnScope N_left ["ledger"] (defScope S_left) := ⟨rfl, rfl, rfl, by decide +kernel, rfl, by decide +kernel, by decide +kernel⟩
theorem ok_left {P : Program} {w : World} {K : PySem.W.Frag} {mg : Str → Option Value} {base : Heap} {f : Addr} {fd : FuncData} (F : Fun K "left" "left" S_left f fd) {f_telling_all : Addr} {fd_telling_all : FuncData} (C_telling_all : Cal P w K mg base "telling_all" 10 f_telling_all fd_telling_all ["entries", "statements"] (sp_telling_all K)) {C_L : Addr} (T : LgC K mg C_L) {f_Ledger_statements : Addr} {fd_Ledger_statements : FuncData} (C_Ledger_statements : CalM P w K mg base C_L "statements" 2 f_Ledger_statements fd_Ledger_statements ["self"] (sp_Ledger_statements K)) {f_Ledger_entries : Addr} {fd_Ledger_entries : FuncData} (C_Ledger_entries : CalM P w K mg base C_L "entries" 2 f_Ledger_entries fd_Ledger_entries ["self"] (sp_Ledger_entries K)) :
    FnG P w K mg base CX0 11 f fd ["ledger"] (sp_left K) := by
  refine Fun_okG F sc_left (ar_left K) (fun cdv A outer s H vs Q E hg hr h => ?_)
  obtain ⟨p, d, its, nx, G, rfl, L, g0, g1, fit, l10, l24, q⟩ := h
  refine ⟨_, (pss_one (ps_ret (pe_c C_telling_all hg (hr.mono (by decide)) rfl (pa_cons (pm_c0 T.cl C_Ledger_entries hg (hr.mono (by decide)) (pv 0)) (pa_cons (pm_c0 T.cl C_Ledger_statements hg (hr.mono (by decide)) (pv 0)) pa_nil))))), ?_⟩
  walk_at "rd_6"
  refine rd_meth T L (fun R h => rd_var rfl h) ?_
  walk_at "rd_6"
  refine ⟨p, d, its, nx, rfl, L, fun z1 J1 ws n1 s1 e1 E1 => ?_⟩
  have L1 := L.same s1
  walk_at "rd_6"
  refine rd_meth T L1 (fun R h => rd_var rfl h) ?_
  walk_at "rd_6"
  refine ⟨p, d, its, nx, rfl, L1, fun z2 J2 us n2 s2 e2 S2 => ?_⟩
  obtain ⟨kvs, _, hkv⟩ := L.dc
  walk_at "rd_6"
  refine ⟨z1, z2, _, us, _, G, rfl, ⟨ws, s2 _ _ e1, E1.mono fun p xs h => s2 _ _ h, fit, g0, g1, by rw [E1.len]; exact l10⟩, e2, S2, by rw [S2.len]; exact l24, hkv.stok, fun rs zs z J s nz ez sn fr ll => ?_⟩
  have s12 := Same.trans s1 s2
  exact q rs zs z J (Same.trans s12 s) (Same.free s12 nz) ez sn fr ll

/-! ### best -/
def FoundAt (K : PySem.W.Frag) (M : Hp) (G : Nat) (W : Nat → Nat) (o : Option Nat) (fv : V) : Prop := match o with
  | none => fv = .non
  | some u => ∃ z c x y, fv = .ref z ∧ M z = some (.tup [.int ((W u : Nat) : Int), .ref c]) ∧ SqT K M c [.int x, .int y] ∧ IsLow (u : Int) (G : Int) x y
theorem FoundAt.mk {K : PySem.W.Frag} {M : Hp} {G u : Nat} {W : Nat → Nat} {z c : Addr} {x y : Int} (a : M z = some (.tup [.int ((W u : Nat) : Int), .ref c])) (b : SqT K M c [.int x, .int y]) (d : IsLow (u : Int) (G : Int) x y) : FoundAt K M G W (some u) (.ref z) := ⟨z, c, x, y, rfl, a, b, d⟩
theorem FoundAt.same {K : PySem.W.Frag} {M J : Hp} {G : Nat} {W : Nat → Nat} {fv : V} (s : Same M J) : ∀ {o : Option Nat}, FoundAt K M G W o fv → FoundAt K J G W o fv
  | none, h => h
  | some u, ⟨z, c, x, y, a, b, d, e⟩ => ⟨z, c, x, y, a, s _ _ b, sqt_same s d, e⟩
theorem wgt_sum {G : Nat} {es : List Ent} {u : Nat} : ∀ ws : List Wsh, ((ws.filter fun w => wF G es w u).map fun w => (w.wt : Int)).sum = ((wgt G es ws u : Nat) : Int)
  | [] => rfl
  | w :: ws => by
    have ih := wgt_sum (G := G) (es := es) (u := u) ws
    unfold wgt at ih ⊢
    rw [List.map_cons, List.sum_cons, Int.natCast_add, ← ih]
    cases c : wF G es w u with
    | true => simp [c]
    | false =>
      simp [c]
theorem wgt_bd {G : Nat} {es : List Ent} {u : Nat} : ∀ {ws : List Wsh}, (∀ w ∈ ws, w.wt ≤ 1000000000) → wgt G es ws u ≤ 1000000000 * ws.length
  | [], _ => Nat.le_refl _
  | w :: ws, h => by
    have ih := wgt_bd (G := G) (es := es) (u := u) (ws := ws) fun x hx => h x (List.mem_cons_of_mem _ hx)
    have h0 := h w List.mem_cons_self
    unfold wgt at ih ⊢
    rw [List.map_cons, List.sum_cons, List.length_cons]
    split <;> omega
def sp_best (K : PySem.W.Frag) : Sp := fun vs H Q _ => ∃ (p d : Addr) (its : List (Nat × Itm)) (nx G : Nat) (wl : Addr) (rws : List V) (ws : List Wsh), vs = [.ref p, .ref wl] ∧ LgAt K H p d its nx ∧ 0 < G ∧ G < 2 ^ 500 ∧ (∀ e ∈ entsOf (its.map (·.2)), Fits G e.am) ∧ (entsOf (its.map (·.2))).length ≤ 10 ∧ (stmsOf (its.map (·.2))).length ≤ 24 ∧
  H wl = some (.lst rws) ∧ WhsAt H rws ws ∧ rws.length ≤ 24 ∧ (∀ w ∈ ws, 1 ≤ w.n ∧ w.d + w.n ≤ 10 ^ 30 ∧ w.wt ≤ 1000000000) ∧
  (∀ J, Same H J → (∀ u, u < G → okU G (entsOf (its.map (·.2))) (stmsOf (its.map (·.2))) u = false) → Q .non J) ∧
  (∀ (z c : Addr) (x y : Int) (u : Nat) J, Same H J → J z = some (.tup [.int (wgt G (entsOf (its.map (·.2))) ws u : Nat), .ref c]) → SqT K J c [.int x, .int y] → IsLow (u : Int) (G : Int) x y → u < G → okU G (entsOf (its.map (·.2))) (stmsOf (its.map (·.2))) u = true →
    (∀ v, v < G → okU G (entsOf (its.map (·.2))) (stmsOf (its.map (·.2))) v = true → Gd (wgt G (entsOf (its.map (·.2))) ws) u v) → Q (.ref z) J)
theorem ar_best (K : PySem.W.Frag) : ∀ vs H Q E, sp_best K vs H Q E → vs.length = 2 := by
  intro vs H Q E h
  obtain ⟨p, d, its, nx, G, wl, rws, ws, rfl, _⟩ := h
  rfl
abbrev N_best : List Str := ["ledger", "wishes", "wish", "entries", "cuts", "weighed", "stretch", "number", "weight", "starts", "span", "telling", "_", "found", "cut", "total", "pair"]
theorem sc_best : FnScope N_best ["ledger", "wishes"] (defScope S_best) := ⟨rfl, rfl, rfl, by decide +kernel, rfl, by decide +kernel, by decide +kernel⟩
theorem ok_best {P : Program} {w : World} {K : PySem.W.Frag} {mg : Str → Option Value} {base : Heap} {f : Addr} {fd : FuncData} (F : Fun K "best" "best" S_best f fd) {f_is_less : Addr} {fd_is_less : FuncData} (C_is_less : Cal P w K mg base "is_less" 1 f_is_less fd_is_less ["one", "other"] (sp_is_less K)) {f_has : Addr} {fd_has : FuncData} (C_has : Cal P w K mg base "has" 2 f_has fd_has ["one", "cut"] (sp_has K)) {f__telling : Addr} {fd__telling : FuncData} (C__telling : Cal P w K mg base "_telling" 8 f__telling fd__telling ["entries", "stretch", "number"] (sp__telling K)) {f_left : Addr} {fd_left : FuncData} (C_left : Cal P w K mg base "left" 11 f_left fd_left ["ledger"] (sp_left K)) {f_check_stretch : Addr} {fd_check_stretch : FuncData} (C_check_stretch : Cal P w K mg base "check_stretch" 4 f_check_stretch fd_check_stretch ["thing"] (sp_check_stretch K)) {C_L : Addr} (T : LgC K mg C_L) {f_Ledger_entries : Addr} {fd_Ledger_entries : FuncData} (C_Ledger_entries : CalM P w K mg base C_L "entries" 2 f_Ledger_entries fd_Ledger_entries ["self"] (sp_Ledger_entries K)) (m_sum : mg "sum" = none) :
    FnG P w K mg base CX0 12 f fd ["ledger", "wishes"] (sp_best K) := by
  refine Fun_okG F sc_best (ar_best K) (fun cdv A outer s H vs Q E hg hr h => ?_)
  obtain ⟨p, d, its, nx, G, wl, rws, ws, rfl, L, g0, G5, fit, l10, l24, hw, W, lw, wok, q0, q1⟩ := h
  refine ⟨_, (pss_cons (ps_for PassesOwn.never rfl (piL (K := K) rfl (pv 1)) (pg_name (i := 2) sc_best.nd rfl (Or.inl rfl)) (pss_one (ps_expr (pe_c C_check_stretch hg (hr.mono (by decide)) rfl (pa_cons (pe_ix (ixK (K := K) rfl) (pv 2) pe_int (fun _ _ => rfl)) pa_nil)))))
    (pss_cons (ps_set (i := 3) sc_best.nd rfl (Or.inr rfl) (pm_c0 T.cl C_Ledger_entries hg (hr.mono (by decide)) (pv 0)))
    (pss_cons (ps_set (i := 4) sc_best.nd rfl (Or.inr rfl) (pe_c C_left hg (hr.mono (by decide)) rfl (pa_cons (pv 0) pa_nil)))
    (pss_cons (ps_setLc (i := 5) (own := [("stretch", 6), ("number", 7), ("weight", 8)]) (g := (gTup K 3 (gCons (gName 6) (gCons (gName 7) (gCons (gName 8) gNil))))) rfl sc_best.nd rfl rfl (sw_true rfl rfl rfl (by decide +kernel)) (piL (K := K) rfl (pv 1)) (blkOk_by (own := [("stretch", 6), ("number", 7), ("weight", 8)]) (N := N_best) (sc := defScope S_best) (by decide +kernel)) (fun _ _ _ _ _ => (pgT rfl rfl (pgs_cons (pg_name (i := 6) sc_best.nd rfl (Or.inl rfl)) (pgs_cons (pg_name (i := 7) sc_best.nd rfl (Or.inl rfl)) (pgs_cons (pg_name (i := 8) sc_best.nd rfl (Or.inl rfl)) pgs_nil))))) (fun _ _ _ _ _ => pts_nil) (fun _ _ _ _ _ => (pe_tup (pa_cons (pe_c C__telling hg (hr.mono (by decide)) rfl (pa_cons (pv 3) (pa_cons (pv 6) (pa_cons (pv 7) pa_nil)))) (pa_cons (pv 8) pa_nil)))))
    (pss_cons (ps_setLc (i := 9) (own := [("span", 10)]) rfl sc_best.nd rfl rfl (sw_true rfl rfl rfl (by decide +kernel)) (piL (K := K) rfl (pv 4)) (blkOk_by (own := [("span", 10)]) (N := N_best) (sc := defScope S_best) (by decide +kernel)) (fun _ _ _ _ _ => (pg_name (i := 10) sc_best.nd rfl (Or.inl rfl))) (fun _ _ _ _ _ => pts_nil) (fun _ _ _ _ _ => (pe_ix (ixK (K := K) rfl) (pv 10) pe_int (fun _ _ => rfl))))
    (pss_cons (ps_for PassesOwn.never rfl (piL (K := K) rfl (pv 5)) (pgT (K := K) rfl rfl (pgs_cons (pg_name (i := 11) sc_best.nd rfl (Or.inl rfl)) (pgs_cons (pg_name (i := 12) sc_best.nd rfl (Or.inl rfl)) pgs_nil))) (pss_one (ps_expr (pe_bm PySem.F.plainAttrs_list PySem.F.slot_list_extend PySem.F.type_list_extend mt_extend (pv 9) (pa_cons (pe_lc (own := [("span", 10)]) rfl sc_best.nd (piL (K := K) rfl (pv 11)) (blkOk_by (own := [("span", 10)]) (N := N_best) (sc := defScope S_best) (by decide +kernel)) (fun _ _ _ _ _ => (pg_name (i := 10) sc_best.nd rfl (Or.inl rfl))) (fun _ _ _ _ _ => (pts_one (pt_val (pe_c C_has hg (hr.mono (by decide)) rfl (pa_cons (pv 4) (pa_cons (pe_ix (ixK (K := K) rfl) (pv 10) pe_int (fun _ _ => rfl)) pa_nil)))))) (fun _ _ _ _ _ => (pe_ix (ixK (K := K) rfl) (pv 10) pe_int (fun _ _ => rfl)))) pa_nil)))))
    (pss_cons (ps_set (i := 13) sc_best.nd rfl (Or.inl rfl) pe_non)
    (pss_cons (ps_for PassesOwn.never rfl (piL (K := K) rfl (pv 9)) (pg_name (i := 14) sc_best.nd rfl (Or.inr rfl)) (pss_cons (ps_set (i := 15) sc_best.nd rfl (Or.inl rfl) (pe_callB (id := "sum") (sumK (K := K) rfl rfl) (by rfl) m_sum (by decide +kernel) (pa_cons (pe_lc (own := [("pair", 16)]) rfl sc_best.nd (piL (K := K) rfl (pv 5)) (blkOk_by (own := [("pair", 16)]) (N := N_best) (sc := defScope S_best) (by decide +kernel)) (fun _ _ _ _ _ => (pg_name (i := 16) sc_best.nd rfl (Or.inl rfl))) (fun _ _ _ _ _ => (pts_one (pt_val (pe_c C_has hg (hr.mono (by decide)) rfl (pa_cons (pe_ix (ixK (K := K) rfl) (pv 16) pe_int (fun _ _ => rfl)) (pa_cons (pv 14) pa_nil)))))) (fun _ _ _ _ _ => (pe_ix (ixK (K := K) rfl) (pv 16) pe_int (fun _ _ => rfl)))) pa_nil)))
    (pss_one (ps_if (PW.pt (pw_or (pt_cmpR op_isN1 (pv 13) pe_non (nomark _)) (pw_or (pt_cmpR op_gt (pv 15) (pe_ix (ixK (K := K) rfl) (pv 13) pe_int (fun _ _ => rfl)) (nomark _)) (pw_or1 (PW.pt (pw_and (pt_cmpR op_eq (pv 15) (pe_ix (ixK (K := K) rfl) (pv 13) pe_int (fun _ _ => rfl)) (nomark _)) (pw_and1 (pt_val (pe_c C_is_less hg (hr.mono (by decide)) rfl (pa_cons (pv 14) (pa_cons (pe_ix (ixK (K := K) rfl) (pv 13) pe_int (fun _ _ => rfl)) pa_nil))))))))))) (pss_one (ps_set (i := 13) sc_best.nd rfl (Or.inl rfl) (pe_tup (pa_cons (pv 15) (pa_cons (pv 14) pa_nil))))) pss_nil))))
    (pss_one (ps_ret (pv 13))))))))))), ?_⟩
  have lnW := W.len
  walk_at "rd_6"
  refine lp_lst (xs := rws) (fun i σ M => M = H ∧ ∃ o2 : Option V, σ = [some (.ref p), some (.ref wl), o2, none, none, none, none, none, none, none, none, none, none, none, none, none, none]) ⟨rfl, none, rfl⟩ (fun i σ M _ z => ?_) (fun i v σ M hx z => ?_) (fun σ M z => ?_)
  · obtain ⟨rfl, _⟩ := z
    exact SqL.of hw
  · obtain ⟨rfl, o2, rfl⟩ := z
    obtain ⟨w, ew, t, pp, rfl, et, ep⟩ := W.get hx
    have ok := wok w (List.mem_of_getElem? ew)
    walk_at "rd_6"
    refine ⟨pp, w.d, w.n, rfl, SqT.of ep, by omega, by omega, by omega, ?_⟩
    walk_at "rd_6"
    exact ⟨rfl, _, rfl⟩
  obtain ⟨rfl, o2, rfl⟩ := z
  walk_at "rd_6"
  refine rd_meth T L (fun R h => rd_var rfl h) ?_
  walk_at "rd_6"
  refine ⟨p, d, its, nx, rfl, L, fun el J1 es1 n1 s1 e1 E1 => ?_⟩
  have L1 := L.same s1
  walk_at "rd_6"
  refine ⟨p, d, its, nx, G, rfl, L1, g0, G5, fit, l10, l24, fun rs cs cl J2 s2 n2 e2 S2 F2 l60 => ?_⟩
  have Ld : Led J2 el (entsOf (its.map (·.2))) G := ⟨es1, s2 _ _ e1, E1.mono fun p xs h => s2 _ _ h, fit, g0, G5, by rw [E1.len]; exact l10⟩
  have s12 := Same.trans s1 s2
  have hw2 := s12 _ _ hw
  have W2 : WhsAt J2 rws ws := W.mono fun p xs h => s12 _ _ h
  clear s1 s2 n1 e1 E1 L1 L hw W
  generalize entsOf (its.map (·.2)) = es at *
  generalize stmsOf (its.map (·.2)) = ss at *
  walk_at "rd_6"
  intro D nD
  refine lc_growL (fun ys J => TgsAt K D J G es ys (ws.take ys.length)) hw2 (by omega) nD (fun J k => by simp; exact .nil) (fun i v ys J hx i5 ly k hD hP => ?_) fun wrs J3 ly k hD hP => ?_
  · obtain ⟨w, ew, t, pp, rfl, et, ep⟩ := W2.get hx
    have ok := wok w (List.mem_of_getElem? ew)
    have et := k _ _ (ne_of_none et nD) et
    have ep := k _ _ (ne_of_none ep nD) ep
    have LJ : Led J el es G := Ld.same fun a o h => k a o (ne_of_none h nD) h
    walk_at "rd_6"
    refine ⟨rfl, ?_⟩
    walk_at "rd_6"
    refine ⟨el, pp, es, w.d, w.n, G, w.num, rfl, SqT.of ep, LJ, ok.1, ok.2.1, fun zl J5 rs5 ss5 s5 n5 e5 S5 F5 l5 => ?_⟩
    walk_at "rd_6"
    rename_i p6 J6 n6 s6 e6
    have s56 := Same.trans s5 s6
    have ne : zl ≠ D := fun z => by
      subst z
      rw [hD] at n5
      cases n5
    refine lcEnd_mk (s56 _ _ hD) ly i5 (k.trans (Kp.of s56)) fun J7 p7 e7 => ?_
    rw [List.length_append, List.length_singleton, ly, List.take_add_one, ew]
    rw [ly] at hP
    exact (hP.imp fun r w h => (h.same s56).pu p7).app (.cons ⟨p6, zl, rs5, ss5, rfl, p7.tup e6, ne, p7.1 _ _ ne (s6 _ _ e5), S5.mono fun p xs h => sqt_pu p7 (sqt_same s6 h), F5, l5⟩ .nil)
  rw [ly, lnW, List.take_length] at hP
  have s23 : Same J2 J3 := fun a o h => k a o (ne_of_none h nD) h
  have S3 : SnsAt K J3 rs cs := S2.mono fun p xs h => sqt_same s23 h
  have e3 := s23 _ _ e2
  have s13 := Same.trans s12 s23
  clear s12 s23 k nD e2 S2 n2 hw2 W2 Ld
  walk_at "rd_6"
  intro S nS
  refine lc_growL (fun ys J => ∃ us, UsAt K J G ys us ∧ (∀ a ∈ us, a < G ∧ okU G es ss a = true) ∧ (∀ s ∈ cs.take ys.length, ∃ a ∈ us, IsLow (a : Int) (G : Int) s.x s.y)) e3 (by omega) nS (fun J k => ⟨[], .nil, (fun a h => by cases h), fun s h => by simp at h⟩) (fun i v ys J hx i5 ly k hD' hP' => ?_) fun ys J4 ly4 k4 hD4 hP4 => ?_
  · obtain ⟨s, es', sa⟩ := S3.get hx
    obtain ⟨c, p1, p2, rfl, hc, h1, h2⟩ := sa.mono (J := J) fun p xs h => sqt_fresh k nS h
    obtain ⟨us, U, u1, u2⟩ := hP'
    obtain ⟨a, aG, oa, low⟩ := F2.start (List.mem_of_getElem? es')
    walk_at "rd_6"
    refine ⟨rfl, ?_⟩
    walk_at "rd_6"
    refine lcEnd_mk hD' ly i5 k fun J5 p5 e5 => ?_
    refine ⟨us ++ [a], (U.mono fun p xs h => sqt_pu p5 h).app (.cons ⟨p1, s.x, s.y, rfl, sqt_pu p5 h1.sq, low, aG⟩ .nil), fun b hb => ?_, fun t ht => ?_⟩
    · rcases List.mem_append.mp hb with hb | hb
      · exact u1 b hb
      · obtain rfl := List.mem_singleton.mp hb
        exact ⟨aG, oa⟩
    · rw [List.length_append, List.length_singleton, ly, List.take_add_one, es'] at ht
      rw [ly] at u2
      rcases List.mem_append.mp ht with ht | ht
      · obtain ⟨b, hb, lb⟩ := u2 t ht
        exact ⟨b, List.mem_append_left _ hb, lb⟩
      · obtain rfl := List.mem_singleton.mp (show t ∈ [s] from ht)
        exact ⟨a, List.mem_append_right _ (List.mem_singleton.mpr rfl), low⟩
  obtain ⟨us, U, u1, u2⟩ := hP4
  have lnS := S3.len
  rw [ly4, lnS, List.take_length] at u2
  have s34 : Same J3 J4 := fun a o h => k4 a o (ne_of_none h nS) h
  clear k4
  walk_at "rd_6"
  have lnT := hP.len
  refine lp_lst (xs := wrs) (fun i σ' M' => ∃ (o10 o11 o12 : Option V) (us : List Nat) (ys : List V), σ' = [some (.ref p), some (.ref wl), o2, some (.ref el), some (.ref cl), some (.ref D), none, none, none, some (.ref S), o10, o11, o12, none, none, none, none] ∧ Same J3 M' ∧ M' S = some (.lst ys) ∧ UsAt K M' G ys us ∧ (∀ a ∈ us, a < G ∧ okU G es ss a = true) ∧ (∀ s ∈ cs, ∃ a ∈ us, IsLow (a : Int) (G : Int) s.x s.y) ∧
      (∀ w ∈ ws.take i, ∃ ss', Frm G (wF G es w) ss' ∧ ∀ s ∈ ss', ∀ a : Nat, a < G → IsLow (a : Int) (G : Int) s.x s.y → okU G es ss a = true → a ∈ us) ∧ ys.length ≤ 60 + 2 * i)
    ⟨none, none, none, us, ys, rfl, s34, hD4, U, u1, u2, (fun w hw => by simp at hw), by omega⟩ (fun i σ' M' _ z => ?_) (fun i v σ' M' hx z => ?_) (fun σ' M' z => ?_)
  · obtain ⟨o10, o11, o12, us, ys, rfl, sM, _⟩ := z
    exact SqL.of (sM _ _ hD)
  · obtain ⟨o10, o11, o12, us, ys, rfl, sM, eS, U, u1, u2, u3, ll⟩ := z
    have li : i < wrs.length := (List.getElem?_eq_some_iff.mp hx).1
    obtain ⟨w, ew, T0⟩ := hP.get hx
    obtain ⟨t, Lw, rs5, ss5, rfl, et, _, e5, S5, F5, l5⟩ := (T0.re nS).same sM
    have eM := sM _ _ e3
    have SM : SnsAt K M' rs cs := S3.mono fun p xs h => sqt_same sM h
    walk_at "rd_6"
    intro D2 nD2
    refine lc_sig (τ := [some (.ref p), some (.ref wl), o2, some (.ref el), some (.ref cl), some (.ref D), none, none, none, some (.ref S), o10, some (.ref Lw), some (.int (w.wt : Int)), none, none, none, none]) rfl ?_
    refine lc_growF (fun i zs J => ∃ vs, UsAt K J G zs vs ∧ (∀ a ∈ vs, a < G ∧ okU G es ss a = true) ∧ ∀ s ∈ ss5.take i, ∀ a : Nat, a < G → IsLow (a : Int) (G : Int) s.x s.y → okU G es ss a = true → a ∈ vs) e5 (by omega) nD2 (fun J k => ⟨[], .nil, (fun a h => by cases h), fun s h => by simp at h⟩) (fun j v zs J hx i5 lz k hD' hP' => ?_) fun zs J5 lz k5 hD5 hP5 => ?_
    · obtain ⟨s, es', sa⟩ := S5.get hx
      obtain ⟨c, p1, p2, rfl, hc, h1, h2⟩ := sa.mono (J := J) fun p xs h => sqt_fresh k nD2 h
      obtain ⟨vs, V0, v1, v2⟩ := hP'
      obtain ⟨a, aG, fa, low⟩ := F5.start (List.mem_of_getElem? es')
      have hh := F2.hasU aG low
      walk_at "rd_6"
      refine ⟨rfl, ?_⟩
      walk_at "rd_6"
      refine ⟨cl, p1, rs, cs, s.x, s.y, rfl, k _ _ (ne_of_none eM nD2) eM, SM.mono (fun p xs h => sqt_fresh k nD2 h), by omega, h1, fun J6 s6 => ?_⟩
      rw [hh]
      walk_at "rd_6"
      have V6 := V0.mono (M := J6) fun p xs h => sqt_same s6 h
      have hc6 := sqt_same s6 hc
      have h16 := sqt_same s6 h1.sq
      cases ob : okU G es ss a with
      | true =>
        rw [if_pos rfl]
        walk_at "rd_6"
        refine fEnd_mk (s6 _ _ hD') lz i5 (k.trans (Kp.of s6)) fun J7 p7 e7 => ?_
        refine ⟨vs ++ [a], (V6.mono fun p xs h => sqt_pu p7 h).app (.cons ⟨p1, s.x, s.y, rfl, sqt_pu p7 h16, low, aG⟩ .nil), fun b hb => ?_, fun t ht b bG lb obb => ?_⟩
        · rcases List.mem_append.mp hb with hb | hb
          · exact v1 b hb
          · obtain rfl := List.mem_singleton.mp hb
            exact ⟨aG, ob⟩
        · rw [List.take_add_one, es'] at ht
          rcases List.mem_append.mp ht with ht | ht
          · exact List.mem_append_left _ (v2 t ht b bG lb obb)
          · obtain rfl := List.mem_singleton.mp (show t ∈ [s] from ht)
            obtain rfl := low_inj lb low
            exact List.mem_append_right _ (List.mem_singleton.mpr rfl)
      | false =>
        rw [if_neg Bool.false_ne_true]
        refine ⟨zs, by omega, k.trans (Kp.of s6), s6 _ _ hD', vs, V6, v1, fun t ht b bG lb obb => ?_⟩
        rw [List.take_add_one, es'] at ht
        rcases List.mem_append.mp ht with ht | ht
        · exact v2 t ht b bG lb obb
        · obtain rfl := List.mem_singleton.mp (show t ∈ [s] from ht)
          obtain rfl := low_inj lb low
          rw [ob] at obb
          cases obb
    obtain ⟨vs, V5, v1, v2⟩ := hP5
    have s5 : Same M' J5 := fun a o h => k5 a o (ne_of_none h nD2) h
    rw [S5.len, List.take_length] at v2
    walk_at "rd_6"
    refine rd_extK (s5 _ _ eS) hD5 (by omega) fun J6 p6 e6 => ?_
    walk_at "rd_6"
    have sJ : Same J3 J6 := fun a o h => p6.1 _ _ (ne_of_none h nS) (s5 _ _ (sM _ _ h))
    refine ⟨_, _, _, us ++ vs, ys ++ zs, rfl, sJ, e6, (U.mono fun p xs h => sqt_pu p6 (sqt_same s5 h)).app (V5.mono fun p xs h => sqt_pu p6 h), fun a ha => (List.mem_append.mp ha).elim (u1 a) (v1 a), fun s hs => ?_, fun x hx' => ?_, by rw [List.length_append]; omega⟩
    · obtain ⟨a, ha, la⟩ := u2 s hs
      exact ⟨a, List.mem_append_left _ ha, la⟩
    · rw [List.take_add_one, ew] at hx'
      rcases List.mem_append.mp hx' with hx' | hx'
      · obtain ⟨ss', F', h'⟩ := u3 x hx'
        exact ⟨ss', F', fun s hs a aG la oa => List.mem_append_left _ (h' s hs a aG la oa)⟩
      · obtain rfl := List.mem_singleton.mp (show x ∈ [w] from hx')
        exact ⟨ss5, F5, fun s hs a aG la oa => List.mem_append_right _ (v2 s hs a aG la oa)⟩
  clear s34 hD4 U u1 u2
  obtain ⟨o10, o11, o12, us, ys, rfl, sM, eS, U, u1, u2, u3, ll⟩ := z
  rw [lnT, List.take_length] at u3
  walk_at "rd_6"
  refine lp_lst (xs := ys) (fun i σ' M2 => ∃ (fv : V) (o14 o15 o16 : Option V), σ' = [some (.ref p), some (.ref wl), o2, some (.ref el), some (.ref cl), some (.ref D), none, none, none, some (.ref S), o10, o11, o12, some fv, o14, o15, o16] ∧ Same M' M2 ∧ FoundAt K M2 G (wgt G es ws) (bestU (wgt G es ws) (us.take i)) fv)
    ⟨.non, none, none, none, rfl, (fun a o h => h), rfl⟩ (fun i σ' M2 _ z => ?_) (fun i v σ' M2 hx z => ?_) (fun σ' M2 z => ?_)
  · obtain ⟨fv, o14, o15, o16, rfl, s2, _⟩ := z
    exact SqL.of (s2 _ _ eS)
  · obtain ⟨fv, o14, o15, o16, rfl, s2, fa⟩ := z
    obtain ⟨u, eu, c, x, y, rfl, hc, low, uG⟩ := U.get hx
    have hc := sqt_same s2 hc
    have s32 := Same.trans sM s2
    have eD2 := s32 _ _ hD
    have bx : Bd 1000 x := (show Bd 500 x from Nat.lt_of_le_of_lt low.2.2.2.1 (Nat.lt_trans (show (u : Int).natAbs < G by omega) G5)).mono (by decide)
    have bu : Bd 1000 y := (show Bd 500 y from Nat.lt_of_le_of_lt low.2.2.2.2 G5).mono (by decide)
    walk_at "rd_6"
    intro D2 nD2
    refine lc_sig (τ := [some (.ref p), some (.ref wl), o2, some (.ref el), some (.ref cl), some (.ref D), none, none, none, some (.ref S), o10, o11, o12, some fv, some (.ref c), o15, o16]) rfl ?_
    refine lc_growF (fun i zs _ => zs = ((ws.take i).filter fun w => wF G es w u).map fun w => V.int (w.wt : Int)) eD2 (by omega) nD2 (fun J k => by simp) (fun j v zs J hx i5 lz k hD' hP' => ?_) fun zs J5 lz k5 hD5 hP5 => ?_
    · obtain ⟨w, ew, T0⟩ := hP.get hx
      obtain ⟨t, Lw, rs5, ss5, rfl, et, _, e5, S5, F5, l5⟩ := T0.same s32
      have et := k _ _ (ne_of_none et nD2) et
      have e5 := k _ _ (ne_of_none e5 nD2) e5
      have hh := F5.hasU uG low
      walk_at "rd_6"
      refine ⟨rfl, ?_⟩
      walk_at "rd_6"
      refine ⟨Lw, c, rs5, ss5, x, y, rfl, e5, S5.mono (fun p xs h => sqt_fresh k nD2 h), by omega, ⟨sqt_fresh k nD2 hc, low.1, low.2.1, bx, bu⟩, fun J6 s6 => ?_⟩
      rw [hh]
      have et6 := s6 _ _ et
      walk_at "rd_6"
      cases ob : wF G es w u with
      | true =>
        rw [if_pos rfl]
        walk_at "rd_6"
        refine fEnd_mk (s6 _ _ hD') lz i5 (k.trans (Kp.of s6)) fun J7 p7 e7 => ?_
        rw [List.take_add_one, ew, List.filter_append, List.map_append, ← hP']
        simp [ob]
      | false =>
        rw [if_neg Bool.false_ne_true]
        refine ⟨zs, by omega, k.trans (Kp.of s6), s6 _ _ hD', ?_⟩
        show zs = ((ws.take (j + 1)).filter fun w => wF G es w u).map fun w => V.int (w.wt : Int)
        rw [List.take_add_one, ew, List.filter_append, List.map_append, ← hP']
        simp [ob]
    have s5 : Same M2 J5 := fun a o h => k5 a o (ne_of_none h nD2) h
    rw [lnT, List.take_length] at hP5
    walk_at "rd_6"
    refine rd_sum (ks := (ws.filter fun w => wF G es w u).map fun w => (w.wt : Int)) (SqL.of hD5) (by rw [hP5, List.map_map]; rfl) ?_
    rw [wgt_sum]
    walk_at "rd_6"
    have bw : ∀ u, Bd 1000 ((wgt G es ws u : Nat) : Int) := fun u => Bd.mono (m := 40) (by
      have := wgt_bd (G := G) (es := es) (u := u) (ws := ws) fun w hw => (wok w hw).2.2
      unfold Bd
      omega) (by decide)
    have hc5 := sqt_same s5 hc
    have fa5 := fa.same s5
    have s25 := Same.trans s2 s5
    clear fa hc eD2 hD5 hP5 k5 nD2 s32 s5
    have eb : bestU (wgt G es ws) (us.take (i + 1)) = pickU (wgt G es ws) (bestU (wgt G es ws) (us.take i)) u := by
      rw [List.take_add_one, eu]
      exact bestU_snoc _ _ _
    cases ebi : bestU (wgt G es ws) (us.take i) with
    | none =>
      rw [ebi] at fa5 eb
      cases (show fv = V.non from fa5)
      refine ⟨rfl, _, rfl, ?_⟩
      refine iteT ?_
      refine iteT ?_
      walk_at "rd_6"
      rename_i p6 J6 n6 s6 e6
      refine ⟨_, _, _, _, rfl, Same.trans s25 s6, ?_⟩
      rw [eb]
      exact FoundAt.mk e6 (sqt_same s6 hc5) low
    | some u0 =>
      rw [ebi] at fa5 eb
      obtain ⟨z, c0, x0, y0, rfl, ez, hc0, low0⟩ := fa5
      have u0G : u0 < G := by
        rcases bestU_spec (wgt G es ws) (us.take i) with ⟨_, e⟩ | ⟨u', hu', e, _⟩
        · rw [ebi] at e
          cases e
        · rw [ebi] at e
          cases e
          exact (u1 _ (List.mem_of_mem_take hu')).1
      have bx0 : Bd 1000 x0 := (show Bd 500 x0 from Nat.lt_of_le_of_lt low0.2.2.2.1 (Nat.lt_trans (show (u0 : Int).natAbs < G by omega) G5)).mono (by decide)
      have bu0 : Bd 1000 y0 := (show Bd 500 y0 from Nat.lt_of_le_of_lt low0.2.2.2.2 G5).mono (by decide)
      have fin1 : ∀ J6 p6, Same J5 J6 → J6 p6 = some (.tup [.int ((wgt G es ws u : Nat) : Int), .ref c]) → (wgt G es ws u0 < wgt G es ws u ∨ (wgt G es ws u = wgt G es ws u0 ∧ u < u0)) → FoundAt K J6 G (wgt G es ws) (bestU (wgt G es ws) (us.take (i + 1))) (.ref p6) := fun J6 p6 s6 e6 cc => by
        rw [eb, show pickU (wgt G es ws) (some u0) u = some u from if_pos cc]
        exact FoundAt.mk e6 (sqt_same s6 hc5) low
      have fin0 : ¬ (wgt G es ws u0 < wgt G es ws u ∨ (wgt G es ws u = wgt G es ws u0 ∧ u < u0)) → FoundAt K J5 G (wgt G es ws) (bestU (wgt G es ws) (us.take (i + 1))) (.ref z) := fun cc => by
        rw [eb, show pickU (wgt G es ws) (some u0) u = some u0 from if_neg cc]
        exact FoundAt.mk ez hc0 low0
      refine ⟨rfl, _, rfl, ?_⟩
      refine iteF ?_
      walk_at "rd_6"
      refine rd_if (fun c1 => ?_) (fun c1 => ?_)
      · refine iteT ?_
        walk_at "rd_6"
        rename_i p6 J6 n6 s6 e6
        exact ⟨_, _, _, _, rfl, Same.trans s25 s6, fin1 J6 p6 s6 e6 (by omega)⟩
      · walk_at "rd_6"
        refine rd_if (fun c2 => ?_) (fun c2 => ?_)
        · walk_at "rd_6"
          have ll0 := low_lt low low0 g0
          refine ⟨c, c0, x, y, x0, y0, rfl, hc5, hc0, bx, bu, bx0, bu0, ?_⟩
          refine ⟨_, rfl, ?_⟩
          refine rd_if (fun c3 => ?_) (fun c3 => ?_)
          · walk_at "rd_6"
            rename_i p6 J6 n6 s6 e6
            have := ll0.mp c3
            exact ⟨_, _, _, _, rfl, Same.trans s25 s6, fin1 J6 p6 s6 e6 (by omega)⟩
          · walk_at "rd_6"
            have h : ¬ u < u0 := fun z => c3 (ll0.mpr z)
            exact ⟨_, _, _, _, rfl, s25, fin0 (by omega)⟩
        · refine iteF ?_
          walk_at "rd_6"
          exact ⟨_, _, _, _, rfl, s25, fin0 (by omega)⟩
  obtain ⟨fv, o14, o15, o16, rfl, s2, fa⟩ := z
  rw [U.len, List.take_length] at fa
  walk_at "rd_6"
  have sf := Same.trans s13 (Same.trans sM s2)
  rcases bestU_spec (wgt G es ws) us with ⟨e1, e2⟩ | ⟨u, hu, e1, e2⟩
  · rw [e2] at fa
    cases (show fv = V.non from fa)
    refine q0 M2 sf fun u hu => ?_
    by_cases ou : okU G es ss u = true
    · obtain ⟨s, hs, _⟩ := best_all (es := es) F2 (ws := ws) u2 u3 hu ou
      rw [e1] at hs
      cases hs
    · simpa using ou
  · rw [e1] at fa
    obtain ⟨z, c0, x0, y0, rfl, ez, hc0, low0⟩ := fa
    refine q1 z c0 x0 y0 u M2 sf ez hc0 low0 (u1 u hu).1 (u1 u hu).2 fun v hv ov => ?_
    obtain ⟨s, hs, le, lw⟩ := best_all (es := es) F2 (ws := ws) u2 u3 hv ov
    have := e2 s hs
    unfold Gd at *
    omega

/-! ### the fewest that a point does not tell -/
theorem max_le {L : List Nat} (h : 0 ∈ L) : ∀ v : Nat, ∃ p ∈ L, p ≤ v ∧ ∀ q ∈ L, q ≤ v → q ≤ p
  | 0 => ⟨0, h, Nat.le_refl _, fun q _ z => z⟩
  | v + 1 => by
    by_cases c : v + 1 ∈ L
    · exact ⟨v + 1, c, Nat.le_refl _, fun q _ z => z⟩
    · obtain ⟨p, hp, pv, mx⟩ := max_le h v
      refine ⟨p, hp, by omega, fun q hq z => mx q hq ?_⟩
      rcases Nat.lt_or_eq_of_le z with z | rfl
      · omega
      · exact absurd hq c
theorem ends_mem {ss : List Stm} {s : Stm} (h : s ∈ ss) : s.first ∈ endsL (ss.map stP) ∧ s.first + s.many ∈ endsL (ss.map stP) := by
  unfold endsL
  refine ⟨List.mem_flatMap.mpr ⟨stP s, List.mem_map_of_mem h, ?_⟩, List.mem_flatMap.mpr ⟨stP s, List.mem_map_of_mem h, ?_⟩⟩
  · exact List.mem_cons_self
  · exact List.mem_cons_of_mem _ List.mem_cons_self
/-- the point at or below a unit tells what the unit tells -/
theorem pts_tell {G : Nat} {es : List Ent} {ss : List Stm} {ps : List Nat} (g0 : 0 < G) (P : Pts G es (endsL (ss.map stP)) ps) {v : Nat} (hv : v < G) : ∃ p ∈ ps, p ≤ v ∧ ∀ s ∈ ss, tellF G es s.first s.many s.num p = tellF G es s.first s.many s.num v := by
  obtain ⟨p, hp, pv, mx⟩ := max_le ((P.2.1 0).mpr (.inl rfl)) v
  refine ⟨p, hp, pv, fun s hs => ?_⟩
  have st : ∀ d ∈ endsL (ss.map stP), stepU G (bS G es d) p = stepU G (bS G es d) v := fun d hd => by
    have m := mx _ ((P.2.1 _).mpr (.inr ⟨d, hd, rfl⟩))
    unfold stepU
    by_cases c : ptU G (bS G es d) ≤ v
    · have := m c
      by_cases c2 : 0 < ptU G (bS G es d)
      · rw [if_pos ⟨this, c2⟩, if_pos ⟨c, c2⟩]
      · rw [if_neg fun z => c2 z.2, if_neg fun z => c2 z.2]
    · rw [if_neg fun z => c (Nat.le_trans z.1 pv), if_neg fun z => c z.1]
  obtain ⟨e1, e2⟩ := ends_mem hs
  unfold tellF
  rw [told_step g0 (by omega), told_step g0 hv, st _ e1, st _ e2]
/-! ### the best of the cells -/
def wS (w : Wsh) : Stm := ⟨w.d, w.n, w.num⟩
def wP (w : Wsh) : Nat × Nat := (w.d, w.n)
theorem ends_app (a b : List (Nat × Nat)) : endsL (a ++ b) = endsL a ++ endsL b := by
  unfold endsL
  rw [List.flatMap_append]
theorem wgt_same {G : Nat} {es : List Ent} {u v : Nat} {ws : List Wsh} (h : ∀ w ∈ ws, wF G es w u = wF G es w v) : wgt G es ws u = wgt G es ws v := by
  unfold wgt
  rw [List.map_congr_left fun w hw => by rw [h w hw]]
theorem okU_tell {G : Nat} {es : List Ent} {ss : List Stm} {u v : Nat} (h : ∀ s ∈ ss, tellF G es s.first s.many s.num u = tellF G es s.first s.many s.num v) : okU G es ss u = okU G es ss v := by
  rw [Bool.eq_iff_iff, okU_iff, okU_iff]
  constructor
  · intro k s hs
    have := h s hs
    unfold tellF at this
    rw [decide_eq_true (k s hs)] at this
    exact of_decide_eq_true this.symm
  · intro k s hs
    have := h s hs
    unfold tellF at this
    rw [decide_eq_true (k s hs)] at this
    exact of_decide_eq_true this
/-- the best of the cells' first cuts is the best of all cuts -/
theorem best_cells {G : Nat} {es : List Ent} {ss : List Stm} {ws : List Wsh} {ps : List Nat} (g0 : 0 < G) (P : Pts G es (endsL (ws.map wP) ++ endsL (ss.map stP)) ps) :
    ((∀ u, u < G → okU G es ss u = false) ∧ bestU (wgt G es ws) (ps.filter (okU G es ss)) = none) ∨
    ∃ u, bestU (wgt G es ws) (ps.filter (okU G es ss)) = some u ∧ u < G ∧ okU G es ss u = true ∧ ∀ v, v < G → okU G es ss v = true → Gd (wgt G es ws) u v := by
  have P' : Pts G es (endsL ((ws.map wS ++ ss).map stP)) ps := by
    rw [List.map_append, ends_app, List.map_map]
    exact P
  have near : ∀ v, v < G → ∃ p ∈ ps, p ≤ v ∧ okU G es ss p = okU G es ss v ∧ wgt G es ws p = wgt G es ws v := fun v hv => by
    obtain ⟨p, hp, pv, h⟩ := pts_tell g0 P' hv
    exact ⟨p, hp, pv, okU_tell fun s hs => h s (List.mem_append_right _ hs), wgt_same fun w hw => h (wS w) (List.mem_append_left _ (List.mem_map_of_mem hw))⟩
  have lt : ∀ p ∈ ps, p < G := fun p hp => by
    rcases (P.2.1 p).mp hp with rfl | ⟨d, _, rfl⟩
    · exact g0
    · exact (ptU_eq g0 _).2
  rcases bestU_spec (wgt G es ws) (ps.filter (okU G es ss)) with ⟨e1, e2⟩ | ⟨u, hu, e, h⟩
  · refine .inl ⟨fun v hv => ?_, e2⟩
    obtain ⟨p, hp, _, o, _⟩ := near v hv
    by_cases c : okU G es ss v = true
    · have : p ∈ ps.filter (okU G es ss) := List.mem_filter.mpr ⟨hp, by rw [o]; exact c⟩
      rw [e1] at this
      cases this
    · simpa using c
  · obtain ⟨hp, ho⟩ := List.mem_filter.mp hu
    refine .inr ⟨u, e, lt u hp, ho, fun v hv ov => ?_⟩
    obtain ⟨p, pp, pv, o, w⟩ := near v hv
    have := h p (List.mem_filter.mpr ⟨pp, by rw [o]; exact ov⟩)
    unfold Gd at this ⊢
    omega
theorem gd_uniq {W : Nat → Nat} {u v : Nat} (a : Gd W u v) (b : Gd W v u) : u = v := by
  unfold Gd at a b
  omega
/-- in an ascending row a later one is picked only if it is worth more -/
theorem best_asc {W : Nat → Nat} {L : List Nat} (asc : L.Pairwise (· < ·)) {i s : Nat} (e : L[i]? = some s) : bestU W (L.take (i + 1)) = match bestU W (L.take i) with
    | none => some s
    | some u => if W u < W s then some s else some u := by
  rw [List.take_add_one, e, show (some s).toList = [s] from rfl, bestU_snoc]
  cases eb : bestU W (L.take i) with
  | none => rfl
  | some u =>
    have us : u < s := by
      rcases bestU_spec W (L.take i) with ⟨_, k⟩ | ⟨u', hu', k, _⟩
      · rw [eb] at k
        cases k
      · rw [eb] at k
        cases k
        obtain ⟨j, hj, ej⟩ := List.mem_iff_getElem.mp hu'
        rw [List.length_take] at hj
        rw [List.getElem_take] at ej
        obtain ⟨h1, h2⟩ := List.getElem?_eq_some_iff.mp e
        rw [← ej, ← h2]
        exact List.pairwise_iff_getElem.mp asc j i (by omega) h1 (by omega)
    show (if W u < W s ∨ (W s = W u ∧ s < u) then some s else some u) = _
    by_cases c : W u < W s
    · rw [if_pos (.inl c)]
      exact (if_pos c).symm
    · rw [if_neg (by omega)]
      exact (if_neg c).symm
theorem wgt_snoc {G : Nat} {es : List Ent} {u : Nat} {ws : List Wsh} {w : Wsh} : wgt G es (ws ++ [w]) u = wgt G es ws u + if wF G es w u = true then w.wt else 0 := by
  unfold wgt
  rw [List.map_append, List.sum_append]
  simp
theorem wgt_le9 {G : Nat} {es : List Ent} {u : Nat} {ws : List Wsh} (h : ∀ w ∈ ws, w.wt ≤ 1000000000) : wgt G es ws u ≤ 1000000000 * ws.length := wgt_bd h
def sp__law_due (K : PySem.W.Frag) : Sp := fun vs H Q _ => ∃ (l sl wl : Addr) (es : List Ent) (sws : List V) (ss : List Stm) (rws : List V) (ws : List Wsh) (G : Nat), vs = [.ref l, .ref sl, .ref wl, .int (G : Int)] ∧ Led H l es G ∧ H sl = some (.lst sws) ∧ StmsAt H sws ss ∧ sws.length ≤ 24 ∧
  H wl = some (.lst rws) ∧ WhsAt H rws ws ∧ rws.length ≤ 12 ∧ (∀ w ∈ ws, w.wt ≤ 1000000000) ∧
  (∀ J, Same H J → (∀ u, u < G → okU G es ss u = false) → Q .non J) ∧
  (∀ (z c : Addr) (x y : Int) (u : Nat) J, Same H J → J z = some (.tup [.int (wgt G es ws u : Nat), .ref c]) → J c = some (.tup [.int x, .int y]) → IsLow (u : Int) (G : Int) x y → u < G → okU G es ss u = true → (∀ v, v < G → okU G es ss v = true → Gd (wgt G es ws) u v) → Q (.ref z) J)
theorem ar__law_due (K : PySem.W.Frag) : ∀ vs H Q E, sp__law_due K vs H Q E → vs.length = 4 := by
  intro vs H Q E h
  obtain ⟨l, sl, wl, es, sws, ss, rws, ws, G, rfl, _⟩ := h
  rfl
def FndAt (M : Hp) (W : Nat → Nat) (o : Option Nat) (fv : V) : Prop := match o with
  | none => fv = .non
  | some u => ∃ z, fv = .ref z ∧ M z = some (.tup [.int ((W u : Nat) : Int), .int (u : Int)])
theorem FndAt.same {M J : Hp} {W : Nat → Nat} {fv : V} (s : Same M J) : ∀ {o : Option Nat}, FndAt M W o fv → FndAt J W o fv
  | none, h => h
  | some _, ⟨z, a, b⟩ => ⟨z, a, s _ _ b⟩
abbrev N__law_due : List Str := ["_law_entries_here", "_law_statements_here", "_law_wishes", "_law_grain_here", "_law_found", "_law_days", "_law_stretch_here", "_law_number", "_law_weight", "_law_unit", "_law_worth"]
theorem sc__law_due : FnScope N__law_due ["_law_entries_here", "_law_statements_here", "_law_wishes", "_law_grain_here"] (defScope S__law_due) := ⟨rfl, rfl, rfl, by decide +kernel, rfl, by decide +kernel, by decide +kernel⟩
theorem ok__law_due {P : Program} {w : World} {K : PySem.W.Frag} {mg : Str → Option Value} {base : Heap} {f : Addr} {fd : FuncData} (F : Fun K "_law_due" "_law_due" S__law_due f fd) {f__law_lowest : Addr} {fd__law_lowest : FuncData} (C__law_lowest : Cal P w K mg base "_law_lowest" 2 f__law_lowest fd__law_lowest ["_law_top", "_law_under"] (sp__law_lowest K)) {f__law_left : Addr} {fd__law_left : FuncData} (C__law_left : Cal P w K mg base "_law_left" 3 f__law_left fd__law_left ["_law_entries_here", "_law_statements_here", "_law_days", "_law_grain_here"] (sp__law_left K)) {f__law_told : Addr} {fd__law_told : FuncData} (C__law_told : Cal P w K mg base "_law_told" 2 f__law_told fd__law_told ["_law_entries_here", "_law_unit", "_law_first", "_law_many", "_law_grain_here"] (sp__law_told K)) {f__law_ends : Addr} {fd__law_ends : FuncData} (C__law_ends : Cal P w K mg base "_law_ends" 1 f__law_ends fd__law_ends ["_law_stretches"] (sp__law_ends K)) (m_int : mg "int" = none) :
    FnG P w K mg base CX0 4 f fd ["_law_entries_here", "_law_statements_here", "_law_wishes", "_law_grain_here"] (sp__law_due K) := by
  refine Fun_okG F sc__law_due (ar__law_due K) (fun cdv A outer s H vs Q E hg hr h => ?_)
  obtain ⟨l, sl, wl, es, sws, ss, rws, ws, G, rfl, L, hsl, st, lsw, hwl, W, lrw, wok, q0, q1⟩ := h
  refine ⟨_, (pss_cons (ps_set (i := 4) sc__law_due.nd rfl (Or.inl rfl) pe_non)
    (pss_cons (ps_set (i := 5) sc__law_due.nd rfl (Or.inl rfl) (pe_c C__law_ends hg (hr.mono (by decide)) rfl (pa_cons (pe_lc (own := [("_law_stretch_here", 6), ("_law_number", 7), ("_law_weight", 8)]) (g := (gTup K 3 (gCons (gName 6) (gCons (gName 7) (gCons (gName 8) gNil))))) rfl sc__law_due.nd (piL (K := K) rfl (pv 2)) (blkOk_by (own := [("_law_stretch_here", 6), ("_law_number", 7), ("_law_weight", 8)]) (N := N__law_due) (sc := defScope S__law_due) (by decide +kernel)) (fun _ _ _ _ _ => (pgT rfl rfl (pgs_cons (pg_name (i := 6) sc__law_due.nd rfl (Or.inl rfl)) (pgs_cons (pg_name (i := 7) sc__law_due.nd rfl (Or.inl rfl)) (pgs_cons (pg_name (i := 8) sc__law_due.nd rfl (Or.inl rfl)) pgs_nil))))) (fun _ _ _ _ _ => pts_nil) (fun _ _ _ _ _ => (pv 6))) pa_nil)))
    (pss_cons (ps_for PassesOwn.never rfl (piL (K := K) rfl (pe_c C__law_left hg (hr.mono (by decide)) rfl (pa_cons (pv 0) (pa_cons (pv 1) (pa_cons (pv 5) (pa_cons (pv 3) pa_nil)))))) (pg_name (i := 9) sc__law_due.nd rfl (Or.inl rfl)) (pss_cons (ps_set (i := 10) sc__law_due.nd rfl (Or.inl rfl) pe_int)
    (pss_cons (ps_for PassesOwn.never rfl (piL (K := K) rfl (pv 2)) (pgT (K := K) rfl rfl (pgs_cons (pg_name (i := 6) sc__law_due.nd rfl (Or.inl rfl)) (pgs_cons (pg_name (i := 7) sc__law_due.nd rfl (Or.inl rfl)) (pgs_cons (pg_name (i := 8) sc__law_due.nd rfl (Or.inl rfl)) pgs_nil)))) (pss_one (ps_set (i := 10) sc__law_due.nd rfl (Or.inl rfl) (pe_op op_add (pv 10) (pe_op op_ml (pv 8) (pe_callTy (T := "int") call_int1 (by rfl) m_int (by decide +kernel) (pa_cons (pe_cmpR op_eq (pe_c C__law_told hg (hr.mono (by decide)) rfl (pa_cons (pv 0) (pa_cons (pv 9) (pa_cons (pe_ix (ixK (K := K) rfl) (pv 6) pe_int (fun _ _ => rfl)) (pa_cons (pe_ix (ixK (K := K) rfl) (pv 6) pe_int (fun _ _ => rfl)) (pa_cons (pv 3) pa_nil)))))) (pv 7) (nomark _)) pa_nil)))))))
    (pss_one (ps_if (PW.pt (pw_or (pt_cmpR op_isN1 (pv 4) pe_non (nomark _)) (pw_or1 (pt_cmpR op_gt (pv 10) (pe_ix (ixK (K := K) rfl) (pv 4) pe_int (fun _ _ => rfl)) (nomark _))))) (pss_one (ps_set (i := 4) sc__law_due.nd rfl (Or.inl rfl) (pe_tup (pa_cons (pv 10) (pa_cons (pv 9) pa_nil))))) pss_nil)))))
    (pss_one (ps_ret (pe_ifExp (pt_cmpR op_isN1 (pv 4) pe_non (nomark _)) pe_non (pe_tup (pa_cons (pe_ix (ixK (K := K) rfl) (pv 4) pe_int (fun _ _ => rfl)) (pa_cons (pe_c C__law_lowest hg (hr.mono (by decide)) rfl (pa_cons (pe_ix (ixK (K := K) rfl) (pv 4) pe_int (fun _ _ => rfl)) (pa_cons (pv 3) pa_nil))) pa_nil))))))))), ?_⟩
  have g0 := L.pos
  have g1 := L.lt
  have lnW := W.len
  walk_at "rd_6"
  intro D nD
  refine lc_growL (fun ys J => PrsAt J ys ((ws.map wP).take ys.length)) hwl (by omega) nD (fun J k => by simp; exact .nil) (fun i v ys J hx i5 ly k hD hP => ?_) fun ys J1 ly k hD hP => ?_
  · obtain ⟨w, ew, t, pp, rfl, et, ep⟩ := W.get hx
    have et := k _ _ (ne_of_none et nD) et
    have ep := k _ _ (ne_of_none ep nD) ep
    walk_at "rd_6"
    refine ⟨rfl, ?_⟩
    walk_at "rd_6"
    refine lcEnd_mk hD ly i5 k fun J4 p4 e4 => ?_
    have e : (ws.map wP)[i]? = some (w.d, w.n) := by
      rw [List.getElem?_map, ew]
      rfl
    rw [List.length_append, List.length_singleton, ly, List.take_add_one, e]
    rw [ly] at hP
    exact (hP.mono fun p xs h => p4.tup h).app (.cons (p4.tup ep) .nil)
  have s1 : Same H J1 := fun a o h => k a o (ne_of_none h nD) h
  rw [ly, lnW, ← List.length_map (f := wP) (as := ws), List.take_length] at hP
  walk_at "rd_6"
  refine ⟨D, ys, ws.map wP, rfl, hD, hP, by omega, fun zd J2 s2 n2 e2 => ?_⟩
  have s12 := Same.trans s1 s2
  walk_at "rd_6"
  refine ⟨l, sl, zd, es, sws, ss, endsL (ws.map wP), G, rfl, L.same s12, s12 _ _ hsl, st.mono fun p xs h => s12 _ _ h, lsw, e2, by rw [endsL_len, List.length_map]; omega, fun ps z J3 s3 n3 pts e3 => ?_⟩
  have s13 := Same.trans s12 s3
  have key := best_cells g0 pts
  have asc : (ps.filter (okU G es ss)).Pairwise (· < ·) := pts.1.filter _
  have qG : ∀ u ∈ ps.filter (okU G es ss), u < G := fun u hu => by
    rcases (pts.2.1 u).mp (List.mem_filter.mp hu).1 with rfl | ⟨d, _, rfl⟩
    · exact g0
    · exact (ptU_eq g0 _).2
  have W3 : WhsAt J3 rws ws := W.mono fun p xs h => s13 _ _ h
  have h3 := s13 _ _ hwl
  have L3 := L.same s13
  clear s1 s2 s3 s12 hP hD k nD e2 n2 n3 ly pts
  generalize ps.filter (okU G es ss) = qs at e3 key asc qG
  walk_at "rd_6"
  refine lp_lst (xs := qs.map nV) (fun i σ' M => ∃ (fv : V) (o6 o7 o8 o9 o10 : Option V), σ' = [some (.ref l), some (.ref sl), some (.ref wl), some (.int (G : Int)), some fv, some (.ref zd), o6, o7, o8, o9, o10] ∧ Same J3 M ∧ FndAt M (wgt G es ws) (bestU (wgt G es ws) (qs.take i)) fv)
    ⟨.non, none, none, none, none, none, rfl, fun _ _ h => h, rfl⟩ (fun i σ M _ z => ?_) (fun i v σ M hx z => ?_) (fun σ M z => ?_)
  · obtain ⟨fv, o6, o7, o8, o9, o10, rfl, sM, _⟩ := z
    exact SqL.of (sM _ _ e3)
  · obtain ⟨fv, o6, o7, o8, o9, o10, rfl, sM, fa⟩ := z
    rw [List.getElem?_map] at hx
    obtain ⟨u, eu, rfl⟩ := Option.map_eq_some_iff.mp hx
    have uG := qG u (List.mem_of_getElem? eu)
    walk_at "rd_6"
    refine lp_lst (xs := rws) (fun j σ' M' => ∃ (o6 o7 o8 : Option V), σ' = [some (.ref l), some (.ref sl), some (.ref wl), some (.int (G : Int)), some fv, some (.ref zd), o6, o7, o8, some (nV u), some (.int ((wgt G es (ws.take j) u : Nat) : Int))] ∧ Same M M')
      ⟨o6, o7, o8, rfl, fun _ _ h => h⟩ (fun j σ M' _ z => ?_) (fun j v σ M' hv z => ?_) (fun σ M' z => ?_)
    · obtain ⟨o6, o7, o8, rfl, sN⟩ := z
      exact SqL.of (sN _ _ (sM _ _ h3))
    · obtain ⟨o6, o7, o8, rfl, sN⟩ := z
      have sMN := Same.trans sM sN
      obtain ⟨w, ew, t, pp, rfl, et, ep⟩ := W3.get hv
      have et := sMN _ _ et
      have ep := sMN _ _ ep
      have wb := wok w (List.mem_of_getElem? ew)
      walk_at "rd_6"
      refine ⟨l, es, (u : Int), w.d, w.n, G, rfl, L3.same sMN, fun M2 s4 => ?_⟩
      walk_at "rd_6"
      have e : ((wgt G es (ws.take (j + 1)) u : Nat) : Int) = ((wgt G es (ws.take j) u : Nat) : Int) + (w.wt : Int) * (if decide (toldN G es (u : Int) w.d w.n = w.num) = true then 1 else 0) := by
        rw [List.take_add_one, ew, show (some w).toList = [w] from rfl, wgt_snoc]
        unfold wF tellF
        split <;> simp
      refine ⟨some (.ref pp), some (.int w.num), some (.int (w.wt : Int)), ?_, Same.trans sN s4⟩
      rw [e]
      rfl
    · obtain ⟨o6, o7, o8, rfl, sN⟩ := z
      rw [lnW, List.take_length]
      have fa := fa.same sN
      have sMN := Same.trans sM sN
      walk_at "rd_6"
      cases eb : bestU (wgt G es ws) (qs.take i) with
      | none =>
        rw [eb] at fa
        cases (show fv = V.non from fa)
        refine ⟨rfl, _, rfl, ?_⟩
        refine iteT ?_
        refine iteT ?_
        walk_at "rd_6"
        rename_i p6 M6 n6 s6 e6
        refine ⟨_, _, _, _, _, _, rfl, Same.trans sMN s6, ?_⟩
        rw [best_asc asc eu, eb]
        exact ⟨p6, rfl, e6⟩
      | some u0 =>
        rw [eb] at fa
        obtain ⟨z, rfl, ez⟩ := fa
        refine ⟨rfl, _, rfl, ?_⟩
        refine iteF ?_
        walk_at "rd_6"
        refine rd_if (fun c => ?_) (fun c => ?_)
        · walk_at "rd_6"
          rename_i p6 M6 n6 s6 e6
          refine ⟨_, _, _, _, _, _, rfl, Same.trans sMN s6, ?_⟩
          rw [best_asc asc eu, eb]
          show FndAt M6 _ (if wgt G es ws u0 < wgt G es ws u then some u else some u0) _
          rw [if_pos (by omega)]
          exact ⟨p6, rfl, e6⟩
        · walk_at "rd_6"
          refine ⟨_, _, _, _, _, _, rfl, sMN, ?_⟩
          rw [best_asc asc eu, eb]
          show FndAt M' _ (if wgt G es ws u0 < wgt G es ws u then some u else some u0) _
          rw [if_neg (by omega)]
          exact ⟨z, rfl, ez⟩
  · obtain ⟨fv, o6, o7, o8, o9, o10, rfl, sM, fa⟩ := z
    rw [List.length_map, List.take_length] at fa
    have s0M := Same.trans s13 sM
    walk_at "rd_6"
    rcases key with ⟨no, e⟩ | ⟨u, e, uG, ou, gd⟩
    · rw [e] at fa
      cases (show fv = V.non from fa)
      refine ⟨rfl, _, rfl, ?_⟩
      refine iteT ?_
      walk_at "rd_6"
      exact q0 M s0M no
    · rw [e] at fa
      obtain ⟨z, rfl, ez⟩ := fa
      refine ⟨rfl, _, rfl, ?_⟩
      refine iteF ?_
      walk_at "rd_6"
      refine ⟨(u : Int), (G : Int), rfl, by omega, Bd.mono (m := 500) (by unfold Bd; omega) (by decide), fun x y p8 J8 low n8 s8 e8 => ?_⟩
      walk_at "rd_6"
      rename_i p9 J9 n9 s9 e9
      exact q1 p9 p8 x y u J9 (Same.trans s0M (Same.trans s8 s9)) e9 (s9 _ _ e8) low uG ou gd

/-! ### a ledger of just these items -/
section
variable {K : PySem.W.Frag} {H J M : Hp} {b p d : Addr} {its : List (Nat × Itm)} {nx : Nat} {mg : Str → Option Value} {C : Addr} {σ : L2.St} {Q : VK}
theorem LgAt.kb (k : Kp b H J) (g : Bag b H) (L : LgAt K H p d its nx) : LgAt K J p d its nx := by
  obtain ⟨x, y, e⟩ := g
  exact L.kl k e
/-- Ledger() -/
theorem rd_make (T : LgC K mg C) (q : ∀ p d J, H p = none → H d = none → p ≠ d → Same H J → LgAt K J p d [] 0 → Q (.ref p) J) : tMake C (sp_Ledger___init__ K) [] E0 tNil σ H Q := by
  intro x dx nx ndx ne
  refine ⟨x, C, dx, rfl, T.at_, upd_same, fun d J nd L kp => ⟨rfl, ?_⟩⟩
  have d1 : d ≠ x := fun z => by
    subst z
    rw [upd_same] at nd
    cases nd
  rw [upd_ne d1] at nd
  have d2 : d ≠ dx := fun z => by
    subst z
    rw [upd_same] at nd
    cases nd
  rw [upd_ne d2] at nd
  refine q x d J nx nd d1.symm (fun a o e => kp a o ?_ (ne_of_none e nx)) L
  rw [upd_ne (ne_of_none e nx), upd_ne (ne_of_none e ndx)]
  exact e
end
theorem its_get {H : Hp} : ∀ {vs : List V} {is : List Itm}, ItsAt H vs is → ∀ {i : Nat} {v : V}, vs[i]? = some v → ∃ y, is[i]? = some y ∧ ItmAt H v y
  | _, _, .nil, i, v, h => by simp at h
  | _, _, .cons (i := y) h t, 0, v, e => by
    simp only [List.getElem?_cons_zero, Option.some.injEq] at e
    subst e
    exact ⟨y, rfl, h⟩
  | _, _, .cons h t, i + 1, v, e => its_get t e
def sp__law_exactly (K : PySem.W.Frag) : Sp := fun vs H Q _ => ∃ (l s : Addr) (ws us : List V) (es : List Ent) (ss : List Stm), vs = [.ref l, .ref s] ∧ H l = some (.lst ws) ∧ EntsAt H ws es ∧ (∀ e ∈ es, AmOk e) ∧ H s = some (.lst us) ∧ StmsAt H us ss ∧ (∀ s ∈ ss, StOk s) ∧ ws.length ≤ 6 ∧ us.length ≤ 24 ∧
  ∀ (p d : Addr) (its : List (Nat × Itm)) (nx : Nat) (J : Hp), LgAt K J p d its nx → its.map (·.2) = es.map Itm.en ++ ss.map Itm.st → Same H J → Q (.ref p) J
theorem ar__law_exactly (K : PySem.W.Frag) : ∀ vs H Q E, sp__law_exactly K vs H Q E → vs.length = 2 := by
  intro vs H Q E h
  obtain ⟨l, s, ws, us, es, ss, rfl, _⟩ := h
  rfl
abbrev N__law_exactly : List Str := ["_law_entries_here", "_law_statements_here", "_law_ledger", "_law_item"]
theorem sc__law_exactly : FnScope N__law_exactly ["_law_entries_here", "_law_statements_here"] (defScope S__law_exactly) := ⟨rfl, rfl, rfl, by decide +kernel, rfl, by decide +kernel, by decide +kernel⟩
theorem ok__law_exactly {P : Program} {w : World} {K : PySem.W.Frag} {mg : Str → Option Value} {base : Heap} {f : Addr} {fd : FuncData} (F : Fun K "_law_exactly" "_law_exactly" S__law_exactly f fd) {C_L : Addr} (T : LgC K mg C_L) {f_Ledger_add : Addr} {fd_Ledger_add : FuncData} (C_Ledger_add : CalM P w K mg base C_L "add" 7 f_Ledger_add fd_Ledger_add ["self", "item"] (sp_Ledger_add K)) {f_mk : Addr} {fd_mk : FuncData} (ML : MkL P w K mg base C_L f_mk fd_mk (sp_Ledger___init__ K)) :
    FnG P w K mg base CX0 8 f fd ["_law_entries_here", "_law_statements_here"] (sp__law_exactly K) := by
  refine Fun_okG F sc__law_exactly (ar__law_exactly K) (fun cdv A outer s H vs Q E hg hr h => ?_)
  obtain ⟨l, s0, ws, us, es, ss, rfl, hl, E1, ok1, hs, S1, ok2, lw, lu, q⟩ := h
  refine ⟨_, (pss_cons (ps_set (i := 2) sc__law_exactly.nd rfl (Or.inl rfl) (pe_make0 ML.m ML.g (hr.mono (by decide)) rfl T.mgC ML.b .nil pass0))
    (pss_cons (ps_for PassesOwn.never rfl (piL (K := K) rfl (pe_op op_cat (pv 0) (pv 1))) (pg_name (i := 3) sc__law_exactly.nd rfl (Or.inl rfl)) (pss_one (ps_expr (pm_c T.cl C_Ledger_add hg (hr.mono (by decide)) (pv 2) (pa_cons (pv 3) pa_nil)))))
    (pss_one (ps_ret (pv 2))))), ?_⟩
  have lnE := E1.len
  have lnS := S1.len
  walk_at "rd_6"
  refine rd_make T fun p d J1 np nd npd s1 L1 => ?_
  walk_at "rd_6"
  refine rd_catK (s1 _ _ hl) (s1 _ _ hs) (by omega) fun r J4 n4 s4 e4 => ?_
  walk_at "rd_6"
  have sH4 : Same H J4 := Same.trans s1 s4
  have L4 := L1.same s4
  have I4 : ItsAt J4 (ws ++ us) (es.map Itm.en ++ ss.map Itm.st) := ((E1.mono fun p xs h => sH4 _ _ h).asI ok1).app ((S1.mono fun p xs h => sH4 _ _ h).asI ok2)
  have eE : entsOf (es.map Itm.en ++ ss.map Itm.st) = es := by rw [entsOf_app, entsOf_en, entsOf_st, List.append_nil]
  have eS : stmsOf (es.map Itm.en ++ ss.map Itm.st) = ss := by rw [stmsOf_app, stmsOf_en, stmsOf_st, List.nil_append]
  have lk : (es.map Itm.en ++ ss.map Itm.st).length = (ws ++ us).length := by simp only [List.length_append, List.length_map]; omega
  clear s1 s4 L1 n4
  generalize hxs : ws ++ us = xs at e4 I4 lk
  generalize hks : es.map Itm.en ++ ss.map Itm.st = ks at I4 eE eS lk q
  have lxs : xs.length ≤ 30 := by rw [← hxs, List.length_append]; omega
  refine lp_lst (xs := xs) (fun i σ' M => ∃ (its : List (Nat × Itm)) (nx : Nat) (o3 : Option V), σ' = [some (.ref l), some (.ref s0), some (.ref p), o3] ∧ LgAt K M p d its nx ∧ its.map (·.2) = ks.take i ∧ Lk p d J4 M) ⟨[], 0, none, rfl, L4, rfl, Lk.of fun _ _ e => e⟩ (fun i σ M _ z => ?_) (fun i v σ M hx z => ?_) (fun σ M z => ?_)
  · obtain ⟨its, nx, o3, rfl, _, _, k⟩ := z
    exact SqL.of (L4.lst k e4)
  · obtain ⟨its, nx, o3, rfl, LM, em, k⟩ := z
    obtain ⟨y, ey, hy⟩ := its_get I4 hx
    have hy := hy.mono fun a xs h => L4.tup k h
    have lit : its.length ≤ 30 := by
      have := congrArg List.length em
      rw [List.length_map, List.length_take] at this
      omega
    have sp_ : ks = ks.take i ++ y :: ks.drop (i + 1) := by
      obtain ⟨h1, h2⟩ := List.getElem?_eq_some_iff.mp ey
      rw [← h2, List.getElem_cons_drop, List.take_append_drop]
    have cE : (entsOf (ks.take i)).length + (entsOf [y]).length ≤ es.length := by
      have h : (entsOf ks).length = (entsOf (ks.take i ++ y :: ks.drop (i + 1))).length := congrArg (fun z => (entsOf z).length) sp_
      rw [eE, show ks.take i ++ y :: ks.drop (i + 1) = ks.take i ++ [y] ++ ks.drop (i + 1) by simp, entsOf_app, entsOf_app, List.length_append, List.length_append] at h
      omega
    have cS : (stmsOf (ks.take i)).length + (stmsOf [y]).length ≤ ss.length := by
      have h : (stmsOf ks).length = (stmsOf (ks.take i ++ y :: ks.drop (i + 1))).length := congrArg (fun z => (stmsOf z).length) sp_
      rw [eS, show ks.take i ++ y :: ks.drop (i + 1) = ks.take i ++ [y] ++ ks.drop (i + 1) by simp, stmsOf_app, stmsOf_app, List.length_append, List.length_append] at h
      omega
    walk_at "rd_6"
    refine rd_meth T LM (fun R h => rd_var rfl h) ?_
    walk_at "rd_6"
    refine ⟨p, d, its, nx, v, y, rfl, LM, hy, (fun z => by
      rw [em]
      cases y with
      | en e0 => simp only [entsOf, List.length_cons, List.length_nil] at cE; omega
      | st s0 => cases z), (fun z => by
      rw [em]
      cases y with
      | st s0 => simp only [stmsOf, List.length_cons, List.length_nil] at cS; omega
      | en e0 => cases z), by omega, fun J5 L5 k5 => ?_⟩
    walk_at "rd_6"
    refine ⟨_, _, _, rfl, L5, ?_, k.trans k5⟩
    rw [List.map_append, em, List.take_add_one, ey]
    rfl
  · obtain ⟨its, nx, o3, rfl, LM, em, k⟩ := z
    rw [← lk, List.take_length] at em
    walk_at "rd_6"
    exact q p d its nx M LM em fun a o e => k a o (sH4 _ _ e) (ne_of_none e np) (ne_of_none e nd)
/-! ### a wish -/
def sp__law_wish (K : PySem.W.Frag) : Sp := fun vs H Q _ => ∃ (b l : Addr) (es : List Ent) (last G : Nat), vs = [.ref b, .ref l, .int (last : Int), .int (G : Int)] ∧ Bag b H ∧ Led H l es G ∧ l ≠ b ∧ last ≤ 1000 ∧
  ∀ v (w : Wsh) J, WhAt J v w → 1 ≤ w.n → w.d + w.n ≤ last + 1 → w.wt ≤ 1000000000 → Kp b H J → Bag b J → Q v J
theorem ar__law_wish (K : PySem.W.Frag) : ∀ vs H Q E, sp__law_wish K vs H Q E → vs.length = 4 := by
  intro vs H Q E h
  obtain ⟨b, l, es, last, G, rfl, _⟩ := h
  rfl
abbrev N__law_wish : List Str := ["_law_bag_here", "_law_entries_here", "_law_last", "_law_grain_here", "_law_stretch_here", "_law_whole", "_law_number"]
theorem sc__law_wish : FnScope N__law_wish ["_law_bag_here", "_law_entries_here", "_law_last", "_law_grain_here"] (defScope S__law_wish) := ⟨rfl, rfl, rfl, by decide +kernel, rfl, by decide +kernel, by decide +kernel⟩
theorem ok__law_wish {P : Program} {w : World} {K : PySem.W.Frag} {mg : Str → Option Value} {base : Heap} {f : Addr} {fd : FuncData} (F : Fun K "_law_wish" "_law_wish" S__law_wish f fd) {f__law_take : Addr} {fd__law_take : FuncData} (C__law_take : Cal P w K mg base "_law_take" 1 f__law_take fd__law_take ["_law_bag_here", "_law_size"] (sp__law_take K)) {f__law_before : Addr} {fd__law_before : FuncData} (C__law_before : Cal P w K mg base "_law_before" 1 f__law_before fd__law_before ["_law_entries_here", "_law_day", "_law_grain_here"] (sp__law_before K)) {f__law_stretch : Addr} {fd__law_stretch : FuncData} (C__law_stretch : Cal P w K mg base "_law_stretch" 2 f__law_stretch fd__law_stretch ["_law_bag_here", "_law_last"] (sp__law_stretch K)) (m_sum : mg "sum" = none) :
    FnG P w K mg base CX0 3 f fd ["_law_bag_here", "_law_entries_here", "_law_last", "_law_grain_here"] (sp__law_wish K) := by
  refine Fun_okG F sc__law_wish (ar__law_wish K) (fun cdv A outer s H vs Q E hg hr h => ?_)
  obtain ⟨b, l, es, last, G, rfl, hb, L, nl, lb, q⟩ := h
  refine ⟨_, (pss_cons (ps_set (i := 4) sc__law_wish.nd rfl (Or.inl rfl) (pe_c C__law_stretch hg (hr.mono (by decide)) rfl (pa_cons (pv 0) (pa_cons (pv 2) pa_nil))))
    (pss_cons (ps_set (i := 5) sc__law_wish.nd rfl (Or.inl rfl) (pe_op op_sub (pe_c C__law_before hg (hr.mono (by decide)) rfl (pa_cons (pv 1) (pa_cons (pe_callB (id := "sum") (sumTK (K := K) rfl rfl) (by rfl) m_sum (by decide +kernel) (pa_cons (pv 4) pa_nil)) (pa_cons (pv 3) pa_nil)))) (pe_c C__law_before hg (hr.mono (by decide)) rfl (pa_cons (pv 1) (pa_cons (pe_ix (ixK (K := K) rfl) (pv 4) pe_int (fun _ _ => rfl)) (pa_cons (pv 3) pa_nil))))))
    (pss_cons (ps_set (i := 6) sc__law_wish.nd rfl (Or.inl rfl) (pe_op op_add (pe_op op_dv (pv 5) (pv 3)) (pe_ix (ixK (K := K) rfl) (pe_lst (pa_cons pe_int (pa_cons pe_int (pa_cons pe_int (pa_cons pe_int (pa_cons pe_int (pa_cons (pe_un un_neg pe_int) pa_nil))))))) (pe_c C__law_take hg (hr.mono (by decide)) rfl (pa_cons (pv 0) (pa_cons pe_int pa_nil))) (fun _ _ => rfl))))
    (pss_one (ps_ret (pe_tup (pa_cons (pv 4) (pa_cons (pv 6) (pa_cons (pe_ix (ixK (K := K) rfl) (pe_lst (pa_cons pe_int (pa_cons (pe_op op_add pe_int (pe_c C__law_take hg (hr.mono (by decide)) rfl (pa_cons (pv 0) (pa_cons pe_int pa_nil)))) (pa_cons (pe_op op_pow pe_int pe_int) (pa_cons (pe_op op_add pe_int (pe_c C__law_take hg (hr.mono (by decide)) rfl (pa_cons (pv 0) (pa_cons (pe_op op_pow pe_int pe_int) pa_nil)))) pa_nil))))) (pe_c C__law_take hg (hr.mono (by decide)) rfl (pa_cons (pv 0) (pa_cons pe_int pa_nil))) (fun _ _ => rfl)) pa_nil))))))))), ?_⟩
  have g0 := L.pos
  have g1 := L.lt
  have bdS := L.bd
  walk_at "rd_6"
  refine ⟨b, last, rfl, hb, lb, fun p i n J1 np ep n1 in1 k1 g2 => ?_⟩
  have L1 := L.kp k1 hb nl
  walk_at "rd_6"
  refine rd_sumT (ns := [(i : Int), (n : Int)]) (SqT.of ep) ?_
  rw [show ([(i : Int), (n : Int)]).sum = ((i + n : Nat) : Int) by simp]
  walk_at "rd_6"
  refine ⟨l, es, i + n, G, rfl, L1, fun J2 s2 => ?_⟩
  have ep2 := s2 _ _ ep
  walk_at "rd_6"
  refine ⟨l, es, i, G, rfl, L1.same s2, fun J3 s3 => ?_⟩
  have ep3 := s3 _ _ ep2
  have s13 := Same.trans s2 s3
  have k3 := k1.trans (Kp.of s13)
  have g3 := g2.same s13
  clear ep ep2 s2 s3 s13 k1 g2
  walk_at "rd_6"
  refine rd_I (rd_dvB _ (show (G : Int) ≠ 0 by omega) (show Bd 500 (G : Int) from g1)) ?_
  generalize ((bS G es (i + n) - bS G es i).fdiv (G : Int)) = fl
  walk_at "rd_6"
  rename_i p4 J4 n4 s4 e4
  have m4 : p4 ≠ b := g3.ne n4
  have ep4 := s4 _ _ ep3
  refine ⟨b, 6, rfl, g3.same s4, by decide, by decide, fun r J5 ra rb k5 g5 => ?_⟩
  refine rd_pick (k5 _ _ m4 e4) ra rb fun v hv => ?_
  obtain ⟨x, rfl⟩ : ∃ x : Int, v = .int x := by
    simp only [List.mem_cons, List.not_mem_nil, or_false] at hv
    rcases hv with rfl | rfl | rfl | rfl | rfl | rfl <;> exact ⟨_, rfl⟩
  have ep5 := k5.tup (g3.same s4) ep4
  have K5 := k3.trans ((Kp.of s4).trans k5)
  clear hv e4 ep3 ep4 s4 k5 m4 n4 k3 g3
  walk_at "rd_6"
  refine ⟨b, 4, rfl, g5, by decide, by decide, fun r1 J6 r1a r1b k6 g6 => ?_⟩
  have ep6 := k6.tup g5 ep5
  walk_at "rd_6"
  refine ⟨b, (10 : Int) ^ Int.toNat 6, rfl, g6, by decide +kernel, by decide +kernel, fun r2 J7 r2a r2b k7 g7 => ?_⟩
  have ep7 := k7.tup g6 ep6
  walk_at "rd_6"
  rename_i p8 J8 n8 s8 e8
  have m8 : p8 ≠ b := g7.ne n8
  have ep8 := s8 _ _ ep7
  refine ⟨b, 4, rfl, g7.same s8, by decide, by decide, fun r3 J9 r3a r3b k9 g9 => ?_⟩
  refine rd_pick (k9 _ _ m8 e8) r3a r3b fun v hv => ?_
  obtain ⟨wt, rfl, wb⟩ : ∃ wt : Nat, v = .int (wt : Int) ∧ wt ≤ 1000000000 := by
    have t9 : (10 : Int) ^ Int.toNat 9 = ((1000000000 : Nat) : Int) := by decide +kernel
    have t6 : (10 : Int) ^ Int.toNat 6 = ((1000000 : Nat) : Int) := by decide +kernel
    rw [t6] at r2b
    simp only [List.mem_cons, List.not_mem_nil, or_false] at hv
    rcases hv with rfl | rfl | rfl | rfl
    · exact ⟨1, rfl, by decide⟩
    · exact ⟨(1 + r1).toNat, by rw [Int.toNat_of_nonneg (by omega)], by omega⟩
    · exact ⟨1000000000, by rw [t9], by decide⟩
    · exact ⟨(1 + r2).toNat, by rw [Int.toNat_of_nonneg (by omega)], by omega⟩
  have ep9 := k9.tup (g7.same s8) ep8
  have K9 := K5.trans (k6.trans (k7.trans ((Kp.of s8).trans k9)))
  walk_at "rd_6"
  rename_i pA JA nA sA eA
  exact q (.ref pA) ⟨i, n, _, wt⟩ JA ⟨pA, p, rfl, eA, sA _ _ ep9⟩ n1 in1 wb (K9.trans (Kp.of sA)) (g9.same sA)

/-! ### filled up -/
theorem StmsAt.app1 {H : Hp} {us : List V} {ss : List Stm} (h : StmsAt H us ss) {v : V} {s : Stm} (k : StmAt H v s) : StmsAt H (us ++ [v]) (ss ++ [s]) := by
  induction h with
  | nil => exact .cons k .nil
  | cons a _ ih => exact .cons a ih
theorem led_pu {H J : Hp} {l f : Addr} {es : List Ent} {G : Nat} (p : Pu f H J) (ne : l ≠ f) (h : Led H l es G) : Led J l es G := by
  obtain ⟨vs, h, t, r⟩ := h
  exact ⟨vs, p.lst ne h, t.mono fun a xs e => p.tup e, r⟩
theorem nV_ints (qs : List Nat) : qs.map nV = (qs.map fun u : Nat => (u : Int)).map V.int := by
  rw [List.map_map]
  rfl
theorem join_ifV {c : Bool} {ta tb : TE} {σ : L2.St} {H : Hp} {Q : VK} (P : V → Hp → Prop) (rest : ∀ v H', P v H' → Q v H') (t : c = true → ∀ Q' : VK, (∀ v H', P v H' → Q' v H') → ta σ H Q') (f : c = false → ∀ Q' : VK, (∀ v H', P v H' → Q' v H') → tb σ H Q') : if c = true then ta σ H Q else tb σ H Q := by
  cases c with
  | true =>
    rw [if_pos rfl]
    exact t rfl Q rest
  | false =>
    rw [if_neg Bool.false_ne_true]
    exact f rfl Q rest
def sp__law_filled_up (K : PySem.W.Frag) : Sp := fun vs H Q _ => ∃ (b l sl : Addr) (es : List Ent) (sws : List V) (ss : List Stm) (last G : Nat), vs = [.ref b, .ref l, .ref sl, .int (last : Int), .int (G : Int)] ∧ Bag b H ∧ Led H l es G ∧ l ≠ b ∧ sl ≠ b ∧ H sl = some (.lst sws) ∧ StmsAt H sws ss ∧ sws.length ≤ 24 ∧ (∀ s ∈ ss, 1 ≤ s.many ∧ s.first + s.many ≤ last + 1) ∧ last ≤ 1000 ∧
  ∀ z us ts J, J z = some (.lst us) → StmsAt J us ts → us.length ≤ 24 → (∀ s ∈ ts, 1 ≤ s.many ∧ s.first + s.many ≤ last + 1) → z ≠ b → Kp b H J → Bag b J → Q (.ref z) J
theorem ar__law_filled_up (K : PySem.W.Frag) : ∀ vs H Q E, sp__law_filled_up K vs H Q E → vs.length = 5 := by
  intro vs H Q E h
  obtain ⟨b, l, sl, es, sws, ss, last, G, rfl, _⟩ := h
  rfl
abbrev N__law_filled_up : List Str := ["_law_bag_here", "_law_entries_here", "_law_statements_here", "_law_last", "_law_grain_here", "_law_fine", "_law_unit", "_law_found", "_law_first", "_law_many"]
theorem sc__law_filled_up : FnScope N__law_filled_up ["_law_bag_here", "_law_entries_here", "_law_statements_here", "_law_last", "_law_grain_here"] (defScope S__law_filled_up) := ⟨rfl, rfl, rfl, by decide +kernel, rfl, by decide +kernel, by decide +kernel⟩
theorem ok__law_filled_up {P : Program} {w : World} {K : PySem.W.Frag} {mg : Str → Option Value} {base : Heap} {f : Addr} {fd : FuncData} (F : Fun K "_law_filled_up" "_law_filled_up" S__law_filled_up f fd) {f__law_told : Addr} {fd__law_told : FuncData} (C__law_told : Cal P w K mg base "_law_told" 2 f__law_told fd__law_told ["_law_entries_here", "_law_unit", "_law_first", "_law_many", "_law_grain_here"] (sp__law_told K)) {f__law_take : Addr} {fd__law_take : FuncData} (C__law_take : Cal P w K mg base "_law_take" 1 f__law_take fd__law_take ["_law_bag_here", "_law_size"] (sp__law_take K)) {f__law_stretch : Addr} {fd__law_stretch : FuncData} (C__law_stretch : Cal P w K mg base "_law_stretch" 2 f__law_stretch fd__law_stretch ["_law_bag_here", "_law_last"] (sp__law_stretch K)) {f__law_left : Addr} {fd__law_left : FuncData} (C__law_left : Cal P w K mg base "_law_left" 3 f__law_left fd__law_left ["_law_entries_here", "_law_statements_here", "_law_days", "_law_grain_here"] (sp__law_left K)) (m_len : mg "len" = none) (m_list : mg "list" = none) :
    FnG P w K mg base CX0 4 f fd ["_law_bag_here", "_law_entries_here", "_law_statements_here", "_law_last", "_law_grain_here"] (sp__law_filled_up K) := by
  refine Fun_okG F sc__law_filled_up (ar__law_filled_up K) (fun cdv A outer s H vs Q E hg hr h => ?_)
  obtain ⟨b, l, sl, es, sws, ss, last, G, rfl, hb, L, nl, nsl, hsl, st, lsw, sok, lb, q⟩ := h
  refine ⟨_, (pss_cons (ps_set (i := 5) sc__law_filled_up.nd rfl (Or.inl rfl) (pe_c C__law_left hg (hr.mono (by decide)) rfl (pa_cons (pv 1) (pa_cons (pv 2) (pa_cons (pe_lst pa_nil) (pa_cons (pv 4) pa_nil))))))
    (pss_cons (ps_if (PW.pt (pw_or (pt_cmpR op_gt (pe_c C__law_take hg (hr.mono (by decide)) rfl (pa_cons (pv 0) (pa_cons pe_int pa_nil))) pe_int (nomark _)) (pw_or1 (pt_cmpR (eqK (K := K) rfl (room_u hr)) (pv 5) (pe_lst pa_nil) (nomark _))))) (pss_one (ps_ret (pv 2))) pss_nil)
    (pss_cons (ps_par (i := 6) (j := 7) rfl sc__law_filled_up.nd rfl rfl (by decide) rfl rfl (pa_cons (pe_ix (ixK (K := K) rfl) (pv 5) (pe_c C__law_take hg (hr.mono (by decide)) rfl (pa_cons (pv 0) (pa_cons (pe_callB (id := "len") (lenK (K := K) rfl) (by rfl) m_len (by decide +kernel) (pa_cons (pv 5) pa_nil)) pa_nil))) (fun _ _ => rfl)) (pa_cons (pe_callTy (T := "list") (lstK (K := K) rfl) (by rfl) m_list (by decide +kernel) (pa_cons (pv 2) pa_nil)) pa_nil)) (by rfl))
    (pss_cons (ps_while PassesOwn.never (pt_cmpR op_lt (pe_callB (id := "len") (lenK (K := K) rfl) (by rfl) m_len (by decide +kernel) (pa_cons (pv 7) pa_nil)) pe_int (nomark _)) (pss_cons (ps_asg (pe_ifExp (pt_cmpR op_eq (pe_c C__law_take hg (hr.mono (by decide)) rfl (pa_cons (pv 0) (pa_cons pe_int pa_nil))) pe_int (nomark _)) (pe_c C__law_stretch hg (hr.mono (by decide)) rfl (pa_cons (pv 0) (pa_cons (pv 3) pa_nil))) (pe_tup (pa_cons pe_int (pa_cons (pe_op op_add (pv 3) pe_int) pa_nil)))) (pg_tup rfl (pgs_cons (pg_name (i := 8) sc__law_filled_up.nd rfl (Or.inl rfl)) (pgs_cons (pg_name (i := 9) sc__law_filled_up.nd rfl (Or.inl rfl)) pgs_nil))))
    (pss_one (ps_expr (pe_bm PySem.F.plainAttrs_list PySem.F.slot_list_append PySem.F.type_list_append mt_append (pv 7) (pa_cons (pe_tup (pa_cons pe_str (pa_cons (pv 8) (pa_cons (pv 9) (pa_cons (pe_c C__law_told hg (hr.mono (by decide)) rfl (pa_cons (pv 1) (pa_cons (pv 6) (pa_cons (pv 8) (pa_cons (pv 9) (pa_cons (pv 4) pa_nil)))))) pa_nil))))) pa_nil))))))
    (pss_one (ps_ret (pv 7))))))), ?_⟩
  walk_at "rd_6"
  rename_i p1 J1 n1 s1 e1
  refine ⟨l, sl, p1, es, sws, ss, [], G, rfl, L.same s1, s1 _ _ hsl, st.mono fun p xs h => s1 _ _ h, lsw, e1, by simp, fun ps z J2 s2 n2 pts e2 => ?_⟩
  have s12 := Same.trans s1 s2
  have g2 := hb.same s12
  have mz : z ≠ b := (hb.same s1).ne n2
  have lq : (ps.filter (okU G es ss)).length ≤ 73 := Nat.le_trans (List.length_filter_le _ _) pts.2.2
  have L2 := L.same s12
  have hs2 := s12 _ _ hsl
  have st2 := st.mono fun p xs h => s12 _ _ h
  have k2 := Kp.of (b := b) s12
  clear s1 s2 s12 e1 n1 n2 pts
  generalize ps.filter (okU G es ss) = qs at e2 lq
  walk_at "rd_6"
  refine ⟨b, 4, rfl, g2, by decide, by decide, fun r J3 ra rb k3 g3 => ?_⟩
  have e3 := k3 _ _ mz e2
  have hs3 := k3 _ _ nsl hs2
  have st3 := st2.mono fun p xs h => k3.tup g2 h
  have L3 := L2.kp k3 g2 nl
  have K3 := k2.trans k3
  clear e2 hs2 st2 L2 k2 k3 g2
  walk_at "rd_6"
  refine rd_if (fun c => ?_) (fun c => ?_)
  · refine iteT ?_
    walk_at "rd_6"
    exact q sl sws ss J3 hs3 st3 lsw sok nsl K3 g3
  walk_at "rd_6"
  rename_i p4 J4 n4 s4 e4
  refine rd_eqIs (ns := qs.map fun u : Nat => (u : Int)) (ms := []) (SqL.of (by rw [← nV_ints]; exact s4 _ _ e3)) (SqL.of e4) ?_
  have e3 := s4 _ _ e3
  have hs3 := s4 _ _ hs3
  have st3 := st3.mono fun p xs h => s4 _ _ h
  have L3 := L3.same s4
  have K3 := K3.trans (Kp.of s4)
  have g3 := g3.same s4
  clear s4 e4 n4
  walk_at "rd_6"
  refine rd_if (fun c2 => ?_) (fun c2 => ?_)
  · walk_at "rd_6"
    exact q sl sws ss J4 hs3 st3 lsw sok nsl K3 g3
  · have q0 : 0 < qs.length := List.length_pos_iff.mpr fun z => c2 (by rw [z]; rfl)
    walk_at "rd_6"
    rw [List.length_map]
    refine ⟨b, (qs.length : Int), rfl, g3, by omega, by omega, fun r2 J5 r2a r2b k5 g5 => ?_⟩
    refine rd_pick (k5 _ _ mz e3) r2a (by rw [List.length_map]; exact r2b) fun v hv => ?_
    obtain ⟨u, _, rfl⟩ := List.mem_map.mp hv
    have hs5 := k5 _ _ nsl hs3
    have st5 := st3.mono fun p xs h => k5.tup g3 h
    have L5 := L3.kp k5 g3 nl
    have K5 := K3.trans k5
    clear hv e3 hs3 st3 L3 K3 g3 k5
    walk_at "rd_6"
    refine rd_lstOf (SqL.of hs5) fun fd J6 n6 s6 e6 => ?_
    have mf : fd ≠ b := g5.ne n6
    have nH : H fd = none := K5.free g5 n6
    have st6 := st5.mono fun p xs h => s6 _ _ h
    have L6 := L5.same s6
    have K6 := K5.trans (Kp.of s6)
    have g6 := g5.same s6
    have lf : l ≠ fd := fun z => by
      obtain ⟨_, h, _⟩ := L5
      rw [z] at h
      rw [h] at n6
      cases n6
    clear st5 L5 K5 g5 s6 n6 hs5
    walk_at "rd_6"
    refine ⟨fun k σ M => ∃ (us : List V) (ts : List Stm) (o8 o9 : Option V), σ = [some (.ref b), some (.ref l), some (.ref sl), some (.int (last : Int)), some (.int (G : Int)), some (.ref z), some (nV u), some (.ref fd), o8, o9] ∧ M fd = some (.lst us) ∧ StmsAt M us ts ∧ (∀ s ∈ ts, 1 ≤ s.many ∧ s.first + s.many ≤ last + 1) ∧ us.length ≤ 24 ∧ Led M l es G ∧ Kp b H M ∧ Bag b M ∧ k = 24 - us.length,
      ⟨_, sws, ss, none, none, rfl, e6, st6, sok, lsw, L6, K6, g6, rfl⟩, ?_⟩
    rintro k σ M ⟨us, ts, o8, o9, rfl, eM, stM, tok, lu, LM, kM, gM, rfl⟩
    clear e6 st6 L6 K6 g6
    walk_at "rd_6"
    refine rd_if (fun c => ?_) (fun c => ?_)
    · refine ⟨_, fun _ _ h => h, ?_⟩
      walk_at "rd_6"
      refine ⟨b, 3, rfl, gM, by decide, by decide, fun r7 J7 r7a r7b k7 g7 => ?_⟩
      have e7 := k7 _ _ mf eM
      have st7 := stM.mono fun p xs h => k7.tup gM h
      have L7 := LM.kp k7 gM nl
      have K7 := kM.trans k7
      clear eM stM LM kM k7 gM
      walk_at "rd_6"
      refine join_ifV (fun v M => ∃ (p : Addr) (i n : Nat), v = .ref p ∧ M p = some (.tup [.int (i : Int), .int (n : Int)]) ∧ 1 ≤ n ∧ i + n ≤ last + 1 ∧ Kp b J7 M ∧ Bag b M) (fun v M w => ?rest) (fun c Q' nx => ?t) (fun c Q' nx => ?f)
      case t =>
        walk_at "rd_6"
        exact ⟨b, last, rfl, g7, lb, fun p i n J8 np ep n1 in1 k8 g8 => nx _ _ ⟨p, i, n, rfl, ep, n1, in1, k8, g8⟩⟩
      case f =>
        walk_at "rd_6"
        rename_i p8 J8 n8 s8 e8
        exact nx _ _ ⟨p8, 0, last + 1, rfl, e8, by omega, by omega, Kp.of s8, g7.same s8⟩
      case rest =>
        obtain ⟨p, i, n, rfl, ep, n1, in1, k8, g8⟩ := w
        have e8 := k8 _ _ mf e7
        have st8 := st7.mono fun p xs h => k8.tup g7 h
        have L8 := L7.kp k8 g7 nl
        have K8 := K7.trans k8
        clear e7 st7 L7 K7 k8 g7
        walk_at "rd_6"
        refine ⟨l, es, (u : Int), i, n, G, rfl, L8, fun J9 s9 => ?_⟩
        walk_at "rd_6"
        rename_i p10 J10 n10 s10 e10
        have sA := Same.trans s9 s10
        have lnS := st8.len
        refine rd_appK (sA _ _ e8) (by omega) fun J11 p11 e11 => ?_
        walk_at "rd_6"
        refine ⟨_, ?_, us ++ [.ref p10], ts ++ [⟨i, n, _⟩], _, _, rfl, e11, StmsAt.app1 (st8.mono fun p xs h => p11.tup (sA _ _ h)) ⟨p10, rfl, p11.tup e10⟩, fun s hs => ?_, by rw [List.length_append, List.length_singleton]; omega, led_pu p11 lf (L8.same sA), (K8.trans (Kp.of sA)).pu p11 nH, p11.bag mf (g8.same sA), rfl⟩
        · rw [List.length_append, List.length_singleton]
          omega
        · rcases List.mem_append.mp hs with h | h
          · exact tok s h
          · obtain rfl := List.mem_singleton.mp h
            exact ⟨n1, in1⟩
    · walk_at "rd_6"
      exact q fd us ts M eM stM lu tok mf kM gM

/-! ### the law: right -/
theorem join_ifS {tt : TT} {A B : TS} {E : Ends} {σ : L2.St} {H : Hp} (P : L2.St → Hp → Prop) (rest : ∀ σ' H', P σ' H' → E.nx σ' H') (go : ∀ E' : Ends, (∀ σ' H', P σ' H' → E'.nx σ' H') → tIfS tt A B E' σ H) : tIfS tt A B E σ H := go E rest
def whD (w : Wsh) : PyData := .tuple [.tuple [.int (w.d : Int), .int (w.n : Int)], .int w.num, .int (w.wt : Int)]
theorem whs_dp {K : PySem.W.Frag} {H : Hp} : ∀ {rs : List V} {ws : List Wsh}, WhsAt H rs ws → DpAll K H rs (ws.map whD)
  | _, _, .nil => .nil
  | _, _, .cons ⟨t, p, e, et, ep⟩ r => by
    subst e
    exact .cons (.tup (SqT.of et) (.cons (.tup (SqT.of ep) (.cons (.int _) (.cons (.int _) .nil))) (.cons (.int _) (.cons (.int _) .nil)))) (whs_dp r)
theorem whs_lay : ∀ ws : List Wsh, PyData.canLayAll0 (ws.map whD) = true ∧ PyData.depthAll (ws.map whD) ≤ 3
  | [] => by simp [PyData.canLayAll0, PyData.depthAll]
  | w :: ws => by
    obtain ⟨a, b⟩ := whs_lay ws
    refine ⟨by simp [whD, PyData.canLayAll0, PyData.canLay0, a], ?_⟩
    have : (whD w).depth ≤ 3 := by simp [whD, PyData.depth, PyData.depthAll]
    simp only [List.map_cons, PyData.depthAll]
    omega
theorem rd_neWhs {K : PySem.W.Frag} {H : Hp} {Q : VK} {a c : Addr} {rs : List V} {ws : List Wsh} (h : SqL K H a rs) (k : SqL K H c rs) (W : WhsAt H rs ws) (q : Q (.bl false) H) : rNeD K (.ref a) (.ref c) H Q := by
  obtain ⟨l1, l2⟩ := whs_lay ws
  have c0 : (PyData.list (ws.map whD)).canLay0 = true := by simp [PyData.canLay0, l1]
  have sh : SeqAt.shaped (PyData.list (ws.map whD)) = true := by
    have : (PyData.list (ws.map whD)).depth ≤ 64 := by simp only [PyData.depth]; omega
    simp [SeqAt.shaped, c0, this]
  refine ⟨_, _, Dp.lst h (whs_dp W), Dp.lst k (whs_dp W), sh, sh, ?_⟩
  rw [PySem.SeqAt.eqv_refl _ c0]
  exact q
def wrD (W : Nat) (r : Int × Int) : PyData := .tuple [.int (W : Int), ratD r]
theorem wr_dp {K : PySem.W.Frag} {H : Hp} {z c : Addr} {W : Nat} {x y : Int} (ez : H z = some (.tup [.int (W : Int), .ref c])) (ec : SqT K H c [.int x, .int y]) : Dp K H (.ref z) (wrD W (x, y)) :=
  .tup (SqT.of ez) (.cons (.int _) (.cons (.tup ec (.cons (.int _) (.cons (.int _) .nil))) .nil))
theorem whs_last {H : Hp} {r v : V} {w0 : Wsh} (hv : WhAt H v w0) : ∀ {xs : List V} {ws : List Wsh}, WhsAt H (xs ++ [r]) ws → ∃ us, WhsAt H (xs ++ [v]) (us ++ [w0]) ∧ ∀ u ∈ us, u ∈ ws
  | [], _, .cons _ .nil => ⟨[], .cons hv .nil, fun u h => by cases h⟩
  | x :: xs, _, .cons (w := w) a t => by
    obtain ⟨us, k, m⟩ := whs_last hv (xs := xs) t
    refine ⟨w :: us, .cons a k, fun u h => ?_⟩
    rcases List.mem_cons.mp h with rfl | h
    · exact List.mem_cons_self ..
    · exact List.mem_cons_of_mem _ (m u h)
def sp__law_right (K : PySem.W.Frag) : Sp := fun vs H Q _ => ∃ (b : Addr), vs = [.ref b] ∧ Bag b H ∧ ∀ J, Kp b H J → Bag b J → Q (.bl true) J
theorem ar__law_right (K : PySem.W.Frag) : ∀ vs H Q E, sp__law_right K vs H Q E → vs.length = 1 := by
  intro vs H Q E h
  obtain ⟨b, rfl, _⟩ := h
  rfl
abbrev N__law_right : List Str := ["_law_bag_here", "_law_entries_here", "_law_statements_here", "_law_last", "_law_grain_here", "_law_ledger", "_law_turn", "_law_wishes", "_law_spot", "_law_handed", "_law_due_here"]
theorem sc__law_right : FnScope N__law_right ["_law_bag_here"] (defScope S__law_right) := ⟨rfl, rfl, rfl, by decide +kernel, rfl, by decide +kernel, by decide +kernel⟩
theorem ok__law_right {P : Program} {w : World} {K : PySem.W.Frag} {mg : Str → Option Value} {base : Heap} {f : Addr} {fd : FuncData} (F : Fun K "_law_right" "_law_right" S__law_right f fd) {f_best : Addr} {fd_best : FuncData} (C_best : Cal P w K mg base "best" 12 f_best fd_best ["ledger", "wishes"] (sp_best K)) {f__law_due : Addr} {fd__law_due : FuncData} (C__law_due : Cal P w K mg base "_law_due" 4 f__law_due fd__law_due ["_law_entries_here", "_law_statements_here", "_law_wishes", "_law_grain_here"] (sp__law_due K)) {f__law_take : Addr} {fd__law_take : FuncData} (C__law_take : Cal P w K mg base "_law_take" 1 f__law_take fd__law_take ["_law_bag_here", "_law_size"] (sp__law_take K)) {f__law_wish : Addr} {fd__law_wish : FuncData} (C__law_wish : Cal P w K mg base "_law_wish" 3 f__law_wish fd__law_wish ["_law_bag_here", "_law_entries_here", "_law_last", "_law_grain_here"] (sp__law_wish K)) {f__law_exactly : Addr} {fd__law_exactly : FuncData} (C__law_exactly : Cal P w K mg base "_law_exactly" 8 f__law_exactly fd__law_exactly ["_law_entries_here", "_law_statements_here"] (sp__law_exactly K)) {f__law_filled_up : Addr} {fd__law_filled_up : FuncData} (C__law_filled_up : Cal P w K mg base "_law_filled_up" 4 f__law_filled_up fd__law_filled_up ["_law_bag_here", "_law_entries_here", "_law_statements_here", "_law_last", "_law_grain_here"] (sp__law_filled_up K)) {f__law_case : Addr} {fd__law_case : FuncData} (C__law_case : Cal P w K mg base "_law_case" 6 f__law_case fd__law_case ["_law_bag_here", "_law_most"] (sp__law_case K)) (m_range : mg "range" = none) (m_repr : mg "repr" = none) (m_list : mg "list" = none) (m_len : mg "len" = none) :
    FnG P w K mg base CX0 13 f fd ["_law_bag_here"] (sp__law_right K) := by
  refine Fun_okG F sc__law_right (ar__law_right K) (fun cdv A outer s H vs Q E hg hr h => ?_)
  obtain ⟨b, rfl, hb, q⟩ := h
  refine ⟨_, (pss_cons (ps_asg (pe_c C__law_case hg (hr.mono (by decide)) rfl (pa_cons (pv 0) (pa_cons pe_int pa_nil))) (pg_tup rfl (pgs_cons (pg_name (i := 1) sc__law_right.nd rfl (Or.inr rfl)) (pgs_cons (pg_name (i := 2) sc__law_right.nd rfl (Or.inl rfl)) (pgs_cons (pg_name (i := 3) sc__law_right.nd rfl (Or.inr rfl)) (pgs_cons (pg_name (i := 4) sc__law_right.nd rfl (Or.inr rfl)) pgs_nil))))))
    (pss_cons (ps_set (i := 2) sc__law_right.nd rfl (Or.inl rfl) (pe_c C__law_filled_up hg (hr.mono (by decide)) rfl (pa_cons (pv 0) (pa_cons (pv 1) (pa_cons (pv 2) (pa_cons (pv 3) (pa_cons (pv 4) pa_nil)))))))
    (pss_cons (ps_set (i := 5) sc__law_right.nd rfl (Or.inl rfl) (pe_c C__law_exactly hg (hr.mono (by decide)) rfl (pa_cons (pv 1) (pa_cons (pv 2) pa_nil))))
    (pss_cons (ps_for PassesOwn.never rfl (pi_range1 rfl m_range (pa_cons pe_int pa_nil)) (pg_name (i := 6) sc__law_right.nd rfl (Or.inl rfl)) (pss_cons (ps_setLc (i := 7) (own := [("_law_spot", 8)]) rfl sc__law_right.nd rfl rfl (sw_true rfl rfl rfl (by decide +kernel)) (pi_range1 rfl m_range (pa_cons (pe_c C__law_take hg (hr.mono (by decide)) rfl (pa_cons (pv 0) (pa_cons pe_int pa_nil))) pa_nil)) (blkOk_by (own := [("_law_spot", 8)]) (N := N__law_right) (sc := defScope S__law_right) (by decide +kernel)) (fun _ _ _ _ _ => (pg_name (i := 8) sc__law_right.nd rfl (Or.inl rfl))) (fun _ _ _ _ _ => pts_nil) (fun _ _ _ _ _ => (pe_c C__law_wish hg (hr.mono (by decide)) rfl (pa_cons (pv 0) (pa_cons (pv 1) (pa_cons (pv 3) (pa_cons (pv 4) pa_nil)))))))
    (pss_cons (ps_if (PW.pt (pw_and (pt_cmpR op_gt (pe_callB (id := "len") (lenK (K := K) rfl) (by rfl) m_len (by decide +kernel) (pa_cons (pv 7) pa_nil)) pe_int (nomark _)) (pw_and1 (pt_cmpR op_eq (pe_c C__law_take hg (hr.mono (by decide)) rfl (pa_cons (pv 0) (pa_cons pe_int pa_nil))) pe_int (nomark _))))) (pss_one (ps_asg (pe_ix (ixK (K := K) rfl) (pv 7) pe_int (fun _ _ => rfl)) (pg_sub (pv 7) (pe_un un_neg pe_int) set_list))) pss_nil)
    (pss_cons (ps_set (i := 9) sc__law_right.nd rfl (Or.inl rfl) (pe_callTy (T := "list") (lstK (K := K) rfl) (by rfl) m_list (by decide +kernel) (pa_cons (pv 7) pa_nil)))
    (pss_cons (ps_set (i := 10) sc__law_right.nd rfl (Or.inl rfl) (pe_c C__law_due hg (hr.mono (by decide)) rfl (pa_cons (pv 1) (pa_cons (pv 2) (pa_cons (pv 7) (pa_cons (pv 4) pa_nil))))))
    (pss_one (ps_if (PW.pt (pw_or (pt_cmpR op_ne (pe_callB (id := "repr") (reprT (K := K) rfl hg (room_u hr)) (by rfl) m_repr (by decide +kernel) (pa_cons (pe_c C_best hg (hr.mono (by decide)) rfl (pa_cons (pv 5) (pa_cons (pv 9) pa_nil))) pa_nil)) (pe_callB (id := "repr") (reprT (K := K) rfl hg (room_u hr)) (by rfl) m_repr (by decide +kernel) (pa_cons (pv 10) pa_nil)) (nomark _)) (pw_or1 (pt_cmpR (neK (K := K) rfl (room_u hr)) (pv 9) (pv 7) (nomark _))))) (pss_one (ps_ret pe_bl)) pss_nil)))))))
    (pss_one (ps_ret pe_bl)))))), ?_⟩
  walk_at "rd_6"
  refine ⟨b, 5, rfl, hb, by decide, fun p0 l s es ss last G J1 ep C1 ha l5 nl ns nls _ _ k1 g1 => ?_⟩
  obtain ⟨us, hs, S1⟩ := C1.at_
  have lh13 := C1.hi
  have les := C1.len
  have lnS := S1.len
  walk_at "rd_6"
  refine ⟨b, l, s, es, us, ss, last, G, rfl, g1, C1.led, nl, ns, hs, S1, by omega, fun x hx => ⟨(C1.stm x hx).1, (C1.stm x hx).2.1⟩, by omega, fun s2 us2 ts J2 hs2 S2 l24 ok2 ns2 k2 g2 => ?_⟩
  have L2 := C1.led.kp k2 g1 nl
  have K2 := k1.trans k2
  clear ep C1 hs S1 lnS k1 k2 g1 hb us ss l5 ns nls
  have L2' := L2
  obtain ⟨ws, hl, E1, fit, g0, G500, lw⟩ := L2'
  have lnE := E1.len
  have stok : ∀ x ∈ ts, StOk x := fun x hx => by
    have := ok2 x hx
    refine ⟨?_, this.1⟩
    have e : (14 : Nat) ≤ 10 ^ 30 := by decide
    omega
  walk_at "rd_6"
  refine ⟨l, s2, ws, us2, es, ts, rfl, hl, E1, ha, hs2, S2, stok, by omega, l24, fun p d its nx J3 LG em s3 => ?_⟩
  have L3 := L2.same s3
  have hs3 := s3 _ _ hs2
  have S3 := S2.mono fun p xs h => s3 _ _ h
  have K3 := K2.trans (Kp.of s3)
  have g3 := g2.same s3
  have eE : entsOf (its.map (·.2)) = es := by rw [em, entsOf_app, entsOf_en, entsOf_st, List.append_nil]
  have eS : stmsOf (its.map (·.2)) = ts := by rw [em, stmsOf_app, stmsOf_en, stmsOf_st, List.nil_append]
  have lnT := S3.len
  clear hl E1 hs2 S2 L2 K2 g2 s3 em stok
  walk_at "rd_6"
  refine lp_rng (fun _ σ' M => ∃ o6 o7 o8 o9 o10, σ' = [some (.ref b), some (.ref l), some (.ref s2), some (.int (last : Int)), some (.int (G : Int)), some (.ref p), o6, o7, o8, o9, o10] ∧ Led M l es G ∧ M s2 = some (.lst us2) ∧ StmsAt M us2 ts ∧ LgAt K M p d its nx ∧ Kp b H M ∧ Bag b M) ⟨none, none, none, none, none, rfl, L3, hs3, S3, LG, K3, g3⟩ (fun i σ M hi z => ?_) (fun σ M z => ?_)
  · obtain ⟨o6, o7, o8, o9, o10, rfl, LM, hsM, SM, LGM, kM, gM⟩ := z
    clear L3 hs3 S3 LG K3 g3
    walk_at "rd_6"
    refine ⟨b, 13, rfl, gM, by decide, by decide, fun r7 J7 r7a r7b k7 g7 => ?_⟩
    have L7 := LM.kp k7 gM nl
    have hs7 := k7 _ _ ns2 hsM
    have S7 := SM.mono fun p xs h => k7.tup gM h
    have LG7 := LGM.kb k7 gM
    have K7 := kM.trans k7
    clear LM hsM SM LGM kM gM k7
    walk_at "rd_6"
    have hn : r7.toNat ≤ 12 := by omega
    generalize r7.toNat = N at hn ⊢
    intro D nD
    have mD : D ≠ b := g7.ne nD
    have nH : H D = none := K7.free g7 nD
    refine lc_growB (fun i ys J => Kd b D J7 J ∧ Bag b J ∧ ∃ ws, WhsAt J ys ws ∧ ∀ w ∈ ws, 1 ≤ w.n ∧ w.d + w.n ≤ last + 1 ∧ w.wt ≤ 1000000000) ⟨Kd.start _, g7.new nD, [], .nil, fun e he => by cases he⟩ (fun i ys J hi hy hD w => ?_) fun ys J8 hy hD w => ?_
    · obtain ⟨kd, gJ, zs, hw, ok⟩ := w
      have LJ : Led J l es G := L7.kp (kd.of nD) g7 nl
      walk_at "rd_6"
      refine ⟨rfl, ?_⟩
      walk_at "rd_6"
      refine ⟨b, l, es, last, G, rfl, gJ, LJ, nl, by omega, fun v w J2 hv a1 a2 a3 k2 g2 => ?_⟩
      refine lcEndB_mk (k2 _ _ mD hD) hy (by omega) fun J4 p4 e4 => ⟨(kd.kp k2).pu p4, p4.bag mD g2, zs ++ [w], ?_, fun x hx => ?_⟩
      · exact (hw.mono fun p xs h => p4.tup (k2.tup gJ h)).app (.cons (by
          obtain ⟨t, pp, e1, e2, e3⟩ := hv
          exact ⟨t, pp, e1, p4.tup e2, p4.tup e3⟩) .nil)
      · rcases List.mem_append.mp hx with hx | hx
        · exact ok x hx
        · obtain rfl := List.mem_singleton.mp hx
          exact ⟨a1, a2, a3⟩
    obtain ⟨kd, g8, zs, hw, ok⟩ := w
    have k8 := kd.of nD
    have L8 := L7.kp k8 g7 nl
    have hs8 := k8 _ _ ns2 hs7
    have S8 := S7.mono fun p xs h => k8.tup g7 h
    have LG8 := LG7.kb k8 g7
    have K8 := K7.trans k8
    have lD : l ≠ D := fun z => by
      obtain ⟨_, h, _⟩ := L7
      rw [z] at h
      rw [h] at nD
      cases nD
    have sD : s2 ≠ D := ne_of_none hs7 nD
    clear L7 hs7 S7 LG7 K7 k8 kd g7 nD
    dsimp only [gName, tSeq, tAsg]
    refine join_ifS (fun σ' M => ∃ rws ws o8 o9 o10, σ' = [some (.ref b), some (.ref l), some (.ref s2), some (.int (last : Int)), some (.int (G : Int)), some (.ref p), some (.int (0 + (i : Int))), some (.ref D), o8, o9, o10] ∧ M D = some (.lst rws) ∧ WhsAt M rws ws ∧ rws.length ≤ 12 ∧ (∀ w ∈ ws, 1 ≤ w.n ∧ w.d + w.n ≤ last + 1 ∧ w.wt ≤ 1000000000) ∧ Led M l es G ∧ M s2 = some (.lst us2) ∧ StmsAt M us2 ts ∧ LgAt K M p d its nx ∧ Kp b H M ∧ Bag b M) (fun σ M w => ?rest) (fun E' cont => ?go)
    case go =>
      walk_at "rd_6"
      have inv : ∀ (M : Hp) (rws : List V) (ws : List Wsh), M D = some (.lst rws) → WhsAt M rws ws → rws.length ≤ 12 → (∀ w ∈ ws, 1 ≤ w.n ∧ w.d + w.n ≤ last + 1 ∧ w.wt ≤ 1000000000) → Led M l es G → M s2 = some (.lst us2) → StmsAt M us2 ts → LgAt K M p d its nx → Kp b H M → Bag b M →
          E'.nx [some (.ref b), some (.ref l), some (.ref s2), some (.int (last : Int)), some (.int (G : Int)), some (.ref p), some (.int (0 + (i : Int))), some (.ref D), o8, o9, o10] M := fun M rws ws h1 h2 h3 h4 h5 h6 h7 h8 h9 hA => cont _ _ ⟨rws, ws, o8, o9, o10, rfl, h1, h2, h3, h4, h5, h6, h7, h8, h9, hA⟩
      refine rd_if (fun c => ?_) (fun c => ?_)
      · walk_at "rd_6"
        refine ⟨b, 3, rfl, g8, by decide, by decide, fun r M1 ra rb k1 gA => ?_⟩
        have hD1 := k1 _ _ mD hD
        have W1 := hw.mono fun p xs h => k1.tup g8 h
        have LA := L8.kp k1 g8 nl
        have hsA := k1 _ _ ns2 hs8
        have SA := S8.mono fun p xs h => k1.tup g8 h
        have LGA := LG8.kb k1 g8
        have KA := K8.trans k1
        walk_at "rd_6"
        refine rd_if (fun z => ?_) (fun z => ?_)
        · have y0 : 0 < ys.length := by omega
          obtain ⟨w0, ew0, hw0⟩ := W1.get (List.getElem?_eq_getElem y0)
          walk_at "rd_6"
          refine rd_sxL (SqL.of hD1) (atI_nat (j := 0) (List.getElem?_eq_getElem y0)) ?_
          walk_at "rd_6"
          have ne : ys ≠ [] := fun z => by rw [z] at y0; cases y0
          have sp_ := List.dropLast_concat_getLast ne
          refine rd_setLast (xs := ys.dropLast) (r := ys.getLast ne) (by rw [sp_]; exact hD1) fun J9 p9 e9 => ?_
          rw [← sp_] at W1
          obtain ⟨vs, W9, mem⟩ := whs_last hw0 W1
          have wok9 : ∀ w ∈ vs ++ [w0], 1 ≤ w.n ∧ w.d + w.n ≤ last + 1 ∧ w.wt ≤ 1000000000 := fun w h => by
            rcases List.mem_append.mp h with h | h
            · exact ok w (mem w h)
            · obtain rfl := List.mem_singleton.mp h
              exact ok _ (List.mem_of_getElem? ew0)
          exact inv J9 _ _ e9 (W9.mono fun p xs h => p9.tup h) (by simp; omega) wok9 (led_pu p9 lD LA) (p9.lst sD hsA) (SA.mono fun p xs h => p9.tup h) (LGA.kl p9.1 hD1) (KA.pu p9 nH) (p9.bag mD gA)
        · walk_at "rd_6"
          exact inv M1 _ _ hD1 W1 (by omega) ok LA hsA SA LGA KA gA
      · refine iteF ?_
        walk_at "rd_6"
        exact inv J8 _ _ hD hw (by omega) ok L8 hs8 S8 LG8 K8 g8
    case rest =>
      obtain ⟨rws, ws, o8, o9, o10, rfl, hD, W, lr, wok, L9, hs9, S9, LG9, K9, g9⟩ := w
      walk_at "rd_6"
      refine rd_lstOf (SqL.of hD) fun hd JA nA sA eA => ?_
      have lT := S9.len
      have lnL := congrArg List.length eE
      have lnS := congrArg List.length eS
      have wok2 : ∀ w ∈ ws, 1 ≤ w.n ∧ w.d + w.n ≤ 10 ^ 30 ∧ w.wt ≤ 1000000000 := fun w hw => by
        have := wok w hw
        have e : (14 : Nat) ≤ 10 ^ 30 := by decide
        exact ⟨this.1, by omega, this.2.2⟩
      walk_at "rd_6"
      refine ⟨l, s2, D, es, us2, ts, rws, ws, G, rfl, L9.same sA, sA _ _ hs9, S9.mono fun p xs h => sA _ _ h, by omega, sA _ _ hD, W.mono fun p xs h => sA _ _ h, lr, (fun w hw => (wok w hw).2.2), fun JB sB no => ?_, fun z c x y u JB sB ez ec low uG ou gd => ?_⟩
      · have sAB := Same.trans sA sB
        walk_at "rd_6"
        refine ⟨p, d, its, nx, G, hd, rws, ws, rfl, LG9.same sAB, g0, G500, by rw [eE]; exact fit, by omega, by omega, sB _ _ eA, W.mono fun p xs h => sAB _ _ h, by omega, wok2, fun JC sC _ => ?_, fun z c x y u JC sC ez ec low uG ou gd => ?_⟩
        · have sAC := Same.trans sAB sC
          walk_at "rd_6"
          refine rd_reprTN ?_
          walk_at "rd_6"
          refine rd_reprTN ?_
          walk_at "rd_6"
          refine iteF ?_
          walk_at "rd_6"
          refine rd_neWhs (SqL.of (sC _ _ (sB _ _ eA))) (SqL.of (sAC _ _ hD)) (W.mono fun p xs h => sAC _ _ h) ?_
          walk_at "rd_6"
          refine iteF ?_
          walk_at "rd_6"
          exact ⟨_, _, _, _, _, rfl, L9.same sAC, sAC _ _ hs9, S9.mono fun p xs h => sAC _ _ h, LG9.same sAC, K9.trans (Kp.of sAC), g9.same sAC⟩
        · rw [eE, eS, no u uG] at ou
          cases ou
      · have sAB := Same.trans sA sB
        walk_at "rd_6"
        refine ⟨p, d, its, nx, G, hd, rws, ws, rfl, LG9.same sAB, g0, G500, by rw [eE]; exact fit, by omega, by omega, sB _ _ eA, W.mono fun p xs h => sAB _ _ h, by omega, wok2, fun JC sC no => ?_, fun z2 c2 x2 y2 u2 JC sC ez2 ec2 low2 uG2 ou2 gd2 => ?_⟩
        · have := no u uG
          rw [eE, eS, ou] at this
          cases this
        · rw [eE, eS] at ou2 gd2
          rw [eE] at ez2
          obtain rfl := gd_uniq (gd u2 uG2 ou2) (gd2 u uG ou)
          obtain ⟨rfl, rfl⟩ := low_uniq low2 low (by omega) (by omega) rfl
          have sAC := Same.trans sAB sC
          have bW : Bd 500 ((wgt G es ws u : Nat) : Int) := Bd.mono (m := 40) (by
            have := wgt_le9 (G := G) (es := es) (u := u) fun w hw => (wok w hw).2.2
            have lw := W.len
            unfold Bd
            omega) (by decide)
          have bx : Bd 500 x2 := Nat.lt_of_le_of_lt low.2.2.2.1 (Nat.lt_trans (show (u : Int).natAbs < G by omega) G500)
          have by2 : Bd 500 y2 := Nat.lt_of_le_of_lt low.2.2.2.2 G500
          have rp : ∀ {J : Hp} {zz cc : Addr} {R : VK}, J zz = some (.tup [.int (wgt G es ws u : Nat), .ref cc]) → SqT K J cc [.int x2, .int y2] → R (.str (wrD (wgt G es ws u) (x2, y2)).shown) J → rReprT K [.ref zz] J R := fun h1 h2 q => by
            have l0 := bW.log
            have l1 := bx.log
            have l2 := by2.log
            refine rd_reprTD (d := wrD (wgt G es ws u) (x2, y2)) (wr_dp h1 h2) ?_ ?_ ?_ q
            · simp only [wrD, ratD, smT, smsT, Bool.and_true, Bool.and_eq_true, decide_eq_true_eq]
              omega
            · simp only [wrD, ratD, szT, szsT]
              omega
            · simp only [wrD, ratD, PyData.depth, PyData.depthAll]
              omega
          walk_at "rd_6"
          refine rp ez2 ec2 ?_
          walk_at "rd_6"
          refine rp (sC _ _ ez) (SqT.of (sC _ _ ec)) ?_
          walk_at "rd_6"
          refine iteF ?_
          walk_at "rd_6"
          refine rd_neWhs (SqL.of (sC _ _ (sB _ _ eA))) (SqL.of (sAC _ _ hD)) (W.mono fun p xs h => sAC _ _ h) ?_
          walk_at "rd_6"
          refine iteF ?_
          walk_at "rd_6"
          exact ⟨_, _, _, _, _, rfl, L9.same sAC, sAC _ _ hs9, S9.mono fun p xs h => sAC _ _ h, LG9.same sAC, K9.trans (Kp.of sAC), g9.same sAC⟩
  · obtain ⟨o6, o7, o8, o9, o10, rfl, LM, hsM, SM, LGM, kM, gM⟩ := z
    walk_at "rd_6"
    exact q M kM gM

def sp_law (K : PySem.W.Frag) : Sp := fun vs H Q _ => ∃ (a : Addr) (ns : List Int), vs = [.ref a] ∧ Scr K H a (ns.map V.int) ∧ ns.length ≤ 63 ∧ ∀ H', Q (.bl true) H'
theorem ar_law (K : PySem.W.Frag) : ∀ vs H Q E, sp_law K vs H Q E → vs.length = 1 := by
  intro vs H Q E h
  obtain ⟨a, ns, rfl, _⟩ := h
  rfl
abbrev N_law : List Str := ["_law_script", "_law_k", "_law_bag_here", "_law_turn"]
theorem sc_law : FnScope N_law ["_law_script"] (defScope S_law) := ⟨rfl, rfl, rfl, by decide +kernel, rfl, by decide +kernel, by decide +kernel⟩
theorem ok_law {P : Program} {w : World} {K : PySem.W.Frag} {mg : Str → Option Value} {base : Heap} {f : Addr} {fd : FuncData} (F : Fun K "law" "law" S_law f fd) {f__law_right : Addr} {fd__law_right : FuncData} (C__law_right : Cal P w K mg base "_law_right" 13 f__law_right fd__law_right ["_law_bag_here"] (sp__law_right K)) {f__law_bag : Addr} {fd__law_bag : FuncData} (C__law_bag : Cal P w K mg base "_law_bag" 1 f__law_bag fd__law_bag ["_law_script", "_law_at"] (sp__law_bag K)) (m_range : mg "range" = none) (m_max : mg "max" = none) (m_min : mg "min" = none) (m_len : mg "len" = none) :
    FnG P w K mg base CX0 14 f fd ["_law_script"] (sp_law K) := by
  refine Fun_okG F sc_law (ar_law K) (fun cdv A outer s H vs Q E hg hr h => ?_)
  obtain ⟨a, ns, rfl, hS, hl, q⟩ := h
  refine ⟨_, (pss_cons (ps_for PassesOwn.never rfl (pi_range1 rfl m_range (pa_cons (pe_callB (id := "max") (call_max2 rfl) (by rfl) m_max (by decide +kernel) (pa_cons pe_int (pa_cons (pe_callB (id := "min") (call_min2 rfl) (by rfl) m_min (by decide +kernel) (pa_cons pe_int (pa_cons (pe_callB (id := "len") (lenK (K := K) rfl) (by rfl) m_len (by decide +kernel) (pa_cons (pv 0) pa_nil)) pa_nil))) pa_nil))) pa_nil)) (pg_name (i := 1) sc_law.nd rfl (Or.inl rfl)) (pss_cons (ps_set (i := 2) sc_law.nd rfl (Or.inl rfl) (pe_c C__law_bag hg (hr.mono (by decide)) rfl (pa_cons (pv 0) (pa_cons (pv 1) pa_nil))))
    (pss_one (ps_for PassesOwn.never rfl (pi_range1 rfl m_range (pa_cons pe_int pa_nil)) (pg_name (i := 3) sc_law.nd rfl (Or.inl rfl)) (pss_one (ps_if (pt_not (pt_val (pe_c C__law_right hg (hr.mono (by decide)) rfl (pa_cons (pv 2) pa_nil)))) (pss_one (ps_ret pe_bl)) pss_nil))))))
    (pss_one (ps_ret pe_bl))), ?_⟩
  walk_at "rd_6"
  refine lp_rng (fun _ σ' H' => Scr K H' a (ns.map V.int) ∧ ∃ o1 o2 o3, σ' = [some (.ref a), o1, o2, o3]) ⟨hS, none, none, none, rfl⟩ (fun i σ1 H1 hi w => ?_) (fun σ1 H1 w => ?_)
  · obtain ⟨hS1, o1, o2, o3, rfl⟩ := w
    have hi2 : i < 8 ∨ i < 2 := by
      rw [List.length_map] at hi
      split at hi <;> split at hi <;> omega
    walk_at "rd_6"
    refine ⟨a, ns, _, rfl, hS1, hl, by omega, by omega, fun b J0 nb s0 g0 => ?_⟩
    have hS0 : Scr K J0 a (ns.map V.int) := hS1.same s0
    walk_at "rd_6"
    refine lp_rng (fun _ σ' H' => Scr K H' a (ns.map V.int) ∧ Bag b H' ∧ ∃ o3, σ' = [some (.ref a), some (.int (0 + (i : Int))), some (.ref b), o3]) ⟨hS0, g0, o3, rfl⟩ (fun j σ2 H2 hj w => ?_) (fun σ2 H2 w => ?_)
    · obtain ⟨hS2, g2, o3, rfl⟩ := w
      walk_at "rd_6"
      refine ⟨b, rfl, g2, fun J1 k1 g1 => ?_⟩
      walk_at "rd_6"
      refine iteF ?_
      walk_at "rd_6"
      exact ⟨hS2.kp k1 g2, g1, _, rfl⟩
    · obtain ⟨hS2, g2, o3, rfl⟩ := w
      exact ⟨hS2, _, _, _, rfl⟩
  · obtain ⟨hS1, o1, o2, o3, rfl⟩ := w
    walk_at "rd_6"
    exact q _

theorem all_mk {l : PySem.W.OpenLaw} {w : World} {K : PySem.W.Frag} {h : Heap} {mg : Str → Option Value} {fa : Addr} (X : K.In h) (G : h.Ns mainGlobals mg) (hfa : mg "law" = some (.ref fa))
    {C_L : Addr} (aC : PySem.W.nsIn K mainGlobals "Ledger" = some (some (.ref C_L)))
    (pg : PySem.W.plainGet K C_L Str.empty = true) (hd : PySem.W.hasDictIn K C_L = true) (po : PySem.W.plainOver K C_L = true) (sa : PySem.W.findIn K (.ref C_L) "__setattr__" = some (some (.builtin "object.__setattr__"))) (mk : PySem.W.makesIn K C_L = true) (kc : PySem.W.keepIn K (.ref C_L) = true)
    (nI : PySem.W.findIn K (.ref C_L) "_items" = some none) (nN : PySem.W.findIn K (.ref C_L) "_next_number" = some none)
    {tE tS : Nat} (mcE : PySem.W.findIn K (.ref C_L) "MOST_ENTRIES" = some (some (.int 6 tE))) (gE : PySem.W.specialIn K (.int 6 tE) "__get__" = some none) (mcS : PySem.W.findIn K (.ref C_L) "MOST_STATEMENTS" = some (some (.int 24 tS))) (gS : PySem.W.specialIn K (.int 24 tS) "__get__" = some none)
    {f0 : Addr} {od0 an0 : Option Addr} {sl0 : Array (Option Value)} {oc0 kV0 dc0 pm0 cd0 ct0 : Value}
    (a0 : PySem.W.nsIn K mainGlobals "_law_bag" = some (some (.ref f0)))
    (l0 : K.lookup f0 = some ⟨oc0, od0, .func (PySem.W.fnOf "_law_bag" "_law_bag" (defArgs S__law_bag) (defBody S__law_bag) (defScope S__law_bag) .none kV0 dc0 pm0 an0 cd0 ct0), sl0⟩) (c0 : PySem.W.codeIn K cd0 "_law_bag" = true) (k0 : PySem.W.keepIn K (.ref f0) = true)
    {f1 : Addr} {od1 an1 : Option Addr} {sl1 : Array (Option Value)} {oc1 kV1 dc1 pm1 cd1 ct1 : Value}
    (a1 : PySem.W.nsIn K mainGlobals "_law_take" = some (some (.ref f1)))
    (l1 : K.lookup f1 = some ⟨oc1, od1, .func (PySem.W.fnOf "_law_take" "_law_take" (defArgs S__law_take) (defBody S__law_take) (defScope S__law_take) .none kV1 dc1 pm1 an1 cd1 ct1), sl1⟩) (c1 : PySem.W.codeIn K cd1 "_law_take" = true) (k1 : PySem.W.keepIn K (.ref f1) = true)
    {f2 : Addr} {od2 an2 : Option Addr} {sl2 : Array (Option Value)} {oc2 kV2 dc2 pm2 cd2 ct2 : Value}
    (a2 : PySem.W.nsIn K mainGlobals "_law_part" = some (some (.ref f2)))
    (l2 : K.lookup f2 = some ⟨oc2, od2, .func (PySem.W.fnOf "_law_part" "_law_part" (defArgs S__law_part) (defBody S__law_part) (defScope S__law_part) .none kV2 dc2 pm2 an2 cd2 ct2), sl2⟩) (c2 : PySem.W.codeIn K cd2 "_law_part" = true) (k2 : PySem.W.keepIn K (.ref f2) = true)
    {f3 : Addr} {od3 an3 : Option Addr} {sl3 : Array (Option Value)} {oc3 kV3 dc3 pm3 cd3 ct3 : Value}
    (a3 : PySem.W.nsIn K mainGlobals "_law_lowest" = some (some (.ref f3)))
    (l3 : K.lookup f3 = some ⟨oc3, od3, .func (PySem.W.fnOf "_law_lowest" "_law_lowest" (defArgs S__law_lowest) (defBody S__law_lowest) (defScope S__law_lowest) .none kV3 dc3 pm3 an3 cd3 ct3), sl3⟩) (c3 : PySem.W.codeIn K cd3 "_law_lowest" = true) (k3 : PySem.W.keepIn K (.ref f3) = true)
    {f4 : Addr} {od4 an4 : Option Addr} {sl4 : Array (Option Value)} {oc4 kV4 dc4 pm4 cd4 ct4 : Value}
    (a4 : PySem.W.nsIn K mainGlobals "is_int" = some (some (.ref f4)))
    (l4 : K.lookup f4 = some ⟨oc4, od4, .func (PySem.W.fnOf "is_int" "is_int" (defArgs S_is_int) (defBody S_is_int) (defScope S_is_int) .none kV4 dc4 pm4 an4 cd4 ct4), sl4⟩) (c4 : PySem.W.codeIn K cd4 "is_int" = true) (k4 : PySem.W.keepIn K (.ref f4) = true)
    {f5 : Addr} {od5 an5 : Option Addr} {sl5 : Array (Option Value)} {oc5 kV5 dc5 pm5 cd5 ct5 : Value}
    (a5 : PySem.W.nsIn K mainGlobals "lowest" = some (some (.ref f5)))
    (l5 : K.lookup f5 = some ⟨oc5, od5, .func (PySem.W.fnOf "lowest" "lowest" (defArgs S_lowest) (defBody S_lowest) (defScope S_lowest) .none kV5 dc5 pm5 an5 cd5 ct5), sl5⟩) (c5 : PySem.W.codeIn K cd5 "lowest" = true) (k5 : PySem.W.keepIn K (.ref f5) = true)
    {f6 : Addr} {od6 an6 : Option Addr} {sl6 : Array (Option Value)} {oc6 kV6 dc6 pm6 cd6 ct6 : Value}
    (a6 : PySem.W.nsIn K mainGlobals "plus" = some (some (.ref f6)))
    (l6 : K.lookup f6 = some ⟨oc6, od6, .func (PySem.W.fnOf "plus" "plus" (defArgs S_plus) (defBody S_plus) (defScope S_plus) .none kV6 dc6 pm6 an6 cd6 ct6), sl6⟩) (c6 : PySem.W.codeIn K cd6 "plus" = true) (k6 : PySem.W.keepIn K (.ref f6) = true)
    {f7 : Addr} {od7 an7 : Option Addr} {sl7 : Array (Option Value)} {oc7 kV7 dc7 pm7 cd7 ct7 : Value}
    (a7 : PySem.W.nsIn K mainGlobals "minus" = some (some (.ref f7)))
    (l7 : K.lookup f7 = some ⟨oc7, od7, .func (PySem.W.fnOf "minus" "minus" (defArgs S_minus) (defBody S_minus) (defScope S_minus) .none kV7 dc7 pm7 an7 cd7 ct7), sl7⟩) (c7 : PySem.W.codeIn K cd7 "minus" = true) (k7 : PySem.W.keepIn K (.ref f7) = true)
    {f8 : Addr} {od8 an8 : Option Addr} {sl8 : Array (Option Value)} {oc8 kV8 dc8 pm8 cd8 ct8 : Value}
    (a8 : PySem.W.nsIn K mainGlobals "floor_of" = some (some (.ref f8)))
    (l8 : K.lookup f8 = some ⟨oc8, od8, .func (PySem.W.fnOf "floor_of" "floor_of" (defArgs S_floor_of) (defBody S_floor_of) (defScope S_floor_of) .none kV8 dc8 pm8 an8 cd8 ct8), sl8⟩) (c8 : PySem.W.codeIn K cd8 "floor_of" = true) (k8 : PySem.W.keepIn K (.ref f8) = true)
    {f9 : Addr} {od9 an9 : Option Addr} {sl9 : Array (Option Value)} {oc9 kV9 dc9 pm9 cd9 ct9 : Value}
    (a9 : PySem.W.nsIn K mainGlobals "is_less" = some (some (.ref f9)))
    (l9 : K.lookup f9 = some ⟨oc9, od9, .func (PySem.W.fnOf "is_less" "is_less" (defArgs S_is_less) (defBody S_is_less) (defScope S_is_less) .none kV9 dc9 pm9 an9 cd9 ct9), sl9⟩) (c9 : PySem.W.codeIn K cd9 "is_less" = true) (k9 : PySem.W.keepIn K (.ref f9) = true)
    {f10 : Addr} {od10 an10 : Option Addr} {sl10 : Array (Option Value)} {oc10 kV10 dc10 pm10 cd10 ct10 : Value}
    (a10 : PySem.W.nsIn K mainGlobals "arc" = some (some (.ref f10)))
    (l10 : K.lookup f10 = some ⟨oc10, od10, .func (PySem.W.fnOf "arc" "arc" (defArgs S_arc) (defBody S_arc) (defScope S_arc) .none kV10 dc10 pm10 an10 cd10 ct10), sl10⟩) (c10 : PySem.W.codeIn K cd10 "arc" = true) (k10 : PySem.W.keepIn K (.ref f10) = true)
    {f11 : Addr} {od11 an11 : Option Addr} {sl11 : Array (Option Value)} {oc11 kV11 dc11 pm11 cd11 ct11 : Value}
    (a11 : PySem.W.nsIn K mainGlobals "both" = some (some (.ref f11)))
    (l11 : K.lookup f11 = some ⟨oc11, od11, .func (PySem.W.fnOf "both" "both" (defArgs S_both) (defBody S_both) (defScope S_both) .none kV11 dc11 pm11 an11 cd11 ct11), sl11⟩) (c11 : PySem.W.codeIn K cd11 "both" = true) (k11 : PySem.W.keepIn K (.ref f11) = true)
    {f12 : Addr} {od12 an12 : Option Addr} {sl12 : Array (Option Value)} {oc12 kV12 dc12 pm12 cd12 ct12 : Value}
    (a12 : PySem.W.nsIn K mainGlobals "has" = some (some (.ref f12)))
    (l12 : K.lookup f12 = some ⟨oc12, od12, .func (PySem.W.fnOf "has" "has" (defArgs S_has) (defBody S_has) (defScope S_has) .none kV12 dc12 pm12 an12 cd12 ct12), sl12⟩) (c12 : PySem.W.codeIn K cd12 "has" = true) (k12 : PySem.W.keepIn K (.ref f12) = true)
    {f13 : Addr} {od13 an13 : Option Addr} {sl13 : Array (Option Value)} {oc13 kV13 dc13 pm13 cd13 ct13 : Value}
    (a13 : PySem.W.nsIn K mainGlobals "is_day" = some (some (.ref f13)))
    (l13 : K.lookup f13 = some ⟨oc13, od13, .func (PySem.W.fnOf "is_day" "is_day" (defArgs S_is_day) (defBody S_is_day) (defScope S_is_day) .none kV13 dc13 pm13 an13 cd13 ct13), sl13⟩) (c13 : PySem.W.codeIn K cd13 "is_day" = true) (k13 : PySem.W.keepIn K (.ref f13) = true)
    {f14 : Addr} {od14 an14 : Option Addr} {sl14 : Array (Option Value)} {oc14 kV14 dc14 pm14 cd14 ct14 : Value}
    (a14 : PySem.W.nsIn K mainGlobals "_is_many" = some (some (.ref f14)))
    (l14 : K.lookup f14 = some ⟨oc14, od14, .func (PySem.W.fnOf "_is_many" "_is_many" (defArgs S__is_many) (defBody S__is_many) (defScope S__is_many) .none kV14 dc14 pm14 an14 cd14 ct14), sl14⟩) (c14 : PySem.W.codeIn K cd14 "_is_many" = true) (k14 : PySem.W.keepIn K (.ref f14) = true)
    {f15 : Addr} {od15 an15 : Option Addr} {sl15 : Array (Option Value)} {oc15 kV15 dc15 pm15 cd15 ct15 : Value}
    (a15 : PySem.W.nsIn K mainGlobals "check_day" = some (some (.ref f15)))
    (l15 : K.lookup f15 = some ⟨oc15, od15, .func (PySem.W.fnOf "check_day" "check_day" (defArgs S_check_day) (defBody S_check_day) (defScope S_check_day) .none kV15 dc15 pm15 an15 cd15 ct15), sl15⟩) (c15 : PySem.W.codeIn K cd15 "check_day" = true) (k15 : PySem.W.keepIn K (.ref f15) = true)
    {f16 : Addr} {od16 an16 : Option Addr} {sl16 : Array (Option Value)} {oc16 kV16 dc16 pm16 cd16 ct16 : Value}
    (a16 : PySem.W.nsIn K mainGlobals "is_stretch" = some (some (.ref f16)))
    (l16 : K.lookup f16 = some ⟨oc16, od16, .func (PySem.W.fnOf "is_stretch" "is_stretch" (defArgs S_is_stretch) (defBody S_is_stretch) (defScope S_is_stretch) .none kV16 dc16 pm16 an16 cd16 ct16), sl16⟩) (c16 : PySem.W.codeIn K cd16 "is_stretch" = true) (k16 : PySem.W.keepIn K (.ref f16) = true)
    {f17 : Addr} {od17 an17 : Option Addr} {sl17 : Array (Option Value)} {oc17 kV17 dc17 pm17 cd17 ct17 : Value}
    (a17 : PySem.W.nsIn K mainGlobals "check_stretch" = some (some (.ref f17)))
    (l17 : K.lookup f17 = some ⟨oc17, od17, .func (PySem.W.fnOf "check_stretch" "check_stretch" (defArgs S_check_stretch) (defBody S_check_stretch) (defScope S_check_stretch) .none kV17 dc17 pm17 an17 cd17 ct17), sl17⟩) (c17 : PySem.W.codeIn K cd17 "check_stretch" = true) (k17 : PySem.W.keepIn K (.ref f17) = true)
    {f18 : Addr} {od18 an18 : Option Addr} {sl18 : Array (Option Value)} {oc18 kV18 dc18 pm18 cd18 ct18 : Value}
    (a18 : PySem.W.nsIn K mainGlobals "rest_of" = some (some (.ref f18)))
    (l18 : K.lookup f18 = some ⟨oc18, od18, .func (PySem.W.fnOf "rest_of" "rest_of" (defArgs S_rest_of) (defBody S_rest_of) (defScope S_rest_of) .none kV18 dc18 pm18 an18 cd18 ct18), sl18⟩) (c18 : PySem.W.codeIn K cd18 "rest_of" = true) (k18 : PySem.W.keepIn K (.ref f18) = true)
    {f19 : Addr} {od19 an19 : Option Addr} {sl19 : Array (Option Value)} {oc19 kV19 dc19 pm19 cd19 ct19 : Value}
    (a19 : PySem.W.nsIn K mainGlobals "_total" = some (some (.ref f19)))
    (l19 : K.lookup f19 = some ⟨oc19, od19, .func (PySem.W.fnOf "_total" "_total" (defArgs S__total) (defBody S__total) (defScope S__total) .none kV19 dc19 pm19 an19 cd19 ct19), sl19⟩) (c19 : PySem.W.codeIn K cd19 "_total" = true) (k19 : PySem.W.keepIn K (.ref f19) = true)
    {f20 : Addr} {od20 an20 : Option Addr} {sl20 : Array (Option Value)} {oc20 kV20 dc20 pm20 cd20 ct20 : Value}
    (a20 : PySem.W.nsIn K mainGlobals "_given_before" = some (some (.ref f20)))
    (l20 : K.lookup f20 = some ⟨oc20, od20, .func (PySem.W.fnOf "_given_before" "_given_before" (defArgs S__given_before) (defBody S__given_before) (defScope S__given_before) .none kV20 dc20 pm20 an20 cd20 ct20), sl20⟩) (c20 : PySem.W.codeIn K cd20 "_given_before" = true) (k20 : PySem.W.keepIn K (.ref f20) = true)
    {f21 : Addr} {od21 an21 : Option Addr} {sl21 : Array (Option Value)} {oc21 kV21 dc21 pm21 cd21 ct21 : Value}
    (a21 : PySem.W.nsIn K mainGlobals "sum_before" = some (some (.ref f21)))
    (l21 : K.lookup f21 = some ⟨oc21, od21, .func (PySem.W.fnOf "sum_before" "sum_before" (defArgs S_sum_before) (defBody S_sum_before) (defScope S_sum_before) .none kV21 dc21 pm21 an21 cd21 ct21), sl21⟩) (c21 : PySem.W.codeIn K cd21 "sum_before" = true) (k21 : PySem.W.keepIn K (.ref f21) = true)
    {f22 : Addr} {od22 an22 : Option Addr} {sl22 : Array (Option Value)} {oc22 kV22 dc22 pm22 cd22 ct22 : Value}
    (a22 : PySem.W.nsIn K mainGlobals "point" = some (some (.ref f22)))
    (l22 : K.lookup f22 = some ⟨oc22, od22, .func (PySem.W.fnOf "point" "point" (defArgs S_point) (defBody S_point) (defScope S_point) .none kV22 dc22 pm22 an22 cd22 ct22), sl22⟩) (c22 : PySem.W.codeIn K cd22 "point" = true) (k22 : PySem.W.keepIn K (.ref f22) = true)
    {f23 : Addr} {od23 an23 : Option Addr} {sl23 : Array (Option Value)} {oc23 kV23 dc23 pm23 cd23 ct23 : Value}
    (a23 : PySem.W.nsIn K mainGlobals "exact" = some (some (.ref f23)))
    (l23 : K.lookup f23 = some ⟨oc23, od23, .func (PySem.W.fnOf "exact" "exact" (defArgs S_exact) (defBody S_exact) (defScope S_exact) .none kV23 dc23 pm23 an23 cd23 ct23), sl23⟩) (c23 : PySem.W.codeIn K cd23 "exact" = true) (k23 : PySem.W.keepIn K (.ref f23) = true)
    {f24 : Addr} {od24 an24 : Option Addr} {sl24 : Array (Option Value)} {oc24 kV24 dc24 pm24 cd24 ct24 : Value}
    (a24 : PySem.W.nsIn K mainGlobals "is_ratio" = some (some (.ref f24)))
    (l24 : K.lookup f24 = some ⟨oc24, od24, .func (PySem.W.fnOf "is_ratio" "is_ratio" (defArgs S_is_ratio) (defBody S_is_ratio) (defScope S_is_ratio) .none kV24 dc24 pm24 an24 cd24 ct24), sl24⟩) (c24 : PySem.W.codeIn K cd24 "is_ratio" = true) (k24 : PySem.W.keepIn K (.ref f24) = true)
    {f25 : Addr} {od25 an25 : Option Addr} {sl25 : Array (Option Value)} {oc25 kV25 dc25 pm25 cd25 ct25 : Value}
    (a25 : PySem.W.nsIn K mainGlobals "is_amount" = some (some (.ref f25)))
    (l25 : K.lookup f25 = some ⟨oc25, od25, .func (PySem.W.fnOf "is_amount" "is_amount" (defArgs S_is_amount) (defBody S_is_amount) (defScope S_is_amount) .none kV25 dc25 pm25 an25 cd25 ct25), sl25⟩) (c25 : PySem.W.codeIn K cd25 "is_amount" = true) (k25 : PySem.W.keepIn K (.ref f25) = true)
    {f26 : Addr} {od26 an26 : Option Addr} {sl26 : Array (Option Value)} {oc26 kV26 dc26 pm26 cd26 ct26 : Value}
    (a26 : PySem.W.nsIn K mainGlobals "_is_amounts" = some (some (.ref f26)))
    (l26 : K.lookup f26 = some ⟨oc26, od26, .func (PySem.W.fnOf "_is_amounts" "_is_amounts" (defArgs S__is_amounts) (defBody S__is_amounts) (defScope S__is_amounts) .none kV26 dc26 pm26 an26 cd26 ct26), sl26⟩) (c26 : PySem.W.codeIn K cd26 "_is_amounts" = true) (k26 : PySem.W.keepIn K (.ref f26) = true)
    {f27 : Addr} {od27 an27 : Option Addr} {sl27 : Array (Option Value)} {oc27 kV27 dc27 pm27 cd27 ct27 : Value}
    (a27 : PySem.W.nsIn K mainGlobals "wrong_part" = some (some (.ref f27)))
    (l27 : K.lookup f27 = some ⟨oc27, od27, .func (PySem.W.fnOf "wrong_part" "wrong_part" (defArgs S_wrong_part) (defBody S_wrong_part) (defScope S_wrong_part) .none kV27 dc27 pm27 an27 cd27 ct27), sl27⟩) (c27 : PySem.W.codeIn K cd27 "wrong_part" = true) (k27 : PySem.W.keepIn K (.ref f27) = true)
    {f28 : Addr} {od28 an28 : Option Addr} {sl28 : Array (Option Value)} {oc28 kV28 dc28 pm28 cd28 ct28 : Value}
    (a28 : PySem.W.nsIn K mainGlobals "check_item" = some (some (.ref f28)))
    (l28 : K.lookup f28 = some ⟨oc28, od28, .func (PySem.W.fnOf "check_item" "check_item" (defArgs S_check_item) (defBody S_check_item) (defScope S_check_item) .none kV28 dc28 pm28 an28 cd28 ct28), sl28⟩) (c28 : PySem.W.codeIn K cd28 "check_item" = true) (k28 : PySem.W.keepIn K (.ref f28) = true)
    {f29 : Addr} {od29 an29 : Option Addr} {sl29 : Array (Option Value)} {oc29 kV29 dc29 pm29 cd29 ct29 : Value}
    (a29 : PySem.W.findIn K (.ref C_L) "__init__" = some (some (.ref f29))) (i29 : PySem.W.isFn K (.ref f29) = true)
    (l29 : K.lookup f29 = some ⟨oc29, od29, .func (PySem.W.fnOf "__init__" "Ledger.__init__" (defArgs S_Ledger___init__) (defBody S_Ledger___init__) (defScope S_Ledger___init__) .none kV29 dc29 pm29 an29 cd29 ct29), sl29⟩) (c29 : PySem.W.codeIn K cd29 "Ledger.__init__" = true) (k29 : PySem.W.keepIn K (.ref f29) = true)
    {f30 : Addr} {od30 an30 : Option Addr} {sl30 : Array (Option Value)} {oc30 kV30 dc30 pm30 cd30 ct30 : Value}
    (a30 : PySem.W.findIn K (.ref C_L) "_of_kind" = some (some (.ref f30))) (i30 : PySem.W.isFn K (.ref f30) = true)
    (l30 : K.lookup f30 = some ⟨oc30, od30, .func (PySem.W.fnOf "_of_kind" "Ledger._of_kind" (defArgs S_Ledger__of_kind) (defBody S_Ledger__of_kind) (defScope S_Ledger__of_kind) .none kV30 dc30 pm30 an30 cd30 ct30), sl30⟩) (c30 : PySem.W.codeIn K cd30 "Ledger._of_kind" = true) (k30 : PySem.W.keepIn K (.ref f30) = true)
    {f31 : Addr} {od31 an31 : Option Addr} {sl31 : Array (Option Value)} {oc31 kV31 dc31 pm31 cd31 ct31 : Value}
    (a31 : PySem.W.findIn K (.ref C_L) "entries" = some (some (.ref f31))) (i31 : PySem.W.isFn K (.ref f31) = true)
    (l31 : K.lookup f31 = some ⟨oc31, od31, .func (PySem.W.fnOf "entries" "Ledger.entries" (defArgs S_Ledger_entries) (defBody S_Ledger_entries) (defScope S_Ledger_entries) .none kV31 dc31 pm31 an31 cd31 ct31), sl31⟩) (c31 : PySem.W.codeIn K cd31 "Ledger.entries" = true) (k31 : PySem.W.keepIn K (.ref f31) = true)
    {f32 : Addr} {od32 an32 : Option Addr} {sl32 : Array (Option Value)} {oc32 kV32 dc32 pm32 cd32 ct32 : Value}
    (a32 : PySem.W.findIn K (.ref C_L) "statements" = some (some (.ref f32))) (i32 : PySem.W.isFn K (.ref f32) = true)
    (l32 : K.lookup f32 = some ⟨oc32, od32, .func (PySem.W.fnOf "statements" "Ledger.statements" (defArgs S_Ledger_statements) (defBody S_Ledger_statements) (defScope S_Ledger_statements) .none kV32 dc32 pm32 an32 cd32 ct32), sl32⟩) (c32 : PySem.W.codeIn K cd32 "Ledger.statements" = true) (k32 : PySem.W.keepIn K (.ref f32) = true)
    {f33 : Addr} {od33 an33 : Option Addr} {sl33 : Array (Option Value)} {oc33 kV33 dc33 pm33 cd33 ct33 : Value}
    (a33 : PySem.W.findIn K (.ref C_L) "numbered" = some (some (.ref f33))) (i33 : PySem.W.isFn K (.ref f33) = true)
    (l33 : K.lookup f33 = some ⟨oc33, od33, .func (PySem.W.fnOf "numbered" "Ledger.numbered" (defArgs S_Ledger_numbered) (defBody S_Ledger_numbered) (defScope S_Ledger_numbered) .none kV33 dc33 pm33 an33 cd33 ct33), sl33⟩) (c33 : PySem.W.codeIn K cd33 "Ledger.numbered" = true) (k33 : PySem.W.keepIn K (.ref f33) = true)
    {f34 : Addr} {od34 an34 : Option Addr} {sl34 : Array (Option Value)} {oc34 kV34 dc34 pm34 cd34 ct34 : Value}
    (a34 : PySem.W.findIn K (.ref C_L) "add" = some (some (.ref f34))) (i34 : PySem.W.isFn K (.ref f34) = true)
    (l34 : K.lookup f34 = some ⟨oc34, od34, .func (PySem.W.fnOf "add" "Ledger.add" (defArgs S_Ledger_add) (defBody S_Ledger_add) (defScope S_Ledger_add) .none kV34 dc34 pm34 an34 cd34 ct34), sl34⟩) (c34 : PySem.W.codeIn K cd34 "Ledger.add" = true) (k34 : PySem.W.keepIn K (.ref f34) = true)
    {f35 : Addr} {od35 an35 : Option Addr} {sl35 : Array (Option Value)} {oc35 kV35 dc35 pm35 cd35 ct35 : Value}
    (a35 : PySem.W.nsIn K mainGlobals "choices" = some (some (.ref f35)))
    (l35 : K.lookup f35 = some ⟨oc35, od35, .func (PySem.W.fnOf "choices" "choices" (defArgs S_choices) (defBody S_choices) (defScope S_choices) .none kV35 dc35 pm35 an35 cd35 ct35), sl35⟩) (c35 : PySem.W.codeIn K cd35 "choices" = true) (k35 : PySem.W.keepIn K (.ref f35) = true)
    {f36 : Addr} {od36 an36 : Option Addr} {sl36 : Array (Option Value)} {oc36 kV36 dc36 pm36 cd36 ct36 : Value}
    (a36 : PySem.W.nsIn K mainGlobals "_telling" = some (some (.ref f36)))
    (l36 : K.lookup f36 = some ⟨oc36, od36, .func (PySem.W.fnOf "_telling" "_telling" (defArgs S__telling) (defBody S__telling) (defScope S__telling) .none kV36 dc36 pm36 an36 cd36 ct36), sl36⟩) (c36 : PySem.W.codeIn K cd36 "_telling" = true) (k36 : PySem.W.keepIn K (.ref f36) = true)
    {f37 : Addr} {od37 an37 : Option Addr} {sl37 : Array (Option Value)} {oc37 kV37 dc37 pm37 cd37 ct37 : Value}
    (a37 : PySem.W.nsIn K mainGlobals "allowed" = some (some (.ref f37)))
    (l37 : K.lookup f37 = some ⟨oc37, od37, .func (PySem.W.fnOf "allowed" "allowed" (defArgs S_allowed) (defBody S_allowed) (defScope S_allowed) .none kV37 dc37 pm37 an37 cd37 ct37), sl37⟩) (c37 : PySem.W.codeIn K cd37 "allowed" = true) (k37 : PySem.W.keepIn K (.ref f37) = true)
    {f38 : Addr} {od38 an38 : Option Addr} {sl38 : Array (Option Value)} {oc38 kV38 dc38 pm38 cd38 ct38 : Value}
    (a38 : PySem.W.nsIn K mainGlobals "_law_amount" = some (some (.ref f38)))
    (l38 : K.lookup f38 = some ⟨oc38, od38, .func (PySem.W.fnOf "_law_amount" "_law_amount" (defArgs S__law_amount) (defBody S__law_amount) (defScope S__law_amount) .none kV38 dc38 pm38 an38 cd38 ct38), sl38⟩) (c38 : PySem.W.codeIn K cd38 "_law_amount" = true) (k38 : PySem.W.keepIn K (.ref f38) = true)
    {f39 : Addr} {od39 an39 : Option Addr} {sl39 : Array (Option Value)} {oc39 kV39 dc39 pm39 cd39 ct39 : Value}
    (a39 : PySem.W.nsIn K mainGlobals "_law_entry" = some (some (.ref f39)))
    (l39 : K.lookup f39 = some ⟨oc39, od39, .func (PySem.W.fnOf "_law_entry" "_law_entry" (defArgs S__law_entry) (defBody S__law_entry) (defScope S__law_entry) .none kV39 dc39 pm39 an39 cd39 ct39), sl39⟩) (c39 : PySem.W.codeIn K cd39 "_law_entry" = true) (k39 : PySem.W.keepIn K (.ref f39) = true)
    {f40 : Addr} {od40 an40 : Option Addr} {sl40 : Array (Option Value)} {oc40 kV40 dc40 pm40 cd40 ct40 : Value}
    (a40 : PySem.W.nsIn K mainGlobals "_law_entries" = some (some (.ref f40)))
    (l40 : K.lookup f40 = some ⟨oc40, od40, .func (PySem.W.fnOf "_law_entries" "_law_entries" (defArgs S__law_entries) (defBody S__law_entries) (defScope S__law_entries) .none kV40 dc40 pm40 an40 cd40 ct40), sl40⟩) (c40 : PySem.W.codeIn K cd40 "_law_entries" = true) (k40 : PySem.W.keepIn K (.ref f40) = true)
    {f41 : Addr} {od41 an41 : Option Addr} {sl41 : Array (Option Value)} {oc41 kV41 dc41 pm41 cd41 ct41 : Value}
    (a41 : PySem.W.nsIn K mainGlobals "_law_grain" = some (some (.ref f41)))
    (l41 : K.lookup f41 = some ⟨oc41, od41, .func (PySem.W.fnOf "_law_grain" "_law_grain" (defArgs S__law_grain) (defBody S__law_grain) (defScope S__law_grain) .none kV41 dc41 pm41 an41 cd41 ct41), sl41⟩) (c41 : PySem.W.codeIn K cd41 "_law_grain" = true) (k41 : PySem.W.keepIn K (.ref f41) = true)
    {f42 : Addr} {od42 an42 : Option Addr} {sl42 : Array (Option Value)} {oc42 kV42 dc42 pm42 cd42 ct42 : Value}
    (a42 : PySem.W.nsIn K mainGlobals "_law_before" = some (some (.ref f42)))
    (l42 : K.lookup f42 = some ⟨oc42, od42, .func (PySem.W.fnOf "_law_before" "_law_before" (defArgs S__law_before) (defBody S__law_before) (defScope S__law_before) .none kV42 dc42 pm42 an42 cd42 ct42), sl42⟩) (c42 : PySem.W.codeIn K cd42 "_law_before" = true) (k42 : PySem.W.keepIn K (.ref f42) = true)
    {f43 : Addr} {od43 an43 : Option Addr} {sl43 : Array (Option Value)} {oc43 kV43 dc43 pm43 cd43 ct43 : Value}
    (a43 : PySem.W.nsIn K mainGlobals "_law_told" = some (some (.ref f43)))
    (l43 : K.lookup f43 = some ⟨oc43, od43, .func (PySem.W.fnOf "_law_told" "_law_told" (defArgs S__law_told) (defBody S__law_told) (defScope S__law_told) .none kV43 dc43 pm43 an43 cd43 ct43), sl43⟩) (c43 : PySem.W.codeIn K cd43 "_law_told" = true) (k43 : PySem.W.keepIn K (.ref f43) = true)
    {f44 : Addr} {od44 an44 : Option Addr} {sl44 : Array (Option Value)} {oc44 kV44 dc44 pm44 cd44 ct44 : Value}
    (a44 : PySem.W.nsIn K mainGlobals "_law_stretch" = some (some (.ref f44)))
    (l44 : K.lookup f44 = some ⟨oc44, od44, .func (PySem.W.fnOf "_law_stretch" "_law_stretch" (defArgs S__law_stretch) (defBody S__law_stretch) (defScope S__law_stretch) .none kV44 dc44 pm44 an44 cd44 ct44), sl44⟩) (c44 : PySem.W.codeIn K cd44 "_law_stretch" = true) (k44 : PySem.W.keepIn K (.ref f44) = true)
    {f45 : Addr} {od45 an45 : Option Addr} {sl45 : Array (Option Value)} {oc45 kV45 dc45 pm45 cd45 ct45 : Value}
    (a45 : PySem.W.nsIn K mainGlobals "_law_statements" = some (some (.ref f45)))
    (l45 : K.lookup f45 = some ⟨oc45, od45, .func (PySem.W.fnOf "_law_statements" "_law_statements" (defArgs S__law_statements) (defBody S__law_statements) (defScope S__law_statements) .none kV45 dc45 pm45 an45 cd45 ct45), sl45⟩) (c45 : PySem.W.codeIn K cd45 "_law_statements" = true) (k45 : PySem.W.keepIn K (.ref f45) = true)
    {f46 : Addr} {od46 an46 : Option Addr} {sl46 : Array (Option Value)} {oc46 kV46 dc46 pm46 cd46 ct46 : Value}
    (a46 : PySem.W.nsIn K mainGlobals "_law_case" = some (some (.ref f46)))
    (l46 : K.lookup f46 = some ⟨oc46, od46, .func (PySem.W.fnOf "_law_case" "_law_case" (defArgs S__law_case) (defBody S__law_case) (defScope S__law_case) .none kV46 dc46 pm46 an46 cd46 ct46), sl46⟩) (c46 : PySem.W.codeIn K cd46 "_law_case" = true) (k46 : PySem.W.keepIn K (.ref f46) = true)
    {f47 : Addr} {od47 an47 : Option Addr} {sl47 : Array (Option Value)} {oc47 kV47 dc47 pm47 cd47 ct47 : Value}
    (a47 : PySem.W.nsIn K mainGlobals "_law_points" = some (some (.ref f47)))
    (l47 : K.lookup f47 = some ⟨oc47, od47, .func (PySem.W.fnOf "_law_points" "_law_points" (defArgs S__law_points) (defBody S__law_points) (defScope S__law_points) .none kV47 dc47 pm47 an47 cd47 ct47), sl47⟩) (c47 : PySem.W.codeIn K cd47 "_law_points" = true) (k47 : PySem.W.keepIn K (.ref f47) = true)
    {f48 : Addr} {od48 an48 : Option Addr} {sl48 : Array (Option Value)} {oc48 kV48 dc48 pm48 cd48 ct48 : Value}
    (a48 : PySem.W.nsIn K mainGlobals "_law_ends" = some (some (.ref f48)))
    (l48 : K.lookup f48 = some ⟨oc48, od48, .func (PySem.W.fnOf "_law_ends" "_law_ends" (defArgs S__law_ends) (defBody S__law_ends) (defScope S__law_ends) .none kV48 dc48 pm48 an48 cd48 ct48), sl48⟩) (c48 : PySem.W.codeIn K cd48 "_law_ends" = true) (k48 : PySem.W.keepIn K (.ref f48) = true)
    {f49 : Addr} {od49 an49 : Option Addr} {sl49 : Array (Option Value)} {oc49 kV49 dc49 pm49 cd49 ct49 : Value}
    (a49 : PySem.W.nsIn K mainGlobals "_law_left" = some (some (.ref f49)))
    (l49 : K.lookup f49 = some ⟨oc49, od49, .func (PySem.W.fnOf "_law_left" "_law_left" (defArgs S__law_left) (defBody S__law_left) (defScope S__law_left) .none kV49 dc49 pm49 an49 cd49 ct49), sl49⟩) (c49 : PySem.W.codeIn K cd49 "_law_left" = true) (k49 : PySem.W.keepIn K (.ref f49) = true)
    {f50 : Addr} {od50 an50 : Option Addr} {sl50 : Array (Option Value)} {oc50 kV50 dc50 pm50 cd50 ct50 : Value}
    (a50 : PySem.W.nsIn K mainGlobals "telling_all" = some (some (.ref f50)))
    (l50 : K.lookup f50 = some ⟨oc50, od50, .func (PySem.W.fnOf "telling_all" "telling_all" (defArgs S_telling_all) (defBody S_telling_all) (defScope S_telling_all) .none kV50 dc50 pm50 an50 cd50 ct50), sl50⟩) (c50 : PySem.W.codeIn K cd50 "telling_all" = true) (k50 : PySem.W.keepIn K (.ref f50) = true)
    {f51 : Addr} {od51 an51 : Option Addr} {sl51 : Array (Option Value)} {oc51 kV51 dc51 pm51 cd51 ct51 : Value}
    (a51 : PySem.W.nsIn K mainGlobals "left" = some (some (.ref f51)))
    (l51 : K.lookup f51 = some ⟨oc51, od51, .func (PySem.W.fnOf "left" "left" (defArgs S_left) (defBody S_left) (defScope S_left) .none kV51 dc51 pm51 an51 cd51 ct51), sl51⟩) (c51 : PySem.W.codeIn K cd51 "left" = true) (k51 : PySem.W.keepIn K (.ref f51) = true)
    {f52 : Addr} {od52 an52 : Option Addr} {sl52 : Array (Option Value)} {oc52 kV52 dc52 pm52 cd52 ct52 : Value}
    (a52 : PySem.W.nsIn K mainGlobals "best" = some (some (.ref f52)))
    (l52 : K.lookup f52 = some ⟨oc52, od52, .func (PySem.W.fnOf "best" "best" (defArgs S_best) (defBody S_best) (defScope S_best) .none kV52 dc52 pm52 an52 cd52 ct52), sl52⟩) (c52 : PySem.W.codeIn K cd52 "best" = true) (k52 : PySem.W.keepIn K (.ref f52) = true)
    {f53 : Addr} {od53 an53 : Option Addr} {sl53 : Array (Option Value)} {oc53 kV53 dc53 pm53 cd53 ct53 : Value}
    (a53 : PySem.W.nsIn K mainGlobals "_law_due" = some (some (.ref f53)))
    (l53 : K.lookup f53 = some ⟨oc53, od53, .func (PySem.W.fnOf "_law_due" "_law_due" (defArgs S__law_due) (defBody S__law_due) (defScope S__law_due) .none kV53 dc53 pm53 an53 cd53 ct53), sl53⟩) (c53 : PySem.W.codeIn K cd53 "_law_due" = true) (k53 : PySem.W.keepIn K (.ref f53) = true)
    {f54 : Addr} {od54 an54 : Option Addr} {sl54 : Array (Option Value)} {oc54 kV54 dc54 pm54 cd54 ct54 : Value}
    (a54 : PySem.W.nsIn K mainGlobals "_law_exactly" = some (some (.ref f54)))
    (l54 : K.lookup f54 = some ⟨oc54, od54, .func (PySem.W.fnOf "_law_exactly" "_law_exactly" (defArgs S__law_exactly) (defBody S__law_exactly) (defScope S__law_exactly) .none kV54 dc54 pm54 an54 cd54 ct54), sl54⟩) (c54 : PySem.W.codeIn K cd54 "_law_exactly" = true) (k54 : PySem.W.keepIn K (.ref f54) = true)
    {f55 : Addr} {od55 an55 : Option Addr} {sl55 : Array (Option Value)} {oc55 kV55 dc55 pm55 cd55 ct55 : Value}
    (a55 : PySem.W.nsIn K mainGlobals "_law_wish" = some (some (.ref f55)))
    (l55 : K.lookup f55 = some ⟨oc55, od55, .func (PySem.W.fnOf "_law_wish" "_law_wish" (defArgs S__law_wish) (defBody S__law_wish) (defScope S__law_wish) .none kV55 dc55 pm55 an55 cd55 ct55), sl55⟩) (c55 : PySem.W.codeIn K cd55 "_law_wish" = true) (k55 : PySem.W.keepIn K (.ref f55) = true)
    {f56 : Addr} {od56 an56 : Option Addr} {sl56 : Array (Option Value)} {oc56 kV56 dc56 pm56 cd56 ct56 : Value}
    (a56 : PySem.W.nsIn K mainGlobals "_law_filled_up" = some (some (.ref f56)))
    (l56 : K.lookup f56 = some ⟨oc56, od56, .func (PySem.W.fnOf "_law_filled_up" "_law_filled_up" (defArgs S__law_filled_up) (defBody S__law_filled_up) (defScope S__law_filled_up) .none kV56 dc56 pm56 an56 cd56 ct56), sl56⟩) (c56 : PySem.W.codeIn K cd56 "_law_filled_up" = true) (k56 : PySem.W.keepIn K (.ref f56) = true)
    {f57 : Addr} {od57 an57 : Option Addr} {sl57 : Array (Option Value)} {oc57 kV57 dc57 pm57 cd57 ct57 : Value}
    (a57 : PySem.W.nsIn K mainGlobals "_law_right" = some (some (.ref f57)))
    (l57 : K.lookup f57 = some ⟨oc57, od57, .func (PySem.W.fnOf "_law_right" "_law_right" (defArgs S__law_right) (defBody S__law_right) (defScope S__law_right) .none kV57 dc57 pm57 an57 cd57 ct57), sl57⟩) (c57 : PySem.W.codeIn K cd57 "_law_right" = true) (k57 : PySem.W.keepIn K (.ref f57) = true)
    {f58 : Addr} {od58 an58 : Option Addr} {sl58 : Array (Option Value)} {oc58 kV58 dc58 pm58 cd58 ct58 : Value}
    (a58 : PySem.W.nsIn K mainGlobals "law" = some (some (.ref f58)))
    (l58 : K.lookup f58 = some ⟨oc58, od58, .func (PySem.W.fnOf "law" "law" (defArgs S_law) (defBody S_law) (defScope S_law) .none kV58 dc58 pm58 an58 cd58 ct58), sl58⟩) (c58 : PySem.W.codeIn K cd58 "law" = true) (k58 : PySem.W.keepIn K (.ref f58) = true)
    (cg0 : PySem.W.nsIn K mainGlobals "gcd" = some (some (.builtin "math.gcd")))
    {gz1 : Addr} {go1 : Obj} (cg1 : PySem.W.nsIn K mainGlobals "ONE" = some (some (.ref gz1))) (gl1 : K.lookup gz1 = some go1) (gd1 : TupObj go1 [V.int 1, V.int 1])
    {gz2 : Addr} {go2 : Obj} (cg2 : PySem.W.nsIn K mainGlobals "ZERO" = some (some (.ref gz2))) (gl2 : K.lookup gz2 = some go2) (gd2 : TupObj go2 [V.int 0, V.int 1])
    {gt3 : Nat} (cg3 : PySem.W.nsIn K mainGlobals "LAST_DAY" = some (some (.int 1000000000000000000000000000000 gt3)))
    {gt4 : Nat} (cg4 : PySem.W.nsIn K mainGlobals "AMOUNT_BOUND" = some (some (.int 1000000 gt4)))
    {gt5 : Nat} (cg5 : PySem.W.nsIn K mainGlobals "MOST_AMOUNTS" = some (some (.int 4 gt5)))
    (z0 : PySem.W.nsIn K mainGlobals "abs" = some none)
    (z1 : PySem.W.nsIn K mainGlobals "len" = some none)
    (z2 : PySem.W.nsIn K mainGlobals "isinstance" = some none)
    (z3 : PySem.W.nsIn K mainGlobals "bool" = some none)
    (z4 : PySem.W.nsIn K mainGlobals "int" = some none)
    (z5 : PySem.W.nsIn K mainGlobals "any" = some none)
    (z6 : PySem.W.nsIn K mainGlobals "tuple" = some none)
    (z7 : PySem.W.nsIn K mainGlobals "zip" = some none)
    (z8 : PySem.W.nsIn K mainGlobals "range" = some none)
    (z9 : PySem.W.nsIn K mainGlobals "divmod" = some none)
    (z10 : PySem.W.nsIn K mainGlobals "min" = some none)
    (z11 : PySem.W.nsIn K mainGlobals "max" = some none)
    (z12 : PySem.W.nsIn K mainGlobals "all" = some none)
    (z13 : PySem.W.nsIn K mainGlobals "list" = some none)
    (z14 : PySem.W.nsIn K mainGlobals "sum" = some none)
    (z15 : PySem.W.nsIn K mainGlobals "set" = some none)
    (z16 : PySem.W.nsIn K mainGlobals "sorted" = some none)
    (z17 : PySem.W.nsIn K mainGlobals "repr" = some none)
    : ∃ fd : FuncData, (∀ (s : Shared) (v : Value), BindsTo s fd ⟨[v], []⟩ [("_law_script", v)]) ∧ ∀ base : Heap, K.In base → base.Ns mainGlobals mg → FnG l.prog w K mg base CX0 14 fa fd ["_law_script"] (sp_law K) := by
  have e := hfa.symm.trans (PySem.W.mg_of X G a58)
  cases e
  have F0 := fun_mk (st := S__law_bag) l0 c0 k0
  have b0 := F0.binds (ps := ["_law_script", "_law_at"]) fun _ _ _ _ _ _ us hl => match us, hl with | [_, _], _ => rfl
  have F1 := fun_mk (st := S__law_take) l1 c1 k1
  have b1 := F1.binds (ps := ["_law_bag_here", "_law_size"]) fun _ _ _ _ _ _ us hl => match us, hl with | [_, _], _ => rfl
  have F2 := fun_mk (st := S__law_part) l2 c2 k2
  have b2 := F2.binds (ps := ["_law_one", "_law_other"]) fun _ _ _ _ _ _ us hl => match us, hl with | [_, _], _ => rfl
  have F3 := fun_mk (st := S__law_lowest) l3 c3 k3
  have b3 := F3.binds (ps := ["_law_top", "_law_under"]) fun _ _ _ _ _ _ us hl => match us, hl with | [_, _], _ => rfl
  have F4 := fun_mk (st := S_is_int) l4 c4 k4
  have b4 := F4.binds (ps := ["thing"]) fun _ _ _ _ _ _ us hl => match us, hl with | [_], _ => rfl
  have F5 := fun_mk (st := S_lowest) l5 c5 k5
  have b5 := F5.binds (ps := ["top", "under"]) fun _ _ _ _ _ _ us hl => match us, hl with | [_, _], _ => rfl
  have F6 := fun_mk (st := S_plus) l6 c6 k6
  have b6 := F6.binds (ps := ["one", "other"]) fun _ _ _ _ _ _ us hl => match us, hl with | [_, _], _ => rfl
  have F7 := fun_mk (st := S_minus) l7 c7 k7
  have b7 := F7.binds (ps := ["one", "other"]) fun _ _ _ _ _ _ us hl => match us, hl with | [_, _], _ => rfl
  have F8 := fun_mk (st := S_floor_of) l8 c8 k8
  have b8 := F8.binds (ps := ["ratio"]) fun _ _ _ _ _ _ us hl => match us, hl with | [_], _ => rfl
  have F9 := fun_mk (st := S_is_less) l9 c9 k9
  have b9 := F9.binds (ps := ["one", "other"]) fun _ _ _ _ _ _ us hl => match us, hl with | [_, _], _ => rfl
  have F10 := fun_mk (st := S_arc) l10 c10 k10
  have b10 := F10.binds (ps := ["low", "high"]) fun _ _ _ _ _ _ us hl => match us, hl with | [_, _], _ => rfl
  have F11 := fun_mk (st := S_both) l11 c11 k11
  have b11 := F11.binds (ps := ["one", "other"]) fun _ _ _ _ _ _ us hl => match us, hl with | [_, _], _ => rfl
  have F12 := fun_mk (st := S_has) l12 c12 k12
  have b12 := F12.binds (ps := ["one", "cut"]) fun _ _ _ _ _ _ us hl => match us, hl with | [_, _], _ => rfl
  have F13 := fun_mk (st := S_is_day) l13 c13 k13
  have b13 := F13.binds (ps := ["thing"]) fun _ _ _ _ _ _ us hl => match us, hl with | [_], _ => rfl
  have F14 := fun_mk (st := S__is_many) l14 c14 k14
  have b14 := F14.binds (ps := ["thing", "first"]) fun _ _ _ _ _ _ us hl => match us, hl with | [_, _], _ => rfl
  have F15 := fun_mk (st := S_check_day) l15 c15 k15
  have b15 := F15.binds (ps := ["thing"]) fun _ _ _ _ _ _ us hl => match us, hl with | [_], _ => rfl
  have F16 := fun_mk (st := S_is_stretch) l16 c16 k16
  have b16 := F16.binds (ps := ["thing"]) fun _ _ _ _ _ _ us hl => match us, hl with | [_], _ => rfl
  have F17 := fun_mk (st := S_check_stretch) l17 c17 k17
  have b17 := F17.binds (ps := ["thing"]) fun _ _ _ _ _ _ us hl => match us, hl with | [_], _ => rfl
  have F18 := fun_mk (st := S_rest_of) l18 c18 k18
  have b18 := F18.binds (ps := ["ratio"]) fun _ _ _ _ _ _ us hl => match us, hl with | [_], _ => rfl
  have F19 := fun_mk (st := S__total) l19 c19 k19
  have b19 := F19.binds (ps := ["ratios"]) fun _ _ _ _ _ _ us hl => match us, hl with | [_], _ => rfl
  have F20 := fun_mk (st := S__given_before) l20 c20 k20
  have b20 := F20.binds (ps := ["entry", "day"]) fun _ _ _ _ _ _ us hl => match us, hl with | [_, _], _ => rfl
  have F21 := fun_mk (st := S_sum_before) l21 c21 k21
  have b21 := F21.binds (ps := ["entries", "day"]) fun _ _ _ _ _ _ us hl => match us, hl with | [_, _], _ => rfl
  have F22 := fun_mk (st := S_point) l22 c22 k22
  have b22 := F22.binds (ps := ["entries", "day"]) fun _ _ _ _ _ _ us hl => match us, hl with | [_, _], _ => rfl
  have F23 := fun_mk (st := S_exact) l23 c23 k23
  have b23 := F23.binds (ps := ["entries", "stretch"]) fun _ _ _ _ _ _ us hl => match us, hl with | [_, _], _ => rfl
  have F24 := fun_mk (st := S_is_ratio) l24 c24 k24
  have b24 := F24.binds (ps := ["thing"]) fun _ _ _ _ _ _ us hl => match us, hl with | [_], _ => rfl
  have F25 := fun_mk (st := S_is_amount) l25 c25 k25
  have b25 := F25.binds (ps := ["thing"]) fun _ _ _ _ _ _ us hl => match us, hl with | [_], _ => rfl
  have F26 := fun_mk (st := S__is_amounts) l26 c26 k26
  have b26 := F26.binds (ps := ["thing"]) fun _ _ _ _ _ _ us hl => match us, hl with | [_], _ => rfl
  have F27 := fun_mk (st := S_wrong_part) l27 c27 k27
  have b27 := F27.binds (ps := ["thing"]) fun _ _ _ _ _ _ us hl => match us, hl with | [_], _ => rfl
  have F28 := fun_mk (st := S_check_item) l28 c28 k28
  have b28 := F28.binds (ps := ["thing"]) fun _ _ _ _ _ _ us hl => match us, hl with | [_], _ => rfl
  have F29 := fun_mk (st := S_Ledger___init__) l29 c29 k29
  have b29 := F29.binds (ps := ["self"]) fun _ _ _ _ _ _ us hl => match us, hl with | [_], _ => rfl
  have F30 := fun_mk (st := S_Ledger__of_kind) l30 c30 k30
  have b30 := F30.binds (ps := ["self", "kind"]) fun _ _ _ _ _ _ us hl => match us, hl with | [_, _], _ => rfl
  have F31 := fun_mk (st := S_Ledger_entries) l31 c31 k31
  have b31 := F31.binds (ps := ["self"]) fun _ _ _ _ _ _ us hl => match us, hl with | [_], _ => rfl
  have F32 := fun_mk (st := S_Ledger_statements) l32 c32 k32
  have b32 := F32.binds (ps := ["self"]) fun _ _ _ _ _ _ us hl => match us, hl with | [_], _ => rfl
  have F33 := fun_mk (st := S_Ledger_numbered) l33 c33 k33
  have b33 := F33.binds (ps := ["self"]) fun _ _ _ _ _ _ us hl => match us, hl with | [_], _ => rfl
  have F34 := fun_mk (st := S_Ledger_add) l34 c34 k34
  have b34 := F34.binds (ps := ["self", "item"]) fun _ _ _ _ _ _ us hl => match us, hl with | [_, _], _ => rfl
  have F35 := fun_mk (st := S_choices) l35 c35 k35
  have b35 := F35.binds (ps := ["entries", "stretch"]) fun _ _ _ _ _ _ us hl => match us, hl with | [_, _], _ => rfl
  have F36 := fun_mk (st := S__telling) l36 c36 k36
  have b36 := F36.binds (ps := ["entries", "stretch", "number"]) fun _ _ _ _ _ _ us hl => match us, hl with | [_, _, _], _ => rfl
  have F37 := fun_mk (st := S_allowed) l37 c37 k37
  have b37 := F37.binds (ps := ["entries", "statement"]) fun _ _ _ _ _ _ us hl => match us, hl with | [_, _], _ => rfl
  have F38 := fun_mk (st := S__law_amount) l38 c38 k38
  have b38 := F38.binds (ps := ["_law_bag_here"]) fun _ _ _ _ _ _ us hl => match us, hl with | [_], _ => rfl
  have F39 := fun_mk (st := S__law_entry) l39 c39 k39
  have b39 := F39.binds (ps := ["_law_bag_here", "_law_last"]) fun _ _ _ _ _ _ us hl => match us, hl with | [_, _], _ => rfl
  have F40 := fun_mk (st := S__law_entries) l40 c40 k40
  have b40 := F40.binds (ps := ["_law_bag_here", "_law_last", "_law_most"]) fun _ _ _ _ _ _ us hl => match us, hl with | [_, _, _], _ => rfl
  have F41 := fun_mk (st := S__law_grain) l41 c41 k41
  have b41 := F41.binds (ps := ["_law_entries_here"]) fun _ _ _ _ _ _ us hl => match us, hl with | [_], _ => rfl
  have F42 := fun_mk (st := S__law_before) l42 c42 k42
  have b42 := F42.binds (ps := ["_law_entries_here", "_law_day", "_law_grain_here"]) fun _ _ _ _ _ _ us hl => match us, hl with | [_, _, _], _ => rfl
  have F43 := fun_mk (st := S__law_told) l43 c43 k43
  have b43 := F43.binds (ps := ["_law_entries_here", "_law_unit", "_law_first", "_law_many", "_law_grain_here"]) fun _ _ _ _ _ _ us hl => match us, hl with | [_, _, _, _, _], _ => rfl
  have F44 := fun_mk (st := S__law_stretch) l44 c44 k44
  have b44 := F44.binds (ps := ["_law_bag_here", "_law_last"]) fun _ _ _ _ _ _ us hl => match us, hl with | [_, _], _ => rfl
  have F45 := fun_mk (st := S__law_statements) l45 c45 k45
  have b45 := F45.binds (ps := ["_law_bag_here", "_law_entries_here", "_law_last", "_law_most"]) fun _ _ _ _ _ _ us hl => match us, hl with | [_, _, _, _], _ => rfl
  have F46 := fun_mk (st := S__law_case) l46 c46 k46
  have b46 := F46.binds (ps := ["_law_bag_here", "_law_most"]) fun _ _ _ _ _ _ us hl => match us, hl with | [_, _], _ => rfl
  have F47 := fun_mk (st := S__law_points) l47 c47 k47
  have b47 := F47.binds (ps := ["_law_entries_here", "_law_days", "_law_grain_here"]) fun _ _ _ _ _ _ us hl => match us, hl with | [_, _, _], _ => rfl
  have F48 := fun_mk (st := S__law_ends) l48 c48 k48
  have b48 := F48.binds (ps := ["_law_stretches"]) fun _ _ _ _ _ _ us hl => match us, hl with | [_], _ => rfl
  have F49 := fun_mk (st := S__law_left) l49 c49 k49
  have b49 := F49.binds (ps := ["_law_entries_here", "_law_statements_here", "_law_days", "_law_grain_here"]) fun _ _ _ _ _ _ us hl => match us, hl with | [_, _, _, _], _ => rfl
  have F50 := fun_mk (st := S_telling_all) l50 c50 k50
  have b50 := F50.binds (ps := ["entries", "statements"]) fun _ _ _ _ _ _ us hl => match us, hl with | [_, _], _ => rfl
  have F51 := fun_mk (st := S_left) l51 c51 k51
  have b51 := F51.binds (ps := ["ledger"]) fun _ _ _ _ _ _ us hl => match us, hl with | [_], _ => rfl
  have F52 := fun_mk (st := S_best) l52 c52 k52
  have b52 := F52.binds (ps := ["ledger", "wishes"]) fun _ _ _ _ _ _ us hl => match us, hl with | [_, _], _ => rfl
  have F53 := fun_mk (st := S__law_due) l53 c53 k53
  have b53 := F53.binds (ps := ["_law_entries_here", "_law_statements_here", "_law_wishes", "_law_grain_here"]) fun _ _ _ _ _ _ us hl => match us, hl with | [_, _, _, _], _ => rfl
  have F54 := fun_mk (st := S__law_exactly) l54 c54 k54
  have b54 := F54.binds (ps := ["_law_entries_here", "_law_statements_here"]) fun _ _ _ _ _ _ us hl => match us, hl with | [_, _], _ => rfl
  have F55 := fun_mk (st := S__law_wish) l55 c55 k55
  have b55 := F55.binds (ps := ["_law_bag_here", "_law_entries_here", "_law_last", "_law_grain_here"]) fun _ _ _ _ _ _ us hl => match us, hl with | [_, _, _, _], _ => rfl
  have F56 := fun_mk (st := S__law_filled_up) l56 c56 k56
  have b56 := F56.binds (ps := ["_law_bag_here", "_law_entries_here", "_law_statements_here", "_law_last", "_law_grain_here"]) fun _ _ _ _ _ _ us hl => match us, hl with | [_, _, _, _, _], _ => rfl
  have F57 := fun_mk (st := S__law_right) l57 c57 k57
  have b57 := F57.binds (ps := ["_law_bag_here"]) fun _ _ _ _ _ _ us hl => match us, hl with | [_], _ => rfl
  have F58 := fun_mk (st := S_law) l58 c58 k58
  have T : LgC K mg C_L := ⟨aC, ⟨pg, hd, po, sa⟩, nI, nN, PySem.W.mg_of X G aC, ⟨_, mcE, ⟨_, rfl⟩, gE, by decide⟩, ⟨_, mcS, ⟨_, rfl⟩, gS, by decide⟩⟩
  have c_gcd := PySem.W.mg_of X G cg0
  have c_ONE := TupC.of (PySem.W.mg_of X G cg1) gl1 gd1
  have c_ZERO := TupC.of (PySem.W.mg_of X G cg2) gl2 gd2
  have c_LAST_DAY := PySem.W.mg_of X G cg3
  have c_AMOUNT_BOUND := PySem.W.mg_of X G cg4
  have c_MOST_AMOUNTS := PySem.W.mg_of X G cg5
  have m_abs := PySem.W.mg_none_of X G z0
  have m_len := PySem.W.mg_none_of X G z1
  have m_isinstance := PySem.W.mg_none_of X G z2
  have m_bool := PySem.W.mg_none_of X G z3
  have m_int := PySem.W.mg_none_of X G z4
  have m_any := PySem.W.mg_none_of X G z5
  have m_tuple := PySem.W.mg_none_of X G z6
  have m_zip := PySem.W.mg_none_of X G z7
  have m_range := PySem.W.mg_none_of X G z8
  have m_divmod := PySem.W.mg_none_of X G z9
  have m_min := PySem.W.mg_none_of X G z10
  have m_max := PySem.W.mg_none_of X G z11
  have m_all := PySem.W.mg_none_of X G z12
  have m_list := PySem.W.mg_none_of X G z13
  have m_sum := PySem.W.mg_none_of X G z14
  have m_set := PySem.W.mg_none_of X G z15
  have m_sorted := PySem.W.mg_none_of X G z16
  have m_repr := PySem.W.mg_none_of X G z17
  refine ⟨PySem.W.fnOf "law" "law" (defArgs S_law) (defBody S_law) (defScope S_law) .none kV58 dc58 pm58 an58 cd58 ct58, fun s v => .of_eq rfl, fun base _ _ => ?_⟩
  have C__law_bag : Cal l.prog w K mg base "_law_bag" 1 f0 _ ["_law_script", "_law_at"] (sp__law_bag K) := ⟨ok__law_bag F0 m_abs m_len, b0, k0, PySem.W.mg_of X G a0⟩
  have C__law_take : Cal l.prog w K mg base "_law_take" 1 f1 _ ["_law_bag_here", "_law_size"] (sp__law_take K) := ⟨ok__law_take F1, b1, k1, PySem.W.mg_of X G a1⟩
  have C__law_part : Cal l.prog w K mg base "_law_part" 1 f2 _ ["_law_one", "_law_other"] (sp__law_part K) := ⟨ok__law_part F2 m_abs, b2, k2, PySem.W.mg_of X G a2⟩
  have C__law_lowest : Cal l.prog w K mg base "_law_lowest" 2 f3 _ ["_law_top", "_law_under"] (sp__law_lowest K) := ⟨ok__law_lowest F3 C__law_part, b3, k3, PySem.W.mg_of X G a3⟩
  have C_is_int : Cal l.prog w K mg base "is_int" 1 f4 _ ["thing"] (sp_is_int K) := ⟨ok_is_int F4 m_isinstance m_bool m_int, b4, k4, PySem.W.mg_of X G a4⟩
  have C_lowest : Cal l.prog w K mg base "lowest" 1 f5 _ ["top", "under"] (sp_lowest K) := ⟨ok_lowest F5 c_gcd, b5, k5, PySem.W.mg_of X G a5⟩
  have C_plus : Cal l.prog w K mg base "plus" 2 f6 _ ["one", "other"] (sp_plus K) := ⟨ok_plus F6 C_lowest, b6, k6, PySem.W.mg_of X G a6⟩
  have C_minus : Cal l.prog w K mg base "minus" 2 f7 _ ["one", "other"] (sp_minus K) := ⟨ok_minus F7 C_lowest, b7, k7, PySem.W.mg_of X G a7⟩
  have C_floor_of : Cal l.prog w K mg base "floor_of" 1 f8 _ ["ratio"] (sp_floor_of K) := ⟨ok_floor_of F8, b8, k8, PySem.W.mg_of X G a8⟩
  have C_is_less : Cal l.prog w K mg base "is_less" 1 f9 _ ["one", "other"] (sp_is_less K) := ⟨ok_is_less F9, b9, k9, PySem.W.mg_of X G a9⟩
  have C_arc : Cal l.prog w K mg base "arc" 2 f10 _ ["low", "high"] (sp_arc K) := ⟨ok_arc F10 C_is_less c_ONE c_ZERO, b10, k10, PySem.W.mg_of X G a10⟩
  have C_both : Cal l.prog w K mg base "both" 2 f11 _ ["one", "other"] (sp_both K) := ⟨ok_both F11 C_is_less m_len, b11, k11, PySem.W.mg_of X G a11⟩
  have C_has : Cal l.prog w K mg base "has" 2 f12 _ ["one", "cut"] (sp_has K) := ⟨ok_has F12 C_is_less m_any, b12, k12, PySem.W.mg_of X G a12⟩
  have C_is_day : Cal l.prog w K mg base "is_day" 2 f13 _ ["thing"] (sp_is_day K) := ⟨ok_is_day F13 C_is_int c_LAST_DAY, b13, k13, PySem.W.mg_of X G a13⟩
  have C__is_many : Cal l.prog w K mg base "_is_many" 2 f14 _ ["thing", "first"] (sp__is_many K) := ⟨ok__is_many F14 C_is_int c_LAST_DAY, b14, k14, PySem.W.mg_of X G a14⟩
  have C_check_day : Cal l.prog w K mg base "check_day" 3 f15 _ ["thing"] (sp_check_day K) := ⟨ok_check_day F15 C_is_day, b15, k15, PySem.W.mg_of X G a15⟩
  have C_is_stretch : Cal l.prog w K mg base "is_stretch" 3 f16 _ ["thing"] (sp_is_stretch K) := ⟨ok_is_stretch F16 C__is_many C_is_day m_len m_isinstance m_tuple, b16, k16, PySem.W.mg_of X G a16⟩
  have C_check_stretch : Cal l.prog w K mg base "check_stretch" 4 f17 _ ["thing"] (sp_check_stretch K) := ⟨ok_check_stretch F17 C_is_stretch, b17, k17, PySem.W.mg_of X G a17⟩
  have C_rest_of : Cal l.prog w K mg base "rest_of" 1 f18 _ ["ratio"] (sp_rest_of K) := ⟨ok_rest_of F18, b18, k18, PySem.W.mg_of X G a18⟩
  have C__total : Cal l.prog w K mg base "_total" 3 f19 _ ["ratios"] (sp__total K) := ⟨ok__total F19 C_plus c_ZERO, b19, k19, PySem.W.mg_of X G a19⟩
  have C__given_before : Cal l.prog w K mg base "_given_before" 4 f20 _ ["entry", "day"] (sp__given_before K) := ⟨ok__given_before F20 C__total m_zip m_range m_len m_divmod m_min m_max, b20, k20, PySem.W.mg_of X G a20⟩
  have C_sum_before : Cal l.prog w K mg base "sum_before" 5 f21 _ ["entries", "day"] (sp_sum_before K) := ⟨ok_sum_before F21 C__total C__given_before C_check_day, b21, k21, PySem.W.mg_of X G a21⟩
  have C_point : Cal l.prog w K mg base "point" 6 f22 _ ["entries", "day"] (sp_point K) := ⟨ok_point F22 C_rest_of C_minus C_sum_before c_ZERO, b22, k22, PySem.W.mg_of X G a22⟩
  have C_exact : Cal l.prog w K mg base "exact" 6 f23 _ ["entries", "stretch"] (sp_exact K) := ⟨ok_exact F23 C_minus C_sum_before C_check_stretch, b23, k23, PySem.W.mg_of X G a23⟩
  have C_is_ratio : Cal l.prog w K mg base "is_ratio" 2 f24 _ ["thing"] (sp_is_ratio K) := ⟨ok_is_ratio F24 C_is_int c_gcd m_len m_isinstance m_tuple, b24, k24, PySem.W.mg_of X G a24⟩
  have C_is_amount : Cal l.prog w K mg base "is_amount" 3 f25 _ ["thing"] (sp_is_amount K) := ⟨ok_is_amount F25 C_is_ratio c_AMOUNT_BOUND, b25, k25, PySem.W.mg_of X G a25⟩
  have C__is_amounts : Cal l.prog w K mg base "_is_amounts" 4 f26 _ ["thing"] (sp__is_amounts K) := ⟨ok__is_amounts F26 C_is_amount c_MOST_AMOUNTS m_all m_len m_isinstance m_tuple, b26, k26, PySem.W.mg_of X G a26⟩
  have C_wrong_part : Cal l.prog w K mg base "wrong_part" 5 f27 _ ["thing"] (sp_wrong_part K) := ⟨ok_wrong_part F27 C__is_amounts C_is_int C__is_many C_is_day m_len m_isinstance m_tuple, b27, k27, PySem.W.mg_of X G a27⟩
  have C_check_item : Cal l.prog w K mg base "check_item" 6 f28 _ ["thing"] (sp_check_item K) := ⟨ok_check_item F28 C_wrong_part, b28, k28, PySem.W.mg_of X G a28⟩
  have ML : MkL l.prog w K mg base C_L f29 _ (sp_Ledger___init__ K) := ⟨⟨mk, a29, i29, kc⟩, ok_Ledger___init__ F29 T, b29⟩
  have C_Ledger__of_kind : CalM l.prog w K mg base C_L "_of_kind" 1 f30 _ ["self", "kind"] (sp_Ledger__of_kind K) := ⟨ok_Ledger__of_kind F30 T, b30, ⟨a30, i30, k30⟩⟩
  have C_Ledger_entries : CalM l.prog w K mg base C_L "entries" 2 f31 _ ["self"] (sp_Ledger_entries K) := ⟨ok_Ledger_entries F31 T C_Ledger__of_kind, b31, ⟨a31, i31, k31⟩⟩
  have C_Ledger_statements : CalM l.prog w K mg base C_L "statements" 2 f32 _ ["self"] (sp_Ledger_statements K) := ⟨ok_Ledger_statements F32 T C_Ledger__of_kind, b32, ⟨a32, i32, k32⟩⟩
  have C_Ledger_numbered : CalM l.prog w K mg base C_L "numbered" 1 f33 _ ["self"] (sp_Ledger_numbered K) := ⟨ok_Ledger_numbered F33 T m_list, b33, ⟨a33, i33, k33⟩⟩
  have C_Ledger_add : CalM l.prog w K mg base C_L "add" 7 f34 _ ["self", "item"] (sp_Ledger_add K) := ⟨ok_Ledger_add F34 C_check_item T C_Ledger__of_kind m_len, b34, ⟨a34, i34, k34⟩⟩
  have C_choices : Cal l.prog w K mg base "choices" 7 f35 _ ["entries", "stretch"] (sp_choices K) := ⟨ok_choices F35 C_arc C_point C_floor_of C_exact c_ONE c_ZERO, b35, k35, PySem.W.mg_of X G a35⟩
  have C__telling : Cal l.prog w K mg base "_telling" 8 f36 _ ["entries", "stretch", "number"] (sp__telling K) := ⟨ok__telling F36 C_choices, b36, k36, PySem.W.mg_of X G a36⟩
  have C_allowed : Cal l.prog w K mg base "allowed" 9 f37 _ ["entries", "statement"] (sp_allowed K) := ⟨ok_allowed F37 C__telling, b37, k37, PySem.W.mg_of X G a37⟩
  have C__law_amount : Cal l.prog w K mg base "_law_amount" 3 f38 _ ["_law_bag_here"] (sp__law_amount K) := ⟨ok__law_amount F38 C__law_lowest C__law_take, b38, k38, PySem.W.mg_of X G a38⟩
  have C__law_entry : Cal l.prog w K mg base "_law_entry" 4 f39 _ ["_law_bag_here", "_law_last"] (sp__law_entry K) := ⟨ok__law_entry F39 C__law_take C__law_amount m_tuple m_range, b39, k39, PySem.W.mg_of X G a39⟩
  have C__law_entries : Cal l.prog w K mg base "_law_entries" 5 f40 _ ["_law_bag_here", "_law_last", "_law_most"] (sp__law_entries K) := ⟨ok__law_entries F40 C__law_take C__law_entry m_range, b40, k40, PySem.W.mg_of X G a40⟩
  have C__law_grain : Cal l.prog w K mg base "_law_grain" 2 f41 _ ["_law_entries_here"] (sp__law_grain K) := ⟨ok__law_grain F41 C__law_part, b41, k41, PySem.W.mg_of X G a41⟩
  have C__law_before : Cal l.prog w K mg base "_law_before" 1 f42 _ ["_law_entries_here", "_law_day", "_law_grain_here"] (sp__law_before K) := ⟨ok__law_before F42 m_sum m_len m_min m_max, b42, k42, PySem.W.mg_of X G a42⟩
  have C__law_told : Cal l.prog w K mg base "_law_told" 2 f43 _ ["_law_entries_here", "_law_unit", "_law_first", "_law_many", "_law_grain_here"] (sp__law_told K) := ⟨ok__law_told F43 C__law_before, b43, k43, PySem.W.mg_of X G a43⟩
  have C__law_stretch : Cal l.prog w K mg base "_law_stretch" 2 f44 _ ["_law_bag_here", "_law_last"] (sp__law_stretch K) := ⟨ok__law_stretch F44 C__law_take, b44, k44, PySem.W.mg_of X G a44⟩
  have C__law_statements : Cal l.prog w K mg base "_law_statements" 3 f45 _ ["_law_bag_here", "_law_entries_here", "_law_last", "_law_most"] (sp__law_statements K) := ⟨ok__law_statements F45 C__law_take C__law_told C__law_stretch C__law_grain m_range, b45, k45, PySem.W.mg_of X G a45⟩
  have C__law_case : Cal l.prog w K mg base "_law_case" 6 f46 _ ["_law_bag_here", "_law_most"] (sp__law_case K) := ⟨ok__law_case F46 C__law_grain C__law_statements C__law_take C__law_lowest C__law_entries, b46, k46, PySem.W.mg_of X G a46⟩
  have C__law_points : Cal l.prog w K mg base "_law_points" 2 f47 _ ["_law_entries_here", "_law_days", "_law_grain_here"] (sp__law_points K) := ⟨ok__law_points F47 C__law_before m_set m_sorted, b47, k47, PySem.W.mg_of X G a47⟩
  have C__law_ends : Cal l.prog w K mg base "_law_ends" 1 f48 _ ["_law_stretches"] (sp__law_ends K) := ⟨ok__law_ends F48, b48, k48, PySem.W.mg_of X G a48⟩
  have C__law_left : Cal l.prog w K mg base "_law_left" 3 f49 _ ["_law_entries_here", "_law_statements_here", "_law_days", "_law_grain_here"] (sp__law_left K) := ⟨ok__law_left F49 C__law_points C__law_ends C__law_told m_list, b49, k49, PySem.W.mg_of X G a49⟩
  have C_telling_all : Cal l.prog w K mg base "telling_all" 10 f50 _ ["entries", "statements"] (sp_telling_all K) := ⟨ok_telling_all F50 C_both C_allowed c_ONE c_ZERO, b50, k50, PySem.W.mg_of X G a50⟩
  have C_left : Cal l.prog w K mg base "left" 11 f51 _ ["ledger"] (sp_left K) := ⟨ok_left F51 C_telling_all T C_Ledger_statements C_Ledger_entries, b51, k51, PySem.W.mg_of X G a51⟩
  have C_best : Cal l.prog w K mg base "best" 12 f52 _ ["ledger", "wishes"] (sp_best K) := ⟨ok_best F52 C_is_less C_has C__telling C_left C_check_stretch T C_Ledger_entries m_sum, b52, k52, PySem.W.mg_of X G a52⟩
  have C__law_due : Cal l.prog w K mg base "_law_due" 4 f53 _ ["_law_entries_here", "_law_statements_here", "_law_wishes", "_law_grain_here"] (sp__law_due K) := ⟨ok__law_due F53 C__law_lowest C__law_left C__law_told C__law_ends m_int, b53, k53, PySem.W.mg_of X G a53⟩
  have C__law_exactly : Cal l.prog w K mg base "_law_exactly" 8 f54 _ ["_law_entries_here", "_law_statements_here"] (sp__law_exactly K) := ⟨ok__law_exactly F54 T C_Ledger_add ML, b54, k54, PySem.W.mg_of X G a54⟩
  have C__law_wish : Cal l.prog w K mg base "_law_wish" 3 f55 _ ["_law_bag_here", "_law_entries_here", "_law_last", "_law_grain_here"] (sp__law_wish K) := ⟨ok__law_wish F55 C__law_take C__law_before C__law_stretch m_sum, b55, k55, PySem.W.mg_of X G a55⟩
  have C__law_filled_up : Cal l.prog w K mg base "_law_filled_up" 4 f56 _ ["_law_bag_here", "_law_entries_here", "_law_statements_here", "_law_last", "_law_grain_here"] (sp__law_filled_up K) := ⟨ok__law_filled_up F56 C__law_told C__law_take C__law_stretch C__law_left m_len m_list, b56, k56, PySem.W.mg_of X G a56⟩
  have C__law_right : Cal l.prog w K mg base "_law_right" 13 f57 _ ["_law_bag_here"] (sp__law_right K) := ⟨ok__law_right F57 C_best C__law_due C__law_take C__law_wish C__law_exactly C__law_filled_up C__law_case m_range m_repr m_list m_len, b57, k57, PySem.W.mg_of X G a57⟩
  exact ok_law F58 C__law_right C__law_bag m_range m_max m_min m_len
theorem factsH {l : PySem.W.OpenLaw} {w : World} {K : PySem.W.Frag} {h : Heap} {mg : Str → Option Value} {fa : Addr} (X : K.In h) (G : h.Ns mainGlobals mg) (hfa : mg "law" = some (.ref fa)) (c : SaysO faH fnH K) :
    ∃ fd : FuncData, (∀ (s : Shared) (v : Value), BindsTo s fd ⟨[v], []⟩ [("_law_script", v)]) ∧ ∀ base : Heap, K.In base → base.Ns mainGlobals mg → FnG l.prog w K mg base CX0 14 fa fd ["_law_script"] (sp_law K) := by
  have q0 : fc0 K = true := c.fact 0 rfl
  have q1 : fc1 K = true := c.fact 1 rfl
  have q2 : fc2 K = true := c.fact 2 rfl
  have q3 : fc3 K = true := c.fact 3 rfl
  have q4 : fc4 K = true := c.fact 4 rfl
  have q5 : fc5 K = true := c.fact 5 rfl
  have q6 : fc6 K = true := c.fact 6 rfl
  have q7 : fc7 K = true := c.fact 7 rfl
  have q8 : fc8 K = true := c.fact 8 rfl
  have q9 : fc9 K = true := c.fact 9 rfl
  have q10 : fc10 K = true := c.fact 10 rfl
  have q11 : fc11 K = true := c.fact 11 rfl
  have q12 : fc12 K = true := c.fact 12 rfl
  have q13 : fc13 K = true := c.fact 13 rfl
  have q14 : fc14 K = true := c.fact 14 rfl
  have q15 : fc15 K = true := c.fact 15 rfl
  have q16 : fc16 K = true := c.fact 16 rfl
  have q17 : fc17 K = true := c.fact 17 rfl
  have q18 : fc18 K = true := c.fact 18 rfl
  have q19 : fc19 K = true := c.fact 19 rfl
  have q20 : fc20 K = true := c.fact 20 rfl
  have q21 : fc21 K = true := c.fact 21 rfl
  have q22 : fc22 K = true := c.fact 22 rfl
  have q23 : fc23 K = true := c.fact 23 rfl
  have q24 : fc24 K = true := c.fact 24 rfl
  have q25 : fc25 K = true := c.fact 25 rfl
  have q26 : fc26 K = true := c.fact 26 rfl
  have q27 : fc27 K = true := c.fact 27 rfl
  have q28 : fc28 K = true := c.fact 28 rfl
  have q29 : fc29 K = true := c.fact 29 rfl
  have q30 : fc30 K = true := c.fact 30 rfl
  have q31 : fc31 K = true := c.fact 31 rfl
  have q32 : fc32 K = true := c.fact 32 rfl
  have q33 : fc33 K = true := c.fact 33 rfl
  have q34 : fc34 K = true := c.fact 34 rfl
  have q35 : fc35 K = true := c.fact 35 rfl
  have q36 : fc36 K = true := c.fact 36 rfl
  have q37 : fc37 K = true := c.fact 37 rfl
  have q38 : fc38 K = true := c.fact 38 rfl
  have q39 : fc39 K = true := c.fact 39 rfl
  have q40 : fc40 K = true := c.fact 40 rfl
  have q41 : fc41 K = true := c.fact 41 rfl
  have q42 : fc42 K = true := c.fact 42 rfl
  have q43 : fc43 K = true := c.fact 43 rfl
  have q44 : fc44 K = true := c.fact 44 rfl
  have q45 : fc45 K = true := c.fact 45 rfl
  have q46 : fc46 K = true := c.fact 46 rfl
  have q47 : fc47 K = true := c.fact 47 rfl
  have q48 : fc48 K = true := c.fact 48 rfl
  have q49 : fc49 K = true := c.fact 49 rfl
  have q50 : fc50 K = true := c.fact 50 rfl
  have q51 : fc51 K = true := c.fact 51 rfl
  have q52 : fc52 K = true := c.fact 52 rfl
  have q53 : fc53 K = true := c.fact 53 rfl
  have q54 : fc54 K = true := c.fact 54 rfl
  have q55 : fc55 K = true := c.fact 55 rfl
  have q56 : fc56 K = true := c.fact 56 rfl
  have q57 : fc57 K = true := c.fact 57 rfl
  have q58 : fc58 K = true := c.fact 58 rfl
  have q59 : fc59 K = true := c.fact 59 rfl
  have q60 : fc60 K = true := c.fact 60 rfl
  have q61 : fc61 K = true := c.fact 61 rfl
  have q62 : fc62 K = true := c.fact 62 rfl
  have q63 : fc63 K = true := c.fact 63 rfl
  have q64 : fc64 K = true := c.fact 64 rfl
  have q65 : fc65 K = true := c.fact 65 rfl
  have q66 : fc66 K = true := c.fact 66 rfl
  have q67 : fc67 K = true := c.fact 67 rfl
  have q68 : fc68 K = true := c.fact 68 rfl
  have q69 : fc69 K = true := c.fact 69 rfl
  have q70 : fc70 K = true := c.fact 70 rfl
  have q71 : fc71 K = true := c.fact 71 rfl
  have q72 : fc72 K = true := c.fact 72 rfl
  have q73 : fc73 K = true := c.fact 73 rfl
  have q74 : fc74 K = true := c.fact 74 rfl
  have q75 : fc75 K = true := c.fact 75 rfl
  have q76 : fc76 K = true := c.fact 76 rfl
  have q77 : fc77 K = true := c.fact 77 rfl
  have q78 : fc78 K = true := c.fact 78 rfl
  have q79 : fc79 K = true := c.fact 79 rfl
  have q80 : fc80 K = true := c.fact 80 rfl
  have q81 : fc81 K = true := c.fact 81 rfl
  have q82 : fc82 K = true := c.fact 82 rfl
  have q83 : fc83 K = true := c.fact 83 rfl
  have q84 : fc84 K = true := c.fact 84 rfl
  have q85 : fc85 K = true := c.fact 85 rfl
  have q86 : fc86 K = true := c.fact 86 rfl
  have q87 : fc87 K = true := c.fact 87 rfl
  have q88 : fc88 K = true := c.fact 88 rfl
  have q89 : fc89 K = true := c.fact 89 rfl
  have q90 : fc90 K = true := c.fact 90 rfl
  have q91 : fc91 K = true := c.fact 91 rfl
  have q92 : fc92 K = true := c.fact 92 rfl
  have q93 : fc93 K = true := c.fact 93 rfl
  have q94 : fc94 K = true := c.fact 94 rfl
  have q95 : fc95 K = true := c.fact 95 rfl
  have q96 : fc96 K = true := c.fact 96 rfl
  have q97 : fc97 K = true := c.fact 97 rfl
  have q98 : fc98 K = true := c.fact 98 rfl
  have q99 : fc99 K = true := c.fact 99 rfl
  have q100 : fc100 K = true := c.fact 100 rfl
  have q101 : fc101 K = true := c.fact 101 rfl
  obtain ⟨_, mcE, gE⟩ := intB_ok q9
  obtain ⟨_, mcS, gS⟩ := intB_ok q10
  obtain ⟨_, _, _, _, _, _, _, _, _, l0, c0, k0⟩ := c.def_ 0 (d := ⟨fun K => (He.ga K "_law_bag"), "_law_bag", "_law_bag", defArgs S__law_bag, defBody S__law_bag, defScope S__law_bag⟩) rfl
  obtain ⟨_, _, _, _, _, _, _, _, _, l1, c1, k1⟩ := c.def_ 1 (d := ⟨fun K => (He.ga K "_law_take"), "_law_take", "_law_take", defArgs S__law_take, defBody S__law_take, defScope S__law_take⟩) rfl
  obtain ⟨_, _, _, _, _, _, _, _, _, l2, c2, k2⟩ := c.def_ 2 (d := ⟨fun K => (He.ga K "_law_part"), "_law_part", "_law_part", defArgs S__law_part, defBody S__law_part, defScope S__law_part⟩) rfl
  obtain ⟨_, _, _, _, _, _, _, _, _, l3, c3, k3⟩ := c.def_ 3 (d := ⟨fun K => (He.ga K "_law_lowest"), "_law_lowest", "_law_lowest", defArgs S__law_lowest, defBody S__law_lowest, defScope S__law_lowest⟩) rfl
  obtain ⟨_, _, _, _, _, _, _, _, _, l4, c4, k4⟩ := c.def_ 4 (d := ⟨fun K => (He.ga K "is_int"), "is_int", "is_int", defArgs S_is_int, defBody S_is_int, defScope S_is_int⟩) rfl
  obtain ⟨_, _, _, _, _, _, _, _, _, l5, c5, k5⟩ := c.def_ 5 (d := ⟨fun K => (He.ga K "lowest"), "lowest", "lowest", defArgs S_lowest, defBody S_lowest, defScope S_lowest⟩) rfl
  obtain ⟨_, _, _, _, _, _, _, _, _, l6, c6, k6⟩ := c.def_ 6 (d := ⟨fun K => (He.ga K "plus"), "plus", "plus", defArgs S_plus, defBody S_plus, defScope S_plus⟩) rfl
  obtain ⟨_, _, _, _, _, _, _, _, _, l7, c7, k7⟩ := c.def_ 7 (d := ⟨fun K => (He.ga K "minus"), "minus", "minus", defArgs S_minus, defBody S_minus, defScope S_minus⟩) rfl
  obtain ⟨_, _, _, _, _, _, _, _, _, l8, c8, k8⟩ := c.def_ 8 (d := ⟨fun K => (He.ga K "floor_of"), "floor_of", "floor_of", defArgs S_floor_of, defBody S_floor_of, defScope S_floor_of⟩) rfl
  obtain ⟨_, _, _, _, _, _, _, _, _, l9, c9, k9⟩ := c.def_ 9 (d := ⟨fun K => (He.ga K "is_less"), "is_less", "is_less", defArgs S_is_less, defBody S_is_less, defScope S_is_less⟩) rfl
  obtain ⟨_, _, _, _, _, _, _, _, _, l10, c10, k10⟩ := c.def_ 10 (d := ⟨fun K => (He.ga K "arc"), "arc", "arc", defArgs S_arc, defBody S_arc, defScope S_arc⟩) rfl
  obtain ⟨_, _, _, _, _, _, _, _, _, l11, c11, k11⟩ := c.def_ 11 (d := ⟨fun K => (He.ga K "both"), "both", "both", defArgs S_both, defBody S_both, defScope S_both⟩) rfl
  obtain ⟨_, _, _, _, _, _, _, _, _, l12, c12, k12⟩ := c.def_ 12 (d := ⟨fun K => (He.ga K "has"), "has", "has", defArgs S_has, defBody S_has, defScope S_has⟩) rfl
  obtain ⟨_, _, _, _, _, _, _, _, _, l13, c13, k13⟩ := c.def_ 13 (d := ⟨fun K => (He.ga K "is_day"), "is_day", "is_day", defArgs S_is_day, defBody S_is_day, defScope S_is_day⟩) rfl
  obtain ⟨_, _, _, _, _, _, _, _, _, l14, c14, k14⟩ := c.def_ 14 (d := ⟨fun K => (He.ga K "_is_many"), "_is_many", "_is_many", defArgs S__is_many, defBody S__is_many, defScope S__is_many⟩) rfl
  obtain ⟨_, _, _, _, _, _, _, _, _, l15, c15, k15⟩ := c.def_ 15 (d := ⟨fun K => (He.ga K "check_day"), "check_day", "check_day", defArgs S_check_day, defBody S_check_day, defScope S_check_day⟩) rfl
  obtain ⟨_, _, _, _, _, _, _, _, _, l16, c16, k16⟩ := c.def_ 16 (d := ⟨fun K => (He.ga K "is_stretch"), "is_stretch", "is_stretch", defArgs S_is_stretch, defBody S_is_stretch, defScope S_is_stretch⟩) rfl
  obtain ⟨_, _, _, _, _, _, _, _, _, l17, c17, k17⟩ := c.def_ 17 (d := ⟨fun K => (He.ga K "check_stretch"), "check_stretch", "check_stretch", defArgs S_check_stretch, defBody S_check_stretch, defScope S_check_stretch⟩) rfl
  obtain ⟨_, _, _, _, _, _, _, _, _, l18, c18, k18⟩ := c.def_ 18 (d := ⟨fun K => (He.ga K "rest_of"), "rest_of", "rest_of", defArgs S_rest_of, defBody S_rest_of, defScope S_rest_of⟩) rfl
  obtain ⟨_, _, _, _, _, _, _, _, _, l19, c19, k19⟩ := c.def_ 19 (d := ⟨fun K => (He.ga K "_total"), "_total", "_total", defArgs S__total, defBody S__total, defScope S__total⟩) rfl
  obtain ⟨_, _, _, _, _, _, _, _, _, l20, c20, k20⟩ := c.def_ 20 (d := ⟨fun K => (He.ga K "_given_before"), "_given_before", "_given_before", defArgs S__given_before, defBody S__given_before, defScope S__given_before⟩) rfl
  obtain ⟨_, _, _, _, _, _, _, _, _, l21, c21, k21⟩ := c.def_ 21 (d := ⟨fun K => (He.ga K "sum_before"), "sum_before", "sum_before", defArgs S_sum_before, defBody S_sum_before, defScope S_sum_before⟩) rfl
  obtain ⟨_, _, _, _, _, _, _, _, _, l22, c22, k22⟩ := c.def_ 22 (d := ⟨fun K => (He.ga K "point"), "point", "point", defArgs S_point, defBody S_point, defScope S_point⟩) rfl
  obtain ⟨_, _, _, _, _, _, _, _, _, l23, c23, k23⟩ := c.def_ 23 (d := ⟨fun K => (He.ga K "exact"), "exact", "exact", defArgs S_exact, defBody S_exact, defScope S_exact⟩) rfl
  obtain ⟨_, _, _, _, _, _, _, _, _, l24, c24, k24⟩ := c.def_ 24 (d := ⟨fun K => (He.ga K "is_ratio"), "is_ratio", "is_ratio", defArgs S_is_ratio, defBody S_is_ratio, defScope S_is_ratio⟩) rfl
  obtain ⟨_, _, _, _, _, _, _, _, _, l25, c25, k25⟩ := c.def_ 25 (d := ⟨fun K => (He.ga K "is_amount"), "is_amount", "is_amount", defArgs S_is_amount, defBody S_is_amount, defScope S_is_amount⟩) rfl
  obtain ⟨_, _, _, _, _, _, _, _, _, l26, c26, k26⟩ := c.def_ 26 (d := ⟨fun K => (He.ga K "_is_amounts"), "_is_amounts", "_is_amounts", defArgs S__is_amounts, defBody S__is_amounts, defScope S__is_amounts⟩) rfl
  obtain ⟨_, _, _, _, _, _, _, _, _, l27, c27, k27⟩ := c.def_ 27 (d := ⟨fun K => (He.ga K "wrong_part"), "wrong_part", "wrong_part", defArgs S_wrong_part, defBody S_wrong_part, defScope S_wrong_part⟩) rfl
  obtain ⟨_, _, _, _, _, _, _, _, _, l28, c28, k28⟩ := c.def_ 28 (d := ⟨fun K => (He.ga K "check_item"), "check_item", "check_item", defArgs S_check_item, defBody S_check_item, defScope S_check_item⟩) rfl
  obtain ⟨_, _, _, _, _, _, _, _, _, l29, c29, k29⟩ := c.def_ 29 (d := ⟨fun K => (He.ma K (He.ga K "Ledger") "__init__"), "__init__", "Ledger.__init__", defArgs S_Ledger___init__, defBody S_Ledger___init__, defScope S_Ledger___init__⟩) rfl
  obtain ⟨_, _, _, _, _, _, _, _, _, l30, c30, k30⟩ := c.def_ 30 (d := ⟨fun K => (He.ma K (He.ga K "Ledger") "_of_kind"), "_of_kind", "Ledger._of_kind", defArgs S_Ledger__of_kind, defBody S_Ledger__of_kind, defScope S_Ledger__of_kind⟩) rfl
  obtain ⟨_, _, _, _, _, _, _, _, _, l31, c31, k31⟩ := c.def_ 31 (d := ⟨fun K => (He.ma K (He.ga K "Ledger") "entries"), "entries", "Ledger.entries", defArgs S_Ledger_entries, defBody S_Ledger_entries, defScope S_Ledger_entries⟩) rfl
  obtain ⟨_, _, _, _, _, _, _, _, _, l32, c32, k32⟩ := c.def_ 32 (d := ⟨fun K => (He.ma K (He.ga K "Ledger") "statements"), "statements", "Ledger.statements", defArgs S_Ledger_statements, defBody S_Ledger_statements, defScope S_Ledger_statements⟩) rfl
  obtain ⟨_, _, _, _, _, _, _, _, _, l33, c33, k33⟩ := c.def_ 33 (d := ⟨fun K => (He.ma K (He.ga K "Ledger") "numbered"), "numbered", "Ledger.numbered", defArgs S_Ledger_numbered, defBody S_Ledger_numbered, defScope S_Ledger_numbered⟩) rfl
  obtain ⟨_, _, _, _, _, _, _, _, _, l34, c34, k34⟩ := c.def_ 34 (d := ⟨fun K => (He.ma K (He.ga K "Ledger") "add"), "add", "Ledger.add", defArgs S_Ledger_add, defBody S_Ledger_add, defScope S_Ledger_add⟩) rfl
  obtain ⟨_, _, _, _, _, _, _, _, _, l35, c35, k35⟩ := c.def_ 35 (d := ⟨fun K => (He.ga K "choices"), "choices", "choices", defArgs S_choices, defBody S_choices, defScope S_choices⟩) rfl
  obtain ⟨_, _, _, _, _, _, _, _, _, l36, c36, k36⟩ := c.def_ 36 (d := ⟨fun K => (He.ga K "_telling"), "_telling", "_telling", defArgs S__telling, defBody S__telling, defScope S__telling⟩) rfl
  obtain ⟨_, _, _, _, _, _, _, _, _, l37, c37, k37⟩ := c.def_ 37 (d := ⟨fun K => (He.ga K "allowed"), "allowed", "allowed", defArgs S_allowed, defBody S_allowed, defScope S_allowed⟩) rfl
  obtain ⟨_, _, _, _, _, _, _, _, _, l38, c38, k38⟩ := c.def_ 38 (d := ⟨fun K => (He.ga K "_law_amount"), "_law_amount", "_law_amount", defArgs S__law_amount, defBody S__law_amount, defScope S__law_amount⟩) rfl
  obtain ⟨_, _, _, _, _, _, _, _, _, l39, c39, k39⟩ := c.def_ 39 (d := ⟨fun K => (He.ga K "_law_entry"), "_law_entry", "_law_entry", defArgs S__law_entry, defBody S__law_entry, defScope S__law_entry⟩) rfl
  obtain ⟨_, _, _, _, _, _, _, _, _, l40, c40, k40⟩ := c.def_ 40 (d := ⟨fun K => (He.ga K "_law_entries"), "_law_entries", "_law_entries", defArgs S__law_entries, defBody S__law_entries, defScope S__law_entries⟩) rfl
  obtain ⟨_, _, _, _, _, _, _, _, _, l41, c41, k41⟩ := c.def_ 41 (d := ⟨fun K => (He.ga K "_law_grain"), "_law_grain", "_law_grain", defArgs S__law_grain, defBody S__law_grain, defScope S__law_grain⟩) rfl
  obtain ⟨_, _, _, _, _, _, _, _, _, l42, c42, k42⟩ := c.def_ 42 (d := ⟨fun K => (He.ga K "_law_before"), "_law_before", "_law_before", defArgs S__law_before, defBody S__law_before, defScope S__law_before⟩) rfl
  obtain ⟨_, _, _, _, _, _, _, _, _, l43, c43, k43⟩ := c.def_ 43 (d := ⟨fun K => (He.ga K "_law_told"), "_law_told", "_law_told", defArgs S__law_told, defBody S__law_told, defScope S__law_told⟩) rfl
  obtain ⟨_, _, _, _, _, _, _, _, _, l44, c44, k44⟩ := c.def_ 44 (d := ⟨fun K => (He.ga K "_law_stretch"), "_law_stretch", "_law_stretch", defArgs S__law_stretch, defBody S__law_stretch, defScope S__law_stretch⟩) rfl
  obtain ⟨_, _, _, _, _, _, _, _, _, l45, c45, k45⟩ := c.def_ 45 (d := ⟨fun K => (He.ga K "_law_statements"), "_law_statements", "_law_statements", defArgs S__law_statements, defBody S__law_statements, defScope S__law_statements⟩) rfl
  obtain ⟨_, _, _, _, _, _, _, _, _, l46, c46, k46⟩ := c.def_ 46 (d := ⟨fun K => (He.ga K "_law_case"), "_law_case", "_law_case", defArgs S__law_case, defBody S__law_case, defScope S__law_case⟩) rfl
  obtain ⟨_, _, _, _, _, _, _, _, _, l47, c47, k47⟩ := c.def_ 47 (d := ⟨fun K => (He.ga K "_law_points"), "_law_points", "_law_points", defArgs S__law_points, defBody S__law_points, defScope S__law_points⟩) rfl
  obtain ⟨_, _, _, _, _, _, _, _, _, l48, c48, k48⟩ := c.def_ 48 (d := ⟨fun K => (He.ga K "_law_ends"), "_law_ends", "_law_ends", defArgs S__law_ends, defBody S__law_ends, defScope S__law_ends⟩) rfl
  obtain ⟨_, _, _, _, _, _, _, _, _, l49, c49, k49⟩ := c.def_ 49 (d := ⟨fun K => (He.ga K "_law_left"), "_law_left", "_law_left", defArgs S__law_left, defBody S__law_left, defScope S__law_left⟩) rfl
  obtain ⟨_, _, _, _, _, _, _, _, _, l50, c50, k50⟩ := c.def_ 50 (d := ⟨fun K => (He.ga K "telling_all"), "telling_all", "telling_all", defArgs S_telling_all, defBody S_telling_all, defScope S_telling_all⟩) rfl
  obtain ⟨_, _, _, _, _, _, _, _, _, l51, c51, k51⟩ := c.def_ 51 (d := ⟨fun K => (He.ga K "left"), "left", "left", defArgs S_left, defBody S_left, defScope S_left⟩) rfl
  obtain ⟨_, _, _, _, _, _, _, _, _, l52, c52, k52⟩ := c.def_ 52 (d := ⟨fun K => (He.ga K "best"), "best", "best", defArgs S_best, defBody S_best, defScope S_best⟩) rfl
  obtain ⟨_, _, _, _, _, _, _, _, _, l53, c53, k53⟩ := c.def_ 53 (d := ⟨fun K => (He.ga K "_law_due"), "_law_due", "_law_due", defArgs S__law_due, defBody S__law_due, defScope S__law_due⟩) rfl
  obtain ⟨_, _, _, _, _, _, _, _, _, l54, c54, k54⟩ := c.def_ 54 (d := ⟨fun K => (He.ga K "_law_exactly"), "_law_exactly", "_law_exactly", defArgs S__law_exactly, defBody S__law_exactly, defScope S__law_exactly⟩) rfl
  obtain ⟨_, _, _, _, _, _, _, _, _, l55, c55, k55⟩ := c.def_ 55 (d := ⟨fun K => (He.ga K "_law_wish"), "_law_wish", "_law_wish", defArgs S__law_wish, defBody S__law_wish, defScope S__law_wish⟩) rfl
  obtain ⟨_, _, _, _, _, _, _, _, _, l56, c56, k56⟩ := c.def_ 56 (d := ⟨fun K => (He.ga K "_law_filled_up"), "_law_filled_up", "_law_filled_up", defArgs S__law_filled_up, defBody S__law_filled_up, defScope S__law_filled_up⟩) rfl
  obtain ⟨_, _, _, _, _, _, _, _, _, l57, c57, k57⟩ := c.def_ 57 (d := ⟨fun K => (He.ga K "_law_right"), "_law_right", "_law_right", defArgs S__law_right, defBody S__law_right, defScope S__law_right⟩) rfl
  obtain ⟨_, _, _, _, _, _, _, _, _, l58, c58, k58⟩ := c.def_ 58 (d := ⟨fun K => (He.ga K "law"), "law", "law", defArgs S_law, defBody S_law, defScope S_law⟩) rfl
  obtain ⟨_, gl1, gd1⟩ := tupO_ok q78
  obtain ⟨_, gl2, gd2⟩ := tupO_ok q80
  obtain ⟨_, cg3⟩ := intC_ok q81
  obtain ⟨_, cg4⟩ := intC_ok q82
  obtain ⟨_, cg5⟩ := intC_ok q83
  exact all_mk X G hfa (He.eqO_ok q0) q1 q2 q3 (He.eqO_ok q4) q5 q6 (He.eqO_ok q7) (He.eqO_ok q8) mcE gE mcS gS (He.eqO_ok q11) l0 c0 k0 (He.eqO_ok q12) l1 c1 k1 (He.eqO_ok q13) l2 c2 k2 (He.eqO_ok q14) l3 c3 k3 (He.eqO_ok q15) l4 c4 k4 (He.eqO_ok q16) l5 c5 k5 (He.eqO_ok q17) l6 c6 k6 (He.eqO_ok q18) l7 c7 k7 (He.eqO_ok q19) l8 c8 k8 (He.eqO_ok q20) l9 c9 k9 (He.eqO_ok q21) l10 c10 k10 (He.eqO_ok q22) l11 c11 k11 (He.eqO_ok q23) l12 c12 k12 (He.eqO_ok q24) l13 c13 k13 (He.eqO_ok q25) l14 c14 k14 (He.eqO_ok q26) l15 c15 k15 (He.eqO_ok q27) l16 c16 k16 (He.eqO_ok q28) l17 c17 k17 (He.eqO_ok q29) l18 c18 k18 (He.eqO_ok q30) l19 c19 k19 (He.eqO_ok q31) l20 c20 k20 (He.eqO_ok q32) l21 c21 k21 (He.eqO_ok q33) l22 c22 k22 (He.eqO_ok q34) l23 c23 k23 (He.eqO_ok q35) l24 c24 k24 (He.eqO_ok q36) l25 c25 k25 (He.eqO_ok q37) l26 c26 k26 (He.eqO_ok q38) l27 c27 k27 (He.eqO_ok q39) l28 c28 k28 (He.eqO_ok q40) q41 l29 c29 k29 (He.eqO_ok q42) q43 l30 c30 k30 (He.eqO_ok q44) q45 l31 c31 k31 (He.eqO_ok q46) q47 l32 c32 k32 (He.eqO_ok q48) q49 l33 c33 k33 (He.eqO_ok q50) q51 l34 c34 k34 (He.eqO_ok q52) l35 c35 k35 (He.eqO_ok q53) l36 c36 k36 (He.eqO_ok q54) l37 c37 k37 (He.eqO_ok q55) l38 c38 k38 (He.eqO_ok q56) l39 c39 k39 (He.eqO_ok q57) l40 c40 k40 (He.eqO_ok q58) l41 c41 k41 (He.eqO_ok q59) l42 c42 k42 (He.eqO_ok q60) l43 c43 k43 (He.eqO_ok q61) l44 c44 k44 (He.eqO_ok q62) l45 c45 k45 (He.eqO_ok q63) l46 c46 k46 (He.eqO_ok q64) l47 c47 k47 (He.eqO_ok q65) l48 c48 k48 (He.eqO_ok q66) l49 c49 k49 (He.eqO_ok q67) l50 c50 k50 (He.eqO_ok q68) l51 c51 k51 (He.eqO_ok q69) l52 c52 k52 (He.eqO_ok q70) l53 c53 k53 (He.eqO_ok q71) l54 c54 k54 (He.eqO_ok q72) l55 c55 k55 (He.eqO_ok q73) l56 c56 k56 (He.eqO_ok q74) l57 c57 k57 (He.eqO_ok q75) l58 c58 k58 (He.eqO_ok q76) (He.eqO_ok q77) gl1 gd1 (He.eqO_ok q79) gl2 gd2 cg3 cg4 cg5 (He.eqO_ok q84) (He.eqO_ok q85) (He.eqO_ok q86) (He.eqO_ok q87) (He.eqO_ok q88) (He.eqO_ok q89) (He.eqO_ok q90) (He.eqO_ok q91) (He.eqO_ok q92) (He.eqO_ok q93) (He.eqO_ok q94) (He.eqO_ok q95) (He.eqO_ok q96) (He.eqO_ok q97) (He.eqO_ok q98) (He.eqO_ok q99) (He.eqO_ok q100) (He.eqO_ok q101)
end Ob
open PySem PySem.W PySem.Calls PyProof.Rows
set_option maxRecDepth 100000 in
set_option maxHeartbeats 0 in
theorem PySem.Challenge.cw_onecut_k46_best_wishes_holds : PySem.Challenge.rw_onecut_k46_best_wishes.Holds := by
  w_on; o_law
  refine HandSHeadRun.head_imp (r := OpenLaw.row PySem.Challenge.rw_onecut_k46_best_wishes) (q := view (OpenLaw.row PySem.Challenge.rw_onecut_k46_best_wishes).prog [0, 73]) (H := Ob.hkH) (ob := Ob.obH) (M := 12000) (loose := Ob.lsH) (d := HandSHeadRun.topDef (OpenLaw.row PySem.Challenge.rw_onecut_k46_best_wishes).prog 73) (kwd := []) Ob.obH_eq
    Ob.runH (by kernel_rfl) (by kernel_rfl) (by kernel_rfl) (by rfl) (by first | assumption | decide +kernel) (by decide +kernel) ⟨rfl, rfl, rfl, rfl, rfl, by decide +kernel⟩ ?hw ?hc
  case hw => w_witness2
  case hc =>
    refine Ob.walk_gE (l := PySem.Challenge.rw_onecut_k46_best_wishes) (n := 63) (k := 14) (x := "_law_script") (CX := L2.CX0) rfl (by decide) (by kernel_rfl) ⟨rfl, by decide, by decide⟩ ?F (fun _ _ _ _ z => z)
    intro w mg fa h Y G hmg0
    obtain ⟨K, KX, c⟩ := Y
    have hmg : mg ("law" : PySem.Str) = some (.ref fa) := by
      have e : (HandSHeadRun.topDef (OpenLaw.row PySem.Challenge.rw_onecut_k46_best_wishes).prog 73).name = ("law" : PySem.Str) := by kernel_rfl
      rw [← e]
      exact hmg0
    obtain ⟨fd, hb, hF⟩ := Ob.factsH (l := PySem.Challenge.rw_onecut_k46_best_wishes) (w := w) KX G hmg c
    exact ⟨K, fd, Ob.sp_law K, KX, hb, fun H a ns hl _ o hS => ⟨a, ns, rfl, Ob.Scr.of o hS, hl, fun _ => rfl⟩, hF⟩

