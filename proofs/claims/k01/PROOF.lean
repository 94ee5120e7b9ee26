import PyProof.Rows.All
import Wide.All
import OpenK.AllK
import Wide.FinOn
import HandS.ForMost
import HandS.Walk
import HandS.Wide
import HandS.Style
import HandS.More
import HandS.SetFor
import HandS.SortInts
import HandS.IsInst
import HandS.Codes
import PyProof.ReprRoads
import HandS.Defaults
import KE.KExcSuper
import HandS.Exc
import HandS.FStr
import PyProof.FString2
import HandS.Dict
import HandS.Deep
import HandS.RaiseMore
import KE.KIndexOf
import HandS.ExcInit
import PyProof.StrBlock2
import HandS.Conv
import HandS.TryOnly
import PySem.Challenge.RW_holdtap_k01_layouts_recognized
set_option Elab.async false
set_option linter.all false
set_option maxRecDepth 100000
set_option maxHeartbeats 4000000
/-! A layer over the hand layer in which a def knows that no display is being shown (A.guards): repr needs it. -/
namespace Gd
open PySem PySem.Spec PyProof.Rows L2

/-- what a def promises where no guard stands -/
structure FnG (P : Program) (w : World) (K : PySem.W.Frag) (mg : Str → Option Value) (base : Heap)
    (k : Nat) (f : Addr) (fd : FuncData) (ps : List Str) (sp : Sp) : Prop where
  len : ∀ vs H Q E, sp vs H Q E → vs.length = ps.length
  go : ∀ (A : Around) (outer : List Env) (s : Shared) (H : Hp) (args : Args) (us : List Value) (vs : List V) (Q : VK),
    A.guards = some [] → Room k A → Env0 P w K mg base A outer s H → BindsTo s fd args (ps.zip us) →
    Vals vs us → sp vs H Q E0 →
    codeAny (model P w) A (.call (.ref f) args) (CR CX0 outer P w H s Q E0) s

theorem deep_guards {A : Around} {e : Env} (h : A.guards = some []) : (A.deeper e).guards = some [] := h

section
variable {P : Program} {w : World} {K : PySem.W.Frag} {mg : Str → Option Value} {base : Heap}
theorem fnG {x qual : Str} {st : Stmt} {f : Addr} {fd : FuncData} {N ps : List Str} {k : Nat} {sp : Sp}
    (F : Fun K x qual st f fd) (S : FnScope N ps (defScope st))
    (len : ∀ vs H Q E, sp vs H Q E → vs.length = ps.length)
    (hb : ∀ (cdv : Value) (A : Around) (outer : List Env) (s : Shared) (H : Hp) (vs : List V) (Q : VK),
      A.guards = some [] → Room k (A.deeper (envOfC qual (defScope st) s.heap.objs.size f cdv)) → sp vs H Q E0 →
      ∃ t, PSs (cxOf CX0 P w K mg base N qual (defScope st) f cdv A outer s H E0).nox (defBody st) t ∧
        t { nx := fun _ H' => Q .non H', rt := Q } (start N vs) H) :
    FnG P w K mg base (k + 1) f fd ps sp := by
  obtain ⟨oc, od, kV, doc, pm, an, cdv, ct, osl, rfl, lk, hcd⟩ := F.ex
  refine ⟨len, fun A outer s H args us vs Q hg hr e0 bt rv hsp => ?_⟩
  have kin : K.In s.heap := e0.mod.kin.keeps (fun b o e => (e0.bs b o e).1)
  have nol : s.heap.NoLimit := e0.mod.nolimit.keeps (fun b o e => (e0.bs b o e).1)
  have pk : ((ps.zip us).all fun y => (defScope st).names.lookup y.1 == some NameKind.local ||
      (defScope st).names.lookup y.1 == some NameKind.cell) = true := by
    rw [List.all_eq_true]
    rintro ⟨n, v⟩ hm
    have hp := S.par n (List.of_mem_zip hm).1
    rcases hp with e | e <;> simp [e]
  refine Att.call_fn kin nol lk hcd hr.depth bt pk (fun s1 ic => ?_) S.co S.gen S.kind
  obtain ⟨t, ht, hq⟩ := hb cdv A outer s H vs Q hg (hr.deeper _) hsp
  have J := inv_start (CX := CX0) (E := E0) (P := P) (w := w) (mg := mg) (base := base) S hr.hd e0 (len _ _ _ _ hsp) rv ic
  have J' := J.wish (fun _ _ => False)
  refine wpAny_mono (ht.run [] s1 (start N vs) H _ J' hq) (fun fl s' sp' => ?_) (fun _ _ z => z.elim)
  match fl, sp' with
  | .next, ⟨σ', H', L, q⟩ => exact ⟨.non, H', L.os, L.bare, L.base, L.hok, rfl, q⟩
  | .ret u, ⟨v, σ', H', L, rr, q⟩ => exact ⟨v, H', L.os, L.bare, L.base, L.hok, rr, q⟩
  | .brk, ⟨_, _, _, q⟩ => exact False.elim q
  | .cont, ⟨_, _, _, q⟩ => exact False.elim q
end

/-- a def that may be called by its name -/
structure Cl (P : Program) (w : World) (K : PySem.W.Frag) (mg : Str → Option Value) (base : Heap) (k : Nat) (x : Str) (sp : Sp) : Prop where
  ex : ∃ (f : Addr) (fd : FuncData) (ps : List Str), FnG P w K mg base k f fd ps sp ∧ mg x = some (.ref f) ∧
    PySem.W.keepIn K (.ref f) = true ∧ Binds K fd ps []
/-- where a def stands: its text, its name in the module -/
structure At (K : PySem.W.Frag) (mg : Str → Option Value) (x : Str) (st : Stmt) (ps : List Str) : Prop where
  ex : ∃ (f : Addr) (fd : FuncData), Fun K x x st f fd ∧ mg x = some (.ref f) ∧ Binds K fd ps []
section
variable {P : Program} {w : World} {K : PySem.W.Frag} {mg : Str → Option Value} {base : Heap}
theorem clG {x : Str} {st : Stmt} {N ps : List Str} {k : Nat} {sp : Sp} (a : At K mg x st ps) (S : FnScope N ps (defScope st))
    (len : ∀ vs H Q E, sp vs H Q E → vs.length = ps.length)
    (hb : ∀ (f : Addr) (cdv : Value) (A : Around) (outer : List Env) (s : Shared) (H : Hp) (vs : List V) (Q : VK),
      A.guards = some [] → Room k (A.deeper (envOfC x (defScope st) s.heap.objs.size f cdv)) → sp vs H Q E0 →
      ∃ t, PSs (cxOf CX0 P w K mg base N x (defScope st) f cdv A outer s H E0).nox (defBody st) t ∧
        t { nx := fun _ H' => Q .non H', rt := Q } (start N vs) H) : Cl P w K mg base (k + 1) x sp := by
  obtain ⟨f, fd, F, hm, b⟩ := a.ex
  exact ⟨f, fd, ps, fnG F S len (hb f), hm, F.kp, b⟩
theorem Cl.imp {x : Str} {k : Nat} {sp sp' : Sp} (c : Cl P w K mg base k x sp) (h : ∀ vs H Q E, sp' vs H Q E → sp vs H Q E) :
    Cl P w K mg base k x sp' := by
  obtain ⟨f, fd, ps, F, hm, kp, b⟩ := c.ex
  exact ⟨f, fd, ps, ⟨fun vs H Q E z => F.len vs H Q E (h _ _ _ _ z), fun A o s H as us vs Q g r e bt rv z => F.go A o s H as us vs Q g r e bt rv (h _ _ _ _ z)⟩, hm, kp, b⟩
end
section
variable {X : Cx} {k j : Nat} {x : Str} {sp : Sp} {p pos : Pos} {e : Expr} {es : List Expr} {t : TA}
theorem run_cl {f : Addr} {fd : FuncData} {ps : List Str} {pins : List (Addr × Obj)} {σ : L2.St} {H : Hp} {s : Shared} {Q : VK} {us : List Value} {vs : List V}
    (F : FnG X.prog X.w X.K X.mg X.base k f fd ps sp) (hg : X.A.guards = some []) (hr : Room k X.A) (b : Binds X.K fd ps [])
    (I : Inv X pins σ H s) (rv : Vals vs us) (h : sp vs H Q E0) : wpAny (model X.prog X.w) X.A (call (.ref f) us) (EP X pins σ Q) X.xe s := by
  have hl : us.length = ps.length := rv.length.symm.trans (F.len _ _ _ _ h)
  have bt := b s us I.kIn (by simpa using hl)
  rw [List.append_nil] at bt
  refine wpAny_call (codeAny_mono (F.go X.A X.stack s H ⟨us, []⟩ us vs Q hg hr I.env0 bt rv h) (fun r s' hq => ?_))
  match r, hq with
  | .ok (.ret u), hq => exact I.after hq
  | .ok .next, hq => exact False.elim hq
  | .ok .brk, hq => exact False.elim hq
  | .ok .cont, hq => exact False.elim hq
  | .error _, hq => exact False.elim hq
/-- f(e, ..) -/
theorem pe_cl (c : Cl X.prog X.w X.K X.mg X.base k x sp) (hg : X.A.guards = some []) (hr : Room j X.A) (hk : k ≤ j) (gl : Gl X x) (ha : PA X (e :: es) t)
    (hd : (x == ("__debug__" : Str)) = false := by decide)
    (he : starEach (e :: es) X.env = (false, eval e X.env) :: starEach es X.env := by rfl)
    (hp : (backTo pos (starEach es X.env)).any (·.1) = false := by rfl) :
    PE X (.Call (.Name x p) (e :: es) [] pos) (tCall sp [] E0 t) := by
  obtain ⟨f, fd, ps, F, hm, kp, b⟩ := c.ex
  refine ⟨fun pins s σ H Q I h => wpAny_Call_Name_kw (ld_glob I gl hm (PySem.W.callWith_K (h₀ := X.base) I.ok.mod.kin kp ?_ he hp) hd)⟩
  refine thn (ha.run pos pins s σ H _ I h) (fun us s1 z => ?_)
  obtain ⟨vs, H1, I1, rv, q⟩ := z
  exact ⟨I1.kIn, run_cl F hg (hr.mono hk) b I1 rv (by simpa using q)⟩
/-- f() -/
theorem pe_cl0 (c : Cl X.prog X.w X.K X.mg X.base k x sp) (hg : X.A.guards = some []) (hr : Room j X.A) (hk : k ≤ j) (gl : Gl X x)
    (hd : (x == ("__debug__" : Str)) = false := by decide) :
    PE X (.Call (.Name x p) [] [] pos) (tCall sp [] E0 tNil) := by
  obtain ⟨f, fd, ps, F, hm, kp, b⟩ := c.ex
  refine ⟨fun pins s σ H Q I h => wpAny_Call_Name_kw (ld_glob I gl hm (PySem.W.callWith_K0 I.kIn kp ?_) hd)⟩
  exact run_cl (us := []) F hg (hr.mono hk) b I .nil h
end

/-! ### rules that lack: a great power, repr of data -/
def CPowW (i j : Int) : Prop := 0 ≤ j ∧ (Builtin.Int.intBits i : Int) * j ≤ 2 ^ 27
theorem op_powW {X : Cx} : OpR X (binaryOp .Pow) (rI CPowW fun i j => .int (i ^ j.toNat)) := opI fun _ _ _ _ _ _ _ hc q => pow_int hc.1 hc.2 q
theorem bits_le {i : Int} {n : Nat} (h : i.natAbs < 2 ^ n) : Builtin.Int.intBits i ≤ n := by
  unfold Builtin.Int.intBits
  split
  · exact Nat.zero_le _
  · rename_i hz
    have h0 : i.natAbs ≠ 0 := by
      intro z
      apply hz
      have : i = 0 := Int.natAbs_eq_zero.mp z
      simp [this]
    have := (Nat.log2_lt h0).mpr h
    omega
theorem powW {i : Int} {n k : Nat} (h : i.natAbs < 2 ^ n) (hs : n * k ≤ 2 ^ 27) : CPowW i (k : Int) := by
  refine ⟨by omega, ?_⟩
  have b := bits_le h
  have m : Builtin.Int.intBits i * k ≤ 2 ^ 27 := Nat.le_trans (Nat.mul_le_mul_right k b) hs
  exact_mod_cast m

/-- repr(x), x a list or a tuple of data -/
def rRep (K : PySem.W.Frag) : List V → Hp → VK → Prop := fun xs H Q => ∃ (a : Addr) (d : PyData), xs = [.ref a] ∧ Dp K H (.ref a) d ∧
  d.showable = true ∧ d.depth ≤ 50 ∧ d.shown.length ≤ sizeLine ∧ Q (.str d.shown) H
mutual
theorem dp_nodict {K : PySem.W.Frag} {H : Hp} : ∀ (d : PyData) (v : V), Dp K H v d → d.hasDict = false
  | .none, _, _ => rfl
  | .bool _, _, _ => rfl
  | .int _, _, _ => rfl
  | .str _, _, _ => rfl
  | .list ds, _, h => by
    cases h with
    | lst _ ha => exact dps_nodict ds _ ha
  | .tuple ds, _, h => by
    cases h with
    | tup _ ha => exact dps_nodict ds _ ha
  | .dict _, _, h => by cases h
theorem dps_nodict {K : PySem.W.Frag} {H : Hp} : ∀ (ds : List PyData) (vs : List V), DpAll K H vs ds → PyData.hasDictAll ds = false
  | [], _, _ => rfl
  | d :: ds, _, h => by
    cases h with
    | cons h1 h2 =>
      show (d.hasDict || PyData.hasDictAll ds) = false
      rw [dp_nodict d _ h1, dps_nodict ds _ h2]
      rfl
end
theorem call_rep {X : Cx} {k : Nat} (hg : X.A.guards = some []) (hr : Room k X.A) : CallR X (.builtin "repr") (rRep X.K) := by
  intro pins s σ H xs us Q I r h
  obtain ⟨a, d, rfl, hd, hs, hdp, hz, q⟩ := h
  obtain ⟨u, rfl, ru⟩ := vals1 r
  obtain ⟨as, rd⟩ := Dp.reads I d (.ref a) u hd ru
  cases ru
  have hu := hr.un
  exact repr_of_reads' rd hs (PyData.noDict_hsm (dp_nodict d _ hd)) hg (by omega) (fun _ _ e => e)
    (fun h' t tk hk => ⟨.str d.shown, H, I.kept (t' := tk) hk, ⟨t, rfl⟩, q⟩) hz

/-! ### the law's own call -/
section
variable {P : Program} {w : World} {K : PySem.W.Frag} {mg mb : Str → Option Value} {k : Nat} {fa a : Addr} {fd : FuncData} {x : Str} {sp : Sp} {s₁ : Shared} {vs : List Value} {ns : List Int}
/-- the heap as the caller has it, H what is tracked of it: at most the script -/
theorem top_run (KX : K.In s₁.heap) (gl : s₁.heap.Ns mainGlobals mg) (bl : s₁.heap.Ns builtinsNs mb) (bb : ∀ y : Str, y ≠ "__name__" → mb y = bootBuiltins y)
    (nol : s₁.heap.NoLimit) (ng : s₁.gens = #[]) (oa : s₁.heap.get? a = some { cls := .type "list", data := .seq vs.toArray }) (hr : Room k callerA)
    (F : ∀ base : Heap, K.In base → base.Ns mainGlobals mg → FnG P w K mg base k fa fd [x] sp)
    (bt : ∀ (s : Shared) (u : Value), BindsTo s fd ⟨[u], []⟩ [(x, u)]) {H : Hp} (only : Only H) (hok : HOk P w H s₁.heap)
    (at_a : ∀ b, H b ≠ none → b = a ∧ K.lookup a = none) (h : sp [.ref a] H (fun v _ => v = .bl true) E0) :
    codeAny (model P w) callerA (.call (.ref fa) ⟨[.ref a], []⟩)
      (fun r s' => r = .ok (.ret (.bool true)) ∧ OldK s₁.heap s'.heap ∧ s'.os = s₁.os ∧ AllBare s'.gens) s₁ := by
  have free : ∀ {b : Addr} {o : Obj}, s₁.heap.get? b = some o → (b = a → ∃ es ep, o.data = .dict es ep) → H b = none := by
    intro b o e d
    rcases Classical.em (H b = none) with z | z
    · exact z
    · obtain ⟨rfl, _⟩ := at_a b z
      obtain ⟨es, ep, hd⟩ := d rfl
      rw [oa] at e
      cases e
      cases hd
  have nsAt : ∀ {b : Addr} {m : Str → Option Value}, s₁.heap.Ns b m → (hidT s₁.heap H).Ns b m := by
    intro b m z
    obtain ⟨o, es, ep, e, d, r⟩ := z
    exact ⟨o, es, ep, hidT_get e (free e fun _ => ⟨es, ep, d⟩), d, r⟩
  have KB : K.In (hidT s₁.heap H) := by
    intro b o e
    refine hidT_get (KX b o e) ?_
    rcases Classical.em (H b = none) with z | z
    · exact z
    · obtain ⟨rfl, q⟩ := at_a b z
      rw [q] at e
      cases e
  obtain ⟨ml, l1, l2⟩ := nol
  have M : Mod K mg (hidT s₁.heap H) := ⟨KB, nsAt gl, ⟨mb, nsAt bl, bb⟩, ⟨ml, nsAt l1, l2⟩⟩
  have E : Env0 P w K mg (hidT s₁.heap H) callerA [] s₁ H := by
    refine ⟨rfl, M, fun b o e => of_hidT e, Nat.le_of_eq (hidT_size _ _), True.intro, fun b hb => ?_, hok, .of_eq ng⟩
    exact nomatch (show b ∈ ([] : List Addr) from hb)
  refine codeAny_mono ((F _ KB (nsAt gl)).go callerA [] s₁ H ⟨[.ref a], []⟩ [.ref a] [.ref a] _ rfl hr E (bt s₁ (.ref a)) (.cons rfl .nil) h) ?_
  intro r s' z
  match r, z with
  | .ok .next, z => exact False.elim z
  | .ok .brk, z => exact False.elim z
  | .ok .cont, z => exact False.elim z
  | .error _, z => exact False.elim z
  | .ok (.ret u), ⟨v, H', os, bare, un, hok', rv, q⟩ =>
    have q : v = .bl true := q
    subst q
    have ru : u = Value.bool true := rv
    subst ru
    refine ⟨rfl, OldK.of_keep fun b o e => ?_, os, bare⟩
    rcases only b with n | ⟨ob, xs, n⟩
    · exact un.keep b o e n (fun m => nomatch (show b ∈ ([] : List Addr) from m)) (fun m => nomatch m)
    · have f1 := hok b _ n
      have f2 := hok' b _ (un.frzs b ob _ n)
      have g1 : s₁.heap.get? b = some ob := f1.1
      have g2 : s'.heap.get? b = some ob := f2.1
      rw [e] at g1
      cases g1
      exact g2
theorem law_callG (KX : K.In s₁.heap) (gl : s₁.heap.Ns mainGlobals mg) (bl : s₁.heap.Ns builtinsNs mb) (bb : ∀ y : Str, y ≠ "__name__" → mb y = bootBuiltins y)
    (nol : s₁.heap.NoLimit) (ng : s₁.gens = #[]) (oa : s₁.heap.get? a = some { cls := .type "list", data := .seq vs.toArray }) (hi : IntsAre vs ns) (hl : ns.length ≤ sizeLine) (hr : Room k callerA)
    (F : ∀ base : Heap, K.In base → base.Ns mainGlobals mg → FnG P w K mg base k fa fd [x] sp)
    (bt : ∀ (s : Shared) (u : Value), BindsTo s fd ⟨[u], []⟩ [(x, u)])
    (hsp : ∀ H : Hp, Only H → SqL K H a (ns.map V.int) → sp [.ref a] H (fun v _ => v = .bl true) E0) :
    codeAny (model P w) callerA (.call (.ref fa) ⟨[.ref a], []⟩)
      (fun r s' => r = .ok (.ret (.bool true)) ∧ OldK s₁.heap s'.heap ∧ s'.os = s₁.os ∧ AllBare s'.gens) s₁ := by
  have rv := vals_ints hi
  have lenV := hi.length
  by_cases hk : K.lookup a = none
  · let H : Hp := fun b => if b = a then some (.frz { cls := .type "list", data := .seq vs.toArray } (.lst (ns.map V.int))) else none
    have Ha : H a = some (.frz { cls := .type "list", data := .seq vs.toArray } (.lst (ns.map V.int))) := if_pos rfl
    have Hn : ∀ {b : Addr}, b ≠ a → H b = none := fun h => if_neg h
    have only : Only H := by
      intro b
      by_cases e : b = a
      · subst e; exact .inr ⟨_, _, Ha⟩
      · exact .inl (Hn e)
    refine top_run KX gl bl bb nol ng oa hr F bt (H := H) only ?_ ?_ (hsp H only (.inl (.inr ⟨_, Ha⟩)))
    · intro b u z
      by_cases e : b = a
      · subst e
        rw [Ha] at z
        cases z
        exact ⟨oa, by rw [List.length_map]; exact hl, vs, _, rv, oa⟩
      · rw [Hn e] at z; cases z
    · intro b z
      by_cases e : b = a
      · exact ⟨e, hk⟩
      · exact absurd (Hn e) z
  · obtain ⟨o, ho⟩ := Option.ne_none_iff_exists'.mp hk
    have e := KX a o ho
    rw [oa] at e
    cases e
    have only : Only (fun _ => none) := fun _ => .inl rfl
    refine top_run KX gl bl bb nol ng oa hr F bt (H := fun _ => none) only (fun b u z => nomatch z) (fun b z => absurd rfl z) (hsp _ only (.inr ?_))
    exact ⟨_, vs.toArray, _, ho, rfl, rfl, rfl, by rw [List.size_toArray, lenV]; exact hl, by simpa using rv⟩
end
/-- what k_head leaves, from the promise of the law's def -/
theorem walkG {l : PySem.W.OpenLaw} {n k : Nat} {q : Program} {loose : List Str} {XP : (Str → Option Value) → Heap → Prop} {YP : World → Heap → Prop} {d : DefRec} {K : Params → PySem.W.Frag} {sp : PySem.W.Frag → Sp} {x : Str}
    (hn : l.most = some n) (hn2 : n ≤ sizeLine) (hdf : d.params.defaults = []) (hr : Room k callerA)
    (hY : ∀ (w : World) (h : Heap), YP w h → (K w.params).In h)
    (F : ∀ (w : World) (mg : Str → Option Value) (fa : Addr) (h : Heap), (K w.params).In h → h.Ns mainGlobals mg → mg d.name = some (.ref fa) →
      ∃ fd : FuncData, (∀ (s : Shared) (u : Value), BindsTo s fd ⟨[u], []⟩ [(x, u)]) ∧
        ∀ base : Heap, (K w.params).In base → base.Ns mainGlobals mg → FnG l.prog w (K w.params) mg base k fa fd [x] (sp (K w.params)))
    (hsp : ∀ (K : PySem.W.Frag) (H : Hp) (a : Addr) (ns : List Int), ns.length ≤ n → SqL K H a (ns.map V.int) →
      sp K [.ref a] H (fun v _ => v = .bl true) E0) :
    PySem.W.WalkO q loose XP YP l.row.toRowW d [] (fun f vs => PySem.call f vs) := by
  refine Att.attach_call hn hdf ?_
  intro w s₀ s₁ mg mb fa o pm cd doc a vs ns G Y ho hd hcd hmg oa hi hlen ng
  have KX := hY w _ Y
  obtain ⟨fd, bt, hF⟩ := F w mg fa _ KX G.T.g hmg
  exact law_callG KX G.T.g G.T.b G.T.builtins G.T.nolimit ng oa hi (Nat.le_trans hlen hn2) hr hF bt (fun H _ hS => hsp _ H a ns hlen hS)
end Gd

set_option Elab.async false
set_option linter.all false
set_option maxRecDepth 100000
set_option maxHeartbeats 4000000
/-! a def with defaults, called with all of its arguments, or with some of them -/
namespace Gd
open PySem PySem.Spec PyProof.Rows L2
theorem room65 {k : Nat} {A : Around} (r : Room k A) : A.units + 65 < cLine := by have := r.un; omega
/-- where a def with defaults stands; ds: the values that fill up -/
structure AtX (K : PySem.W.Frag) (mg : Str → Option Value) (x : Str) (st : Stmt) (ps : List Str) (ds : List Value) : Prop where
  ex : ∃ (f : Addr) (oc : Value) (od : Option Addr) (dV kV doc pm : Value) (an : Option Addr) (cdv ct : Value) (osl : Array (Option Value)),
    K.lookup f = some ⟨oc, od, .func (PySem.W.fnOf x x (defArgs st) (defBody st) (defScope st) dV kV doc pm an cdv ct), osl⟩ ∧ PySem.W.codeIn K cdv x = true ∧ PySem.W.keepIn K (.ref f) = true ∧ mg x = some (.ref f) ∧
    Binds K (PySem.W.fnOf x x (defArgs st) (defBody st) (defScope st) dV kV doc pm an cdv ct) ps ds
section
variable {P : Program} {w : World} {K : PySem.W.Frag} {mg : Str → Option Value} {base : Heap}
theorem clX {x : Str} {st : Stmt} {N ps : List Str} {k : Nat} {sp : Sp} (a : AtX K mg x st ps []) (S : FnScope N ps (defScope st))
    (len : ∀ vs H Q E, sp vs H Q E → vs.length = ps.length)
    (hb : ∀ (f : Addr) (cdv : Value) (A : Around) (outer : List Env) (s : Shared) (H : Hp) (vs : List V) (Q : VK),
      A.guards = some [] → Room k (A.deeper (envOfC x (defScope st) s.heap.objs.size f cdv)) → sp vs H Q E0 →
      ∃ t, PSs (cxOf CX0 P w K mg base N x (defScope st) f cdv A outer s H E0).nox (defBody st) t ∧
        t { nx := fun _ H' => Q .non H', rt := Q } (start N vs) H) : Cl P w K mg base (k + 1) x sp := by
  obtain ⟨f, oc, od, dV, kV, doc, pm, an, cdv, ct, osl, lk, hcd, kp, hm, bd⟩ := a.ex
  refine ⟨f, _, ps, ⟨len, fun A outer s H args us vs Q hg hr e0 bt rv hsp => ?_⟩, hm, kp, bd⟩
  have kin : K.In s.heap := e0.mod.kin.keeps (fun b o e => (e0.bs b o e).1)
  have nol : s.heap.NoLimit := e0.mod.nolimit.keeps (fun b o e => (e0.bs b o e).1)
  have pk : ((ps.zip us).all fun y => (defScope st).names.lookup y.1 == some NameKind.local ||
      (defScope st).names.lookup y.1 == some NameKind.cell) = true := by
    rw [List.all_eq_true]
    rintro ⟨n, v⟩ hm
    have hp := S.par n (List.of_mem_zip hm).1
    rcases hp with e | e <;> simp [e]
  refine Att.call_fn kin nol lk hcd hr.depth bt pk (fun s1 ic => ?_) S.co S.gen S.kind
  obtain ⟨t, ht, hq⟩ := hb f cdv A outer s H vs Q hg (hr.deeper _) hsp
  have J := inv_start (CX := CX0) (E := E0) (P := P) (w := w) (mg := mg) (base := base) S hr.hd e0 (len _ _ _ _ hsp) rv ic
  have J' := J.wish (fun _ _ => False)
  refine wpAny_mono (ht.run [] s1 (start N vs) H _ J' hq) (fun fl s' sp' => ?_) (fun _ _ z => z.elim)
  match fl, sp' with
  | .next, ⟨σ', H', L, q⟩ => exact ⟨.non, H', L.os, L.bare, L.base, L.hok, rfl, q⟩
  | .ret u, ⟨v, σ', H', L, rr, q⟩ => exact ⟨v, H', L.os, L.bare, L.base, L.hok, rr, q⟩
  | .brk, ⟨_, _, _, q⟩ => exact False.elim q
  | .cont, ⟨_, _, _, q⟩ => exact False.elim q
end
/-- one default behind: all arguments are given -/
theorem atX_all {K : PySem.W.Frag} {h : Heap} {mg : Str → Option Value} {x : Str} {st : Stmt} {ps : List Str} {f T : Addr} {od an td : Option Addr} {sl ts : Array (Option Value)} {oc kV dc pm cd ct d : Value} {tn : Nat} (X : K.In h) (G : h.Ns mainGlobals mg)
    (a : PySem.W.nsIn K mainGlobals x = some (some (.ref f))) (l : K.lookup f = some ⟨oc, od, .func (PySem.W.fnOf x x (defArgs st) (defBody st) (defScope st) (.ref T) kV dc pm an cd ct), sl⟩) (c : PySem.W.codeIn K cd x = true) (k : PySem.W.keepIn K (.ref f) = true)
    (u : K.lookup T = some ⟨.type "tuple", td, .seq #[d] tn, ts⟩)
    (hb : ∀ (T : Addr) (kV doc pm : Value) (an : Option Addr) (cdv ct : Value) (us its : List Value), us.length = ps.length → its.length = 1 →
      ∃ k, bindArgs (PySem.W.fnOf x x (defArgs st) (defBody st) (defScope st) (.ref T) kV doc pm an cdv ct) ⟨us, []⟩ = seqItems? (.ref T) >>= k ∧ k (some its.toArray) = pure (ps.zip us)) : AtX K mg x st ps [] := by
  refine ⟨f, oc, od, .ref T, kV, dc, pm, an, cd, ct, sl, l, c, k, PySem.W.mg_of X G a, fun s us KX hl => ?_⟩
  rw [List.append_nil] at hl ⊢
  obtain ⟨g, e1, e2⟩ := hb T kV dc pm an cd ct us [d] hl rfl
  refine BindsTo.of_looks fun M => ?_
  rw [e1]
  exact looks_items (its := #[d]) KX u rfl (PySem.W.Looks.of_pure e2)
/-- a method's call within a comprehension: the constants said -/
theorem pe_bmB {X : Cx} {K0 : PySem.W.Frag} {T : String} {name : Str} {id : String} {r : V → List V → Hp → VK → Prop} {o e : Expr} {es : List Expr} {to : TE} {t : TA} {apos cpos : Pos} (hK : X.K = K0) (pa : PlainAttrs T) (slot : Slot T name id) (hty : typeOf (.builtin id) = pure (.type "method_descriptor")) (hm : MtR X id r) (ho : PE X o to) (ha : PA X (e :: es) t)
    (hbase : attributeBase o name X.env (eval o X.env) = eval o X.env := by rfl)
    (hfew : ((backTo cpos (starEach (e :: es) X.env)).all (fun x => !x.1) && (backToKw cpos (keywordEach [] X.env)).all (fun x => x.1.isSome)
      && decide ((e :: es).length + ([] : List Keyword).length + (if ([] : List Keyword).isEmpty then 0 else 1) < 30)) = true := by rfl)
    (hline : (apos.endLine == cpos.line) = true := by rfl) (hs : starEach (e :: es) X.env = (false, eval e X.env) :: starEach es X.env := by rfl) (hplain : (backTo cpos (starEach es X.env)).any (·.1) = false := by rfl) :
    PE X (.Call (.Attribute o name apos) (e :: es) [] cpos) (tBM K0 T r to t) := by
  subst hK
  exact pe_bm pa slot hty hm ho ha hbase hfew hline hs hplain
end Gd

set_option Elab.async false
set_option linter.all false
set_option maxRecDepth 100000
set_option maxHeartbeats 4000000
namespace Rm
open PySem PySem.Spec PyProof.Rows L2 Gd

/-! ### how long a display is -/
structure Fit (L n : Nat) (d : PyData) : Prop where
  sh : d.showable = true
  dp : d.depth ≤ n
  ln : d.shown.length ≤ L
theorem Fit.mono {L n L' n' : Nat} {d : PyData} (f : Fit L n d) (h : L ≤ L') (h' : n ≤ n') : Fit L' n' d := ⟨f.sh, by have := f.dp; omega, by have := f.ln; omega⟩
theorem allSh {L n : Nat} : ∀ {ds : List PyData}, (∀ d ∈ ds, Fit L n d) → PyData.showableAll ds = true ∧ PyData.depthAll ds ≤ n ∧ piled (PyData.shownAll ds) ≤ ds.length * (L + 2)
  | [], _ => ⟨rfl, Nat.zero_le _, Nat.zero_le _⟩
  | d :: ds, h => by
    obtain ⟨a, b, c⟩ := allSh (ds := ds) fun x hx => h x (List.mem_cons_of_mem _ hx)
    have f := h d List.mem_cons_self
    refine ⟨?_, ?_, ?_⟩
    · show (d.showable && PyData.showableAll ds) = true
      rw [f.sh, a]; rfl
    · show max d.depth (PyData.depthAll ds) ≤ n
      have := f.dp
      omega
    · show piled (d.shown :: PyData.shownAll ds) ≤ _
      rw [piled_cons, List.length_cons]
      have := f.ln
      have e : (ds.length + 1) * (L + 2) = ds.length * (L + 2) + (L + 2) := Nat.succ_mul _ _
      omega
theorem listText_le (ts : List Str) : (listText ts).length ≤ piled ts + 2 := by
  cases ts with
  | nil => decide
  | cons t r =>
    have h := textFrom_length_pos r 1 (("[" : Str) ++ (if (0 : Nat) > 0 then ", " else "" : String) ++ t) (Nat.succ_pos 0)
    have e : ((("[" : Str) ++ (if (0 : Nat) > 0 then ", " else "" : String) ++ t)).length = 1 + t.length := by
      rw [strLen_append, strLen_append]; rfl
    have x : (listText (t :: r)).length = (textFrom 1 (("[" : Str) ++ (if (0 : Nat) > 0 then ", " else "" : String) ++ t) r).length + 1 := by
      show (textFrom 1 (("[" : Str) ++ (if (0 : Nat) > 0 then ", " else "" : String) ++ t) r ++ "]").length = _
      rw [strLen_append]; rfl
    rw [x, h, e, piled_cons]
    omega
theorem tupleText_le (ts : List Str) : (tupleText ts).length ≤ piled ts + 3 := by
  unfold tupleText
  rw [strLen_append, strLen_append]
  have e1 : ((("(" : String) : Str)).length = 1 := rfl
  have e3 : (((if ts.length == 1 then ",)" else ")" : String) : Str)).length ≤ 2 := by split <;> decide
  rw [e1]
  cases ts with
  | nil =>
    have : (Str.join ", " []).length = 0 := by decide
    omega
  | cons t r =>
    have := join_length_add (t :: r) (by simp)
    omega
theorem fit_list {L n : Nat} {ds : List PyData} (h : ∀ d ∈ ds, Fit L n d) : Fit (ds.length * (L + 2) + 3) (n + 1) (.list ds) := by
  obtain ⟨a, b, c⟩ := allSh h
  have := listText_le (PyData.shownAll ds)
  exact ⟨a, by show PyData.depthAll ds + 1 ≤ _; omega, by show (listText (PyData.shownAll ds)).length ≤ _; omega⟩
theorem fit_tup {L n : Nat} {ds : List PyData} (h : ∀ d ∈ ds, Fit L n d) : Fit (ds.length * (L + 2) + 3) (n + 1) (.tuple ds) := by
  obtain ⟨a, b, c⟩ := allSh h
  have := tupleText_le (PyData.shownAll ds)
  exact ⟨a, by show PyData.depthAll ds + 1 ≤ _; omega, by show (tupleText (PyData.shownAll ds)).length ≤ _; omega⟩
theorem fit_int {i : Int} (h : i.natAbs < 2 ^ 200) : Fit 210 0 (.int i) := by
  have hl : i.natAbs.log2 < 200 := PySem.Flt.log2_lt_of (by decide) h
  refine ⟨?_, Nat.le_refl _, ?_⟩
  · show decide (i.natAbs.log2 < 1920) = true
    exact decide_eq_true (by omega)
  · show (Str.ofString (toString i)).length ≤ 210
    rw [PySem.ofString_length]
    have := int_text_length_le (k := 200) (by decide) hl
    omega
theorem fit_none : Fit 210 0 .none := ⟨rfl, Nat.le_refl _, by decide +kernel⟩
theorem fit_bool (b : Bool) : Fit 210 0 (.bool b) := ⟨rfl, Nat.le_refl _, by cases b <;> decide +kernel⟩

/-! ### records -/
structure Ev where
  t : Int
  k : Int
  d : Bool
def wayS (d : Bool) : Str := if d then "down" else "up"
theorem wayS_inj {a b : Bool} : wayS a = wayS b ↔ a = b := by cases a <;> cases b <;> decide +kernel
theorem wayS_down (d : Bool) : decide (V.str (wayS d) = V.str "down") = d := by cases d <;> decide +kernel
def evD (e : Ev) : PyData := .tuple [.int e.t, .int e.k, .str (wayS e.d)]
def stD (e : Ev) : PyData := .tuple [.int e.k, .str (wayS e.d)]
def evV (e : Ev) : List V := [.int e.t, .int e.k, .str (wayS e.d)]
def stV (e : Ev) : List V := [.int e.k, .str (wayS e.d)]
def recD (es : List Ev) : PyData := .list (es.map evD)
def ordD (es : List Ev) : PyData := .list (es.map stD)
def after (h : Int → Bool) (e : Ev) : Int → Bool := fun k => if k = e.k then e.d else h k
def heldB (es : List Ev) : Int → Bool := es.foldl after fun _ => false
theorem heldB_snoc (es : List Ev) (e : Ev) : heldB (es ++ [e]) = after (heldB es) e := by unfold heldB; rw [List.foldl_append]; rfl
theorem heldB_take {es : List Ev} {i : Nat} {e : Ev} (h : es[i]? = some e) : heldB (es.take (i + 1)) = after (heldB (es.take i)) e := by
  rw [List.take_add_one, h]
  exact heldB_snoc _ _
/-- a record as the document has it -/
def Valid (es : List Ev) : Prop := ∀ (i : Nat) (e : Ev), es[i]? = some e → 0 ≤ e.k ∧ heldB (es.take i) e.k = !e.d ∧ ∀ (j : Nat) (e' : Ev), j < i → es[j]? = some e' → e'.t ≤ e.t
/-- an order: the same without ticks -/
def ValidO (es : List Ev) : Prop := ∀ (i : Nat) (e : Ev), es[i]? = some e → 0 ≤ e.k ∧ heldB (es.take i) e.k = !e.d
theorem Valid.o {es : List Ev} (h : Valid es) : ValidO es := fun i e x => ⟨(h i e x).1, (h i e x).2.1⟩
theorem Valid.nil : Valid [] := fun _ _ h => by simp at h
theorem Valid.take {es : List Ev} (h : Valid es) (n : Nat) : Valid (es.take n) := fun i e x => by
  have hi : i < n := by
    rcases Nat.lt_or_ge i n with q | q
    · exact q
    · rw [List.getElem?_eq_none (by rw [List.length_take]; omega)] at x; cases x
  rw [List.getElem?_take_of_lt hi] at x
  obtain ⟨a, b, c⟩ := h i e x
  refine ⟨a, ?_, fun j e' hj y => ?_⟩
  · rw [List.take_take, Nat.min_eq_left (by omega)]; exact b
  · rw [List.getElem?_take_of_lt (by omega)] at y
    exact c j e' hj y
theorem ValidO.take {es : List Ev} (h : ValidO es) (n : Nat) : ValidO (es.take n) := fun i e x => by
  have hi : i < n := by
    rcases Nat.lt_or_ge i n with q | q
    · exact q
    · rw [List.getElem?_eq_none (by rw [List.length_take]; omega)] at x; cases x
  rw [List.getElem?_take_of_lt hi] at x
  obtain ⟨a, b⟩ := h i e x
  exact ⟨a, by rw [List.take_take, Nat.min_eq_left (by omega)]; exact b⟩
theorem Valid.snoc {es : List Ev} {e : Ev} (h : Valid es) (h0 : 0 ≤ e.k) (hb : heldB es e.k = !e.d) (ht : ∀ e' ∈ es, e'.t ≤ e.t) : Valid (es ++ [e]) := fun i x hx => by
  rcases Nat.lt_or_ge i es.length with q | q
  · rw [List.getElem?_append_left q] at hx
    obtain ⟨a, b, c⟩ := h i x hx
    refine ⟨a, ?_, fun j e' hj y => ?_⟩
    · rw [List.take_append_of_le_length (by omega)]; exact b
    · rw [List.getElem?_append_left (by omega)] at y
      exact c j e' hj y
  · have hi : i = es.length := by
      have := (List.getElem?_eq_some_iff.mp hx).1
      rw [List.length_append] at this
      simp at this
      omega
    subst hi
    rw [List.getElem?_append_right (Nat.le_refl _), Nat.sub_self] at hx
    have ex : e = x := Option.some.inj hx
    subst ex
    refine ⟨h0, ?_, fun j e' hj y => ?_⟩
    · rw [List.take_append_of_le_length (Nat.le_refl _), List.take_length]; exact hb
    · rw [List.getElem?_append_left hj] at y
      exact ht e' (List.mem_of_getElem? y)
/-- the ticks and keys are not too great to be shown -/
def Small (es : List Ev) : Prop := ∀ e ∈ es, e.t.natAbs < 2 ^ 200 ∧ e.k.natAbs < 2 ^ 200
theorem fit_ev {e : Ev} (h : e.t.natAbs < 2 ^ 200 ∧ e.k.natAbs < 2 ^ 200) : Fit 1000 1 (evD e) := by
  refine Fit.mono (fit_tup (L := 210) (n := 0) fun d hd => ?_) (by show 3 * 212 + 3 ≤ 1000; decide) (Nat.le_refl _)
  simp only [List.mem_cons, List.mem_nil_iff, or_false] at hd
  rcases hd with rfl | rfl | rfl
  · exact fit_int h.1
  · exact fit_int h.2
  · exact ⟨rfl, Nat.le_refl _, by cases e.d <;> decide +kernel⟩
theorem fit_st {e : Ev} (h : e.k.natAbs < 2 ^ 200) : Fit 1000 1 (stD e) := by
  refine Fit.mono (fit_tup (L := 210) (n := 0) fun d hd => ?_) (by show 2 * 212 + 3 ≤ 1000; decide) (Nat.le_refl _)
  simp only [List.mem_cons, List.mem_nil_iff, or_false] at hd
  rcases hd with rfl | rfl
  · exact fit_int h
  · exact ⟨rfl, Nat.le_refl _, by cases e.d <;> decide +kernel⟩
theorem fit_rec {es : List Ev} (h : Small es) (hl : es.length ≤ 1000) : Fit 1100000 2 (recD es) := by
  refine Fit.mono (fit_list (L := 1000) (n := 1) fun d hd => ?_) (by rw [List.length_map]; omega) (Nat.le_refl _)
  obtain ⟨e, he, rfl⟩ := List.mem_map.mp hd
  exact fit_ev (h e he)
theorem fit_ord {es : List Ev} (h : Small es) (hl : es.length ≤ 1000) : Fit 1100000 2 (ordD es) := by
  refine Fit.mono (fit_list (L := 1000) (n := 1) fun d hd => ?_) (by rw [List.length_map]; omega) (Nat.le_refl _)
  obtain ⟨e, he, rfl⟩ := List.mem_map.mp hd
  exact fit_st (h e he).2

/-! ### the dict of what is held -/
structure HeldK (kvs : List (Key × V)) (h : Int → Bool) : Prop where
  fm : ∀ p ∈ kvs, ∃ (k : Int) (b : Bool), p = (Sum.inl k, V.bl b)
  nd : (kvs.map (·.1)).Nodup
  at_ : ∀ k : Int, (valV kvs (Sum.inl k)).getD (.bl false) = .bl (h k)
theorem HeldK.nil : HeldK [] fun _ => false := ⟨fun _ h => by simp at h, List.nodup_nil, fun _ => rfl⟩
theorem put_len (kvs : List (Key × V)) (k : Key) (v : V) : (putK kvs k v).length ≤ kvs.length + 1 := by
  unfold putK
  split
  · rw [List.length_map]; omega
  · rw [List.length_append]; exact Nat.le_refl _
theorem put_keys (kvs : List (Key × V)) (k : Key) (v : V) (h : (kvs.map (·.1)).Nodup) : ((putK kvs k v).map (·.1)).Nodup := by
  cases e : valV kvs k with
  | none => exact nd_putK v h e
  | some x =>
    have a : (kvs.any fun kv => decide (kv.1 = k)) = true := by rw [valV_any, e]; rfl
    unfold putK
    rw [if_pos a, List.map_map]
    have : ((fun p : Key × V => p.1) ∘ fun kv => if kv.1 = k then (kv.1, v) else kv) = (·.1) := by
      funext p
      show (if p.1 = k then (p.1, v) else p).1 = p.1
      split <;> rfl
    rw [this]
    exact h
theorem HeldK.put {kvs : List (Key × V)} {es : List Ev} {e : Ev} (h : HeldK kvs (heldB es)) : HeldK (putK kvs (Sum.inl e.k) (.bl e.d)) (heldB (es ++ [e])) := by
  refine ⟨fun p hp => ?_, put_keys _ _ _ h.nd, fun k => ?_⟩
  · unfold putK at hp
    split at hp
    · obtain ⟨q, hq, rfl⟩ := List.mem_map.mp hp
      obtain ⟨k, b, rfl⟩ := h.fm q hq
      by_cases z : (Sum.inl k : Key) = Sum.inl e.k
      · exact ⟨k, e.d, by simp [z]⟩
      · exact ⟨k, b, by simp [z]⟩
    · rcases List.mem_append.mp hp with hp | hp
      · exact h.fm p hp
      · exact ⟨e.k, e.d, List.mem_singleton.mp hp⟩
  · rw [valV_put, heldB_snoc]
    unfold after
    by_cases z : k = e.k
    · subst z; simp
    · rw [if_neg (fun q => z (Sum.inl.inj q)), if_neg z]
      exact h.at_ k
def downs (kvs : List (Key × V)) : List Int := kvs.filterMap fun p => match p with
  | (Sum.inl k, .bl true) => some k
  | _ => none
theorem downs_cons (k : Int) (b : Bool) (r : List (Key × V)) : downs ((Sum.inl k, .bl b) :: r) = if b then k :: downs r else downs r := by
  cases b <;> simp [downs, List.filterMap_cons]
theorem downs_sub : ∀ {kvs : List (Key × V)} {k : Int}, k ∈ downs kvs → (Sum.inl k : Key) ∈ kvs.map (·.1)
  | kvs, k, h => by
    obtain ⟨p, hp, e⟩ := List.mem_filterMap.mp h
    refine List.mem_map.mpr ⟨p, hp, ?_⟩
    obtain ⟨a, b⟩ := p
    cases a with
    | inr _ => cases e
    | inl k' =>
      cases b with
      | bl c => cases c <;> simp at e; rw [e]
      | non => cases e
      | int _ => cases e
      | str _ => cases e
      | byt _ => cases e
      | flt _ => cases e
      | ref _ => cases e
      | ty _ => cases e
theorem downs_nd : ∀ {kvs : List (Key × V)}, (∀ p ∈ kvs, ∃ (k : Int) (b : Bool), p = (Sum.inl k, V.bl b)) → (kvs.map (·.1)).Nodup → (downs kvs).Nodup
  | [], _, _ => List.nodup_nil
  | p :: r, fm, nd => by
    obtain ⟨k, b, rfl⟩ := fm p List.mem_cons_self
    have nd' : ((Sum.inl k : Key) :: r.map (·.1)).Nodup := nd
    obtain ⟨n1, n2⟩ := List.nodup_cons.mp nd'
    have ih := downs_nd (fun q hq => fm q (List.mem_cons_of_mem _ hq)) n2
    rw [downs_cons]
    split
    · exact List.nodup_cons.mpr ⟨fun m => n1 (downs_sub m), ih⟩
    · exact ih
theorem downs_mem : ∀ {kvs : List (Key × V)}, (∀ p ∈ kvs, ∃ (k : Int) (b : Bool), p = (Sum.inl k, V.bl b)) → (kvs.map (·.1)).Nodup → ∀ k : Int, k ∈ downs kvs ↔ valV kvs (Sum.inl k) = some (.bl true)
  | [], _, _, k => by simp [downs, valV]
  | p :: r, fm, nd, k => by
    obtain ⟨k', b, rfl⟩ := fm p List.mem_cons_self
    have nd' : ((Sum.inl k' : Key) :: r.map (·.1)).Nodup := nd
    obtain ⟨n1, n2⟩ := List.nodup_cons.mp nd'
    have ih := downs_mem (fun q hq => fm q (List.mem_cons_of_mem _ hq)) n2 k
    rw [downs_cons]
    by_cases z : k' = k
    · subst z
      rw [valV_pos rfl]
      cases b with
      | true => simp
      | false =>
        simp only [Bool.false_eq_true, if_false]
        constructor
        · intro m; exact absurd (downs_sub m) n1
        · intro m; cases m
    · rw [valV_neg (fun q => z (Sum.inl.inj q))]
      rw [← ih]
      split
      · rw [List.mem_cons]
        exact ⟨fun q => q.resolve_left fun e => z e.symm, .inr⟩
      · exact Iff.rfl
theorem HeldK.mem {kvs : List (Key × V)} {h : Int → Bool} (x : HeldK kvs h) (k : Int) : k ∈ downs kvs ↔ h k = true := by
  rw [downs_mem x.fm x.nd k]
  have q := x.at_ k
  cases e : valV kvs (Sum.inl k) with
  | none =>
    rw [e] at q
    have q : V.bl false = .bl (h k) := q
    have : h k = false := (V.bl.inj q).symm
    simp [this]
  | some v =>
    rw [e] at q
    have q : v = .bl (h k) := q
    subst q
    constructor
    · intro z
      exact V.bl.inj (Option.some.inj z)
    · intro z
      rw [z]
/-- two ascending lists of the same keys -/
theorem same_sorted {a b c d : List Int} (h : ∀ k, k ∈ a ↔ k ∈ b) (na : a.Nodup) (nb : b.Nodup) (pa : c.Perm a) (pb : d.Perm b) (sa : c.Pairwise (· ≤ ·)) (sb : d.Pairwise (· ≤ ·)) : c = d := by
  have p : a.Perm b := (List.perm_ext_iff_of_nodup na nb).mpr h
  exact List.Perm.eq_of_pairwise (fun x y _ _ h1 h2 => Int.le_antisymm h1 h2) sa sb ((pa.trans p).trans pb.symm)

/-! ### heaps that change at one address alone -/
def Off (r : Addr) (H H' : Hp) : Prop := ∀ b o, H b = some o → b ≠ r → H' b = some o
theorem Off.refl {r : Addr} (H : Hp) : Off r H H := fun _ _ h _ => h
theorem Off.trans {r : Addr} {H H1 H2 : Hp} (a : Off r H H1) (b : Off r H1 H2) : Off r H H2 := fun c o h n => b c o (a c o h n) n
theorem Off.of {r : Addr} {H H1 : Hp} (a : Same H H1) : Off r H H1 := fun c o h _ => a c o h
theorem off_upd {r : Addr} {H : Hp} {o : HO} : Off r H (upd H r o) := fun b _ h n => by rw [upd_ne n]; exact h
theorem same_upd {H : Hp} {p : Addr} {o : HO} (h : H p = none) : Same H (upd H p o) := fun b x e => by
  rw [upd_ne (ne_of_none e h)]
  exact e
/-- what is new may change -/
theorem Same.off {H H1 H2 : Hp} {p : Addr} (s : Same H H1) (h : H p = none) (o : Off p H1 H2) : Same H H2 := fun b x e => o b x (s b x e) (ne_of_none e h)

/-! ### lists of tuples -/
def Tups {α : Type} (H : Hp) (f : α → List V) (as : List Addr) (es : List α) : Prop := as.length = es.length ∧ ∀ (i : Nat) (a : Addr) (e : α), as[i]? = some a → es[i]? = some e → H a = some (.tup (f e))
def Lst {α : Type} (f : α → List V) (H : Hp) (c : Addr) (es : List α) : Prop := ∃ as : List Addr, H c = some (.lst (as.map V.ref)) ∧ Tups H f as es
section
variable {α : Type} {f : α → List V} {H H' : Hp} {c r : Addr} {as : List Addr} {es : List α}
theorem Tups.nil : Tups H f [] ([] : List α) := ⟨rfl, fun i a e h _ => by simp at h⟩
theorem Tups.same (h : Tups H f as es) (s : Same H H') : Tups H' f as es := ⟨h.1, fun i a e x y => s _ _ (h.2 i a e x y)⟩
theorem Tups.off {ys : List V} (h : Tups H f as es) (hr : H r = some (.lst ys)) (o : Off r H H') : Tups H' f as es :=
  ⟨h.1, fun i a e x y => o _ _ (h.2 i a e x y) (ne_of (h.2 i a e x y) hr (by intro z; cases z))⟩
theorem Tups.snoc {a : Addr} {e : α} (h : Tups H f as es) (ha : H a = some (.tup (f e))) : Tups H f (as ++ [a]) (es ++ [e]) := by
  refine ⟨by rw [List.length_append, List.length_append, h.1]; rfl, fun i b x hb hx => ?_⟩
  rcases Nat.lt_or_ge i as.length with q | q
  · rw [List.getElem?_append_left q] at hb
    rw [List.getElem?_append_left (by rw [← h.1]; exact q)] at hx
    exact h.2 i b x hb hx
  · have hl := h.1
    have hi : i = as.length := by
      have := (List.getElem?_eq_some_iff.mp hb).1
      rw [List.length_append] at this
      simp at this
      omega
    subst hi
    rw [List.getElem?_append_right (Nat.le_refl _), Nat.sub_self] at hb
    rw [List.getElem?_append_right (by omega), show as.length - es.length = 0 by omega] at hx
    have e1 : a = b := Option.some.inj hb
    have e2 : e = x := Option.some.inj hx
    subst e1 e2
    exact ha
theorem Tups.take (h : Tups H f as es) (n : Nat) : Tups H f (as.take n) (es.take n) := by
  refine ⟨by rw [List.length_take, List.length_take, h.1], fun i b x hb hx => ?_⟩
  have hi : i < n := by
    rcases Nat.lt_or_ge i n with q | q
    · exact q
    · rw [List.getElem?_eq_none (by rw [List.length_take]; omega)] at hb; cases hb
  rw [List.getElem?_take_of_lt hi] at hb hx
  exact h.2 i b x hb hx
theorem Tups.append {bs : List Addr} {gs : List α} (h : Tups H f as es) (h' : Tups H f bs gs) : Tups H f (as ++ bs) (es ++ gs) := by
  refine ⟨by rw [List.length_append, List.length_append, h.1, h'.1], fun i b x hb hx => ?_⟩
  have hl := h.1
  rcases Nat.lt_or_ge i as.length with q | q
  · rw [List.getElem?_append_left q] at hb
    rw [List.getElem?_append_left (by omega)] at hx
    exact h.2 i b x hb hx
  · rw [List.getElem?_append_right q] at hb
    rw [List.getElem?_append_right (by omega), ← hl] at hx
    exact h'.2 _ b x hb hx
theorem Tups.at_ (h : Tups H f as es) {i : Nat} (hi : i < es.length) : ∃ a, as[i]? = some a ∧ H a = some (.tup (f es[i])) := by
  have hl := h.1
  exact ⟨as[i], List.getElem?_eq_getElem (by omega), h.2 i _ _ (List.getElem?_eq_getElem (by omega)) (List.getElem?_eq_getElem hi)⟩
theorem Tups.map {β : Type} {g : β → α} {bs : List β} (h : Tups H f as (bs.map g)) : Tups H (fun b => f (g b)) as bs := by
  refine ⟨by rw [h.1, List.length_map], fun i a b x y => h.2 i a (g b) x (by rw [List.getElem?_map, y]; rfl)⟩
theorem Tups.map' {β : Type} {g : β → α} {bs : List β} (h : Tups H (fun b => f (g b)) as bs) : Tups H f as (bs.map g) := by
  refine ⟨by rw [h.1, List.length_map], fun i a e x y => ?_⟩
  rw [List.getElem?_map] at y
  cases z : bs[i]? with
  | none => rw [z] at y; cases y
  | some b =>
    rw [z] at y
    have y : g b = e := Option.some.inj y
    subst y
    exact h.2 i a b x z
theorem Lst.same (h : Lst f H c es) (s : Same H H') : Lst f H' c es := by
  obtain ⟨as, a, b⟩ := h
  exact ⟨as, s _ _ a, b.same s⟩
theorem Lst.off {ys : List V} (h : Lst f H c es) (hr : H r = some (.lst ys)) (n : c ≠ r) (o : Off r H H') : Lst f H' c es := by
  obtain ⟨as, a, b⟩ := h
  exact ⟨as, o _ _ a n, b.off hr o⟩
end
theorem dp_int {K : PySem.W.Frag} {H : Hp} {i : Int} : Dp K H (.int i) (.int i) := .int i
theorem dpAll_of {K : PySem.W.Frag} {H : Hp} {α : Type} {f : α → List V} {g : α → PyData} (hg : ∀ (a : Addr) (e : α), H a = some (.tup (f e)) → Dp K H (.ref a) (g e)) :
    ∀ (as : List Addr) (es : List α), Tups H f as es → DpAll K H (as.map V.ref) (es.map g)
  | [], [], _ => .nil
  | [], _ :: _, h => by have := h.1; simp at this
  | _ :: _, [], h => by have := h.1; simp at this
  | a :: as, e :: es, h => .cons (hg a e (h.2 0 a e rfl rfl)) (dpAll_of hg as es ⟨by have := h.1; simpa using this, fun i b x hb hx => h.2 (i + 1) b x (by simpa using hb) (by simpa using hx)⟩)
theorem Lst.dp {K : PySem.W.Frag} {H : Hp} {c : Addr} {es : List Ev} (h : Lst evV H c es) : Dp K H (.ref c) (recD es) := by
  obtain ⟨as, a, b⟩ := h
  refine .lst (SqL.of a) (dpAll_of (fun a e ha => ?_) as es b)
  exact .tup (SqT.of ha) (.cons (.int _) (.cons (.int _) (.cons (.str _) .nil)))
theorem Lst.dpO {K : PySem.W.Frag} {H : Hp} {c : Addr} {es : List Ev} (h : Lst stV H c es) : Dp K H (.ref c) (ordD es) := by
  obtain ⟨as, a, b⟩ := h
  refine .lst (SqL.of a) (dpAll_of (fun a e ha => ?_) as es b)
  exact .tup (SqT.of ha) (.cons (.int _) (.cons (.str _) .nil))
theorem dpInts {K : PySem.W.Frag} {H : Hp} : ∀ ns : List Int, DpAll K H (ns.map V.int) (ns.map PyData.int)
  | [] => .nil
  | n :: ns => .cons (.int n) (dpInts ns)
theorem Lst.sql {K : PySem.W.Frag} {α : Type} {f : α → List V} {H : Hp} {c : Addr} {es : List α} (h : Lst f H c es) : ∃ xs : List V, SqL K H c xs ∧ xs.length = es.length := by
  obtain ⟨as, a, b⟩ := h
  exact ⟨_, SqL.of a, by rw [List.length_map]; exact b.1⟩

theorem val_at : ∀ {kvs : List (Key × V)} {i : Nat} {k : Key} {v : V}, (kvs.map (·.1)).Nodup → kvs[i]? = some (k, v) → valV kvs k = some v
  | [], _, _, _, _, h => by simp at h
  | p :: r, 0, k, v, _, h => by
    have e : p = (k, v) := Option.some.inj h
    subst e
    exact valV_pos rfl
  | p :: r, i + 1, k, v, nd, h => by
    have nd' : (p.1 :: r.map (·.1)).Nodup := nd
    obtain ⟨n1, n2⟩ := List.nodup_cons.mp nd'
    have h' : r[i]? = some (k, v) := by simpa using h
    have m : k ∈ r.map (·.1) := List.mem_map.mpr ⟨(k, v), List.mem_of_getElem? h', rfl⟩
    rw [valV_neg (fun e => n1 (e ▸ m))]
    exact val_at n2 h'
theorem downs_append (a b : List (Key × V)) : downs (a ++ b) = downs a ++ downs b := by unfold downs; rw [List.filterMap_append]
theorem downs_take {kvs : List (Key × V)} {i : Nat} {k : Int} {b : Bool} (h : kvs[i]? = some (Sum.inl k, .bl b)) : downs (kvs.take (i + 1)) = if b then downs (kvs.take i) ++ [k] else downs (kvs.take i) := by
  rw [List.take_add_one, h, downs_append]
  cases b <;> simp [downs]
theorem downs_len (kvs : List (Key × V)) : (downs kvs).length ≤ kvs.length := by unfold downs; exact List.length_filterMap_le _ _
end Rm

set_option Elab.async false
set_option linter.all false
set_option maxRecDepth 100000
set_option maxHeartbeats 4000000
namespace Rm
open PySem PySem.Spec PyProof.Rows L2 Gd

theorem Off.new {r p : Addr} {H H1 : Hp} {o : HO} (a : Off r H H1) (n : H p = none) : Off r H (upd H1 p o) := fun b x e ne => by
  rw [upd_ne (ne_of_none e n)]
  exact a b x e ne
theorem Off.at_ {r : Addr} {H H1 : Hp} {o : HO} (a : Off r H H1) : Off r H (upd H1 r o) := a.trans off_upd
theorem Off.sameTrans {r : Addr} {H H1 H2 : Hp} (a : Off r H H1) (b : Same H1 H2) : Off r H H2 := a.trans (Off.of b)
/-- what was free stays free of it: a new address of a later heap is new for the earlier one too -/
theorem Off.free {r p : Addr} {H H1 : Hp} {o : HO} (a : Off r H H1) (hr : H1 r = some o) (n : H1 p = none) : H p = none := by
  cases e : H p with
  | none => rfl
  | some x =>
    have h : p ≠ r := fun z => by rw [z, hr] at n; cases n
    rw [a p x e h] at n
    cases n

theorem getI {ns : List Int} {d : Int} (h0 : 0 ≤ d) (h1 : d < (ns.length : Int)) : ∃ (v : Int), atI (ns.map V.int) d = some (.int v) ∧ ns[d.toNat]? = some v := by
  have hd : d.toNat < ns.length := by omega
  refine ⟨ns[d.toNat], ?_, List.getElem?_eq_getElem hd⟩
  refine at_of (j := d.toNat) (by omega) ?_
  rw [List.getElem?_map, List.getElem?_eq_getElem hd]
  rfl
theorem inv_int (k : Int) : ∀ ns : List Int, inV (.int k) (ns.map V.int) = decide (k ∈ ns)
  | [] => rfl
  | n :: ns => by
    show (eqV (.int n) (.int k) || inV (.int k) (ns.map V.int)) = _
    rw [inv_int k ns]
    have e : eqV (.int n) (.int k) = decide (n = k) := by
      by_cases z : n = k <;> simp [eqV, z]
    rw [e]
    by_cases z : n = k
    · subst z; simp
    · have z' : ¬ k = n := fun q => z q.symm
      simp [z, z']
theorem flat_ints : ∀ ns : List Int, (ns.map V.int).all flatV = true
  | [] => rfl
  | n :: ns => by
    show (flatV (.int n) && (ns.map V.int).all flatV) = true
    rw [flat_ints ns]
    rfl
theorem lay_ints : ∀ ns : List Int, PyData.canLayAll0 (ns.map PyData.int) = true ∧ PyData.depthAll (ns.map PyData.int) = 0
  | [] => ⟨rfl, rfl⟩
  | n :: ns => by
    obtain ⟨a, b⟩ := lay_ints ns
    refine ⟨?_, ?_⟩
    · show (PyData.canLay0 (.int n) && PyData.canLayAll0 (ns.map PyData.int)) = true
      rw [a]
      rfl
    · show max (PyData.depth (.int n)) (PyData.depthAll (ns.map PyData.int)) = 0
      rw [b]
      rfl
theorem shaped_ints (ns : List Int) : SeqAt.shaped (.list (ns.map PyData.int)) = true := by
  obtain ⟨a, b⟩ := lay_ints ns
  show (PyData.canLayAll0 (ns.map PyData.int) && decide (PyData.depthAll (ns.map PyData.int) + 1 ≤ 64)) = true
  rw [a, b]
  rfl
theorem eqv_nil (ds : List PyData) : PyData.eqv (.list ds) (.list []) = ds.isEmpty := by
  cases ds <;> rfl
theorem mem_eraseIdx {ns : List Int} {j : Nat} {k : Int} (nd : ns.Nodup) (h : ns[j]? = some k) (x : Int) : x ∈ ns.eraseIdx j ↔ x ≠ k ∧ x ∈ ns := by
  rw [List.mem_eraseIdx_iff_getElem?]
  constructor
  · rintro ⟨i, hi, e⟩
    refine ⟨fun z => ?_, List.mem_of_getElem? e⟩
    subst z
    exact hi (nd_ix nd e h)
  · rintro ⟨hx, hm⟩
    obtain ⟨i, e⟩ := List.getElem?_of_mem hm
    refine ⟨i, fun z => ?_, e⟩
    subst z
    rw [h] at e
    exact hx (Option.some.inj e).symm
theorem first_ix {ns : List Int} {j : Nat} {k : Int} (nd : ns.Nodup) (h : ns[j]? = some k) : ∀ m : Nat, m < j → ns[m]? ≠ some k := fun m hm e => by
  have := nd_ix nd e h
  omega

/-! ### the keys that are down, as a list -/
structure DownOk (ns : List Int) (es : List Ev) : Prop where
  nd : ns.Nodup
  mem : ∀ k, k ∈ ns ↔ heldB es k = true
theorem DownOk.nil : DownOk [] [] := ⟨List.nodup_nil, fun k => by simp [heldB]⟩
theorem DownOk.down {ns : List Int} {es : List Ev} {t k : Int} (h : DownOk ns es) (n : ¬ k ∈ ns) : DownOk (ns ++ [k]) (es ++ [⟨t, k, true⟩]) := by
  refine ⟨nd_snoc h.nd n, fun x => ?_⟩
  rw [heldB_snoc]
  unfold after
  rw [List.mem_append, List.mem_singleton, h.mem]
  by_cases z : x = k
  · subst z; simp
  · simp [z]
theorem DownOk.up {ns : List Int} {es : List Ev} {t k : Int} {j : Nat} (h : DownOk ns es) (e : ns[j]? = some k) : DownOk (ns.eraseIdx j) (es ++ [⟨t, k, false⟩]) := by
  refine ⟨h.nd.eraseIdx j, fun x => ?_⟩
  rw [heldB_snoc, mem_eraseIdx h.nd e, h.mem]
  unfold after
  by_cases z : x = k
  · subst z; simp
  · simp [z]
theorem DownOk.not {ns : List Int} {es : List Ev} {k : Int} (h : DownOk ns es) (n : ¬ k ∈ ns) : heldB es k = false := by
  cases e : heldB es k with
  | false => rfl
  | true => exact absurd ((h.mem k).mpr e) n
/-- other keys for the same -/
theorem heldB_map {f : Int → Int} (hf : ∀ a b, f a = f b → a = b) : ∀ (es : List Ev) (k : Int), heldB (es.map fun e => ⟨e.t, f e.k, e.d⟩) (f k) = heldB es k := by
  intro es k
  suffices h : ∀ (es : List Ev) (g g' : Int → Bool), (∀ k, g' (f k) = g k) → ∀ k, (es.map fun e => (⟨e.t, f e.k, e.d⟩ : Ev)).foldl after g' (f k) = es.foldl after g k from h es _ _ (fun _ => rfl) k
  intro es
  induction es with
  | nil => intro g g' h k; exact h k
  | cons e es ih =>
    intro g g' h k
    refine ih (after g e) (after g' ⟨e.t, f e.k, e.d⟩) (fun x => ?_) k
    unfold after
    by_cases z : x = e.k
    · subst z; simp
    · have z' : ¬ f x = f e.k := fun q => z (hf _ _ q)
      show (if f x = f e.k then e.d else g' (f x)) = if x = e.k then e.d else g x
      rw [if_neg z, if_neg z', h]
theorem Valid.rekey {f : Int → Int} (hf : ∀ a b, f a = f b → a = b) {es : List Ev} (h : Valid es) (h0 : ∀ e ∈ es, 0 ≤ f e.k) : Valid (es.map fun e => ⟨e.t, f e.k, e.d⟩) := fun i e x => by
  rw [List.getElem?_map] at x
  cases y : es[i]? with
  | none => rw [y] at x; cases x
  | some e' =>
    rw [y] at x
    have x : (⟨e'.t, f e'.k, e'.d⟩ : Ev) = e := Option.some.inj x
    subst x
    obtain ⟨a, b, c⟩ := h i e' y
    refine ⟨h0 e' (List.mem_of_getElem? y), ?_, fun j g hj z => ?_⟩
    · rw [← List.map_take]
      show heldB _ (f e'.k) = !e'.d
      rw [heldB_map hf]
      exact b
    · rw [List.getElem?_map] at z
      cases y2 : es[j]? with
      | none => rw [y2] at z; cases z
      | some g' =>
        rw [y2] at z
        have z : (⟨g'.t, f g'.k, g'.d⟩ : Ev) = g := Option.some.inj z
        subst z
        exact c j g' hj y2
/-- ups behind all for keys that are down -/
theorem Valid.ups {t : Int} : ∀ (ns : List Int) {es : List Ev}, Valid es → ns.Nodup → (∀ k ∈ ns, heldB es k = true ∧ 0 ≤ k) → (∀ e ∈ es, e.t ≤ t) → Valid (es ++ ns.map fun k => ⟨t, k, false⟩)
  | [], es, h, _, _, _ => by simpa using h
  | k :: ns, es, h, nd, hb, ht => by
    obtain ⟨n1, n2⟩ := List.nodup_cons.mp nd
    have h1 : Valid (es ++ [⟨t, k, false⟩]) := h.snoc (hb k List.mem_cons_self).2 (by have := (hb k List.mem_cons_self).1; simpa using this) ht
    have := Valid.ups ns h1 n2 (fun x hx => ⟨by
        rw [heldB_snoc]
        unfold after
        have z : x ≠ k := fun q => n1 (q ▸ hx)
        rw [if_neg z]
        exact (hb x (List.mem_cons_of_mem _ hx)).1, (hb x (List.mem_cons_of_mem _ hx)).2⟩) (fun e he => by
        rcases List.mem_append.mp he with he | he
        · exact ht e he
        · rw [List.mem_singleton.mp he]; exact Int.le_refl _)
    simpa using this
theorem heldB_ups {t : Int} : ∀ (ns : List Int) (es : List Ev) (k : Int), heldB (es ++ ns.map fun k => ⟨t, k, false⟩) k = (heldB es k && !decide (k ∈ ns))
  | [], es, k => by simp
  | n :: ns, es, k => by
    have e : es ++ (n :: ns).map (fun k => (⟨t, k, false⟩ : Ev)) = (es ++ [⟨t, n, false⟩]) ++ ns.map fun k => ⟨t, k, false⟩ := by simp
    rw [e, heldB_ups ns, heldB_snoc]
    unfold after
    by_cases z : k = n
    · subst z; simp
    · have : (k ∈ n :: ns) ↔ k ∈ ns := by simp [z]
      simp [z]
/-- who is down is a key of the record -/
theorem held_mem : ∀ {es : List Ev} {k : Int}, heldB es k = true → ∃ e ∈ es, e.k = k := by
  intro es k
  suffices h : ∀ (es : List Ev) (g : Int → Bool), es.foldl after g k = true → g k = true ∨ ∃ e ∈ es, e.k = k by
    intro z
    rcases h es _ z with q | q
    · cases q
    · exact q
  intro es
  induction es with
  | nil => intro g h; exact .inl h
  | cons e es ih =>
    intro g h
    rcases ih (after g e) h with q | ⟨e', he, hk⟩
    · unfold after at q
      by_cases z : k = e.k
      · exact .inr ⟨e, List.mem_cons_self, z.symm⟩
      · rw [if_neg z] at q
        exact .inl q
    · exact .inr ⟨e', List.mem_cons_of_mem _ he, hk⟩
theorem Valid.mono {es : List Ev} (h : Valid es) : ∀ (i j : Nat) (a b : Ev), i < j → es[i]? = some a → es[j]? = some b → a.t ≤ b.t := fun i j a b hij ha hb => (h j b hb).2.2 i a hij ha
theorem lay_st : ∀ es : List Ev, PyData.canLayAll0 (es.map stD) = true ∧ PyData.depthAll (es.map stD) ≤ 1
  | [] => ⟨rfl, Nat.zero_le _⟩
  | e :: es => by
    obtain ⟨a, b⟩ := lay_st es
    refine ⟨?_, ?_⟩
    · have h : PyData.canLay0 (.str (wayS e.d)) = true := by cases e.d <;> decide +kernel
      show ((true && (PyData.canLay0 (.str (wayS e.d)) && true)) && PyData.canLayAll0 (es.map stD)) = true
      rw [a, h]
      rfl
    · show max (PyData.depth (stD e)) (PyData.depthAll (es.map stD)) ≤ 1
      have : PyData.depth (stD e) = 1 := rfl
      omega
theorem shaped_ord (es : List Ev) : SeqAt.shaped (ordD es) = true := by
  obtain ⟨a, b⟩ := lay_st es
  show (PyData.canLayAll0 (es.map stD) && decide (PyData.depthAll (es.map stD) + 1 ≤ 64)) = true
  rw [a, decide_eq_true (by omega)]
  rfl
theorem shaped_nil : SeqAt.shaped (.list []) = true := rfl
end Rm

set_option Elab.async false
set_option linter.all false
set_option maxRecDepth 100000
set_option maxHeartbeats 4000000
/-! repr of any data; bounds in the heap -/
namespace Gd
open PySem PySem.Spec PyProof.Rows L2
def rRepA (K : PySem.W.Frag) : List V → Hp → VK → Prop := fun xs H Q => ∃ (v : V) (d : PyData), xs = [v] ∧ Dp K H v d ∧
  d.showable = true ∧ d.depth ≤ 50 ∧ d.shown.length ≤ sizeLine ∧ Q (.str d.shown) H
theorem call_repA {X : Cx} {k : Nat} (hg : X.A.guards = some []) (hr : Room k X.A) : CallR X (.builtin "repr") (rRepA X.K) := by
  intro pins s σ H xs us Q I r h
  obtain ⟨v, d, rfl, hd, hs, hdp, hz, q⟩ := h
  cases d with
  | list ds =>
    cases hd with
    | lst h1 h2 => exact call_rep hg hr pins s σ H _ us Q I r ⟨_, _, rfl, .lst h1 h2, hs, hdp, hz, q⟩
  | tuple ds =>
    cases hd with
    | tup h1 h2 => exact call_rep hg hr pins s σ H _ us Q I r ⟨_, _, rfl, .tup h1 h2, hs, hdp, hz, q⟩
  | dict ds => cases hd
  | none =>
    cases hd
    obtain ⟨u, rfl, ru⟩ := vals1 r
    cases ru
    exact PySem.P.repr_of_none ⟨.str _, H, I.tok _, ⟨_, rfl⟩, q⟩
  | bool b =>
    cases hd
    obtain ⟨u, rfl, ru⟩ := vals1 r
    cases ru
    exact PySem.P.repr_of_bool ⟨.str _, H, I.tok _, ⟨_, rfl⟩, q⟩
  | int i =>
    cases hd
    obtain ⟨u, rfl, ⟨t, rfl⟩⟩ := vals1 r
    exact PySem.P.repr_of_int (of_decide_eq_true hs) ⟨.str _, H, I.tok _, ⟨_, rfl⟩, q⟩
  | str z =>
    cases hd
    obtain ⟨u, rfl, ⟨t, rfl⟩⟩ := vals1 r
    exact PySem.P.repr_of_str ⟨.str _, H, I.tok _, ⟨_, rfl⟩, q⟩ hz
end Gd

set_option Elab.async false
set_option linter.all false
set_option maxRecDepth 100000
set_option maxHeartbeats 4000000
/-! own exceptions whose __init__ calls super().__init__(f'..') and keeps the index -/
namespace PySem
namespace Oxi
open PySem.W PySem.Calls PyProof.Rows PySem.HandSPX
def iA (p1 p2 : Pos) : Arguments := { posonlyargs := [], args := [{ arg := "self", annotation := none, pos := p1 }, { arg := "index", annotation := none, pos := p2 }], vararg := none, kwonlyargs := [], kw_defaults := [], kwarg := none, defaults := [] }
def iB (pre : Str) (q : Nat → Pos) : List Stmt :=
  [.Expr (.Call (.Attribute (.Call (.Name "super" (q 0)) [] [] (q 1)) "__init__" (q 2)) [.JoinedStr [.Constant (.str pre) 0 (q 3), .FormattedValue (.Name "index" (q 4)) (-1) none (q 5)] (q 6)] [] (q 7)) (q 8),
   .Assign [.Attribute (.Name "self" (q 9)) "index" (q 10)] (.Name "index" (q 11)) (q 12)]
def iS : Scope := { kind := .function, names := [(PySem.Str.ofString "self", .local), (PySem.Str.ofString "index", .local), (PySem.Str.ofString "__class__", .free), (PySem.Str.ofString "super", .globalImplicit)], isGenerator := false, isCoroutine := false, more := [] }
/-- what the written part says of the class at C, and of its __init__, at fI -/
structure ExcTxt (prog : Program) (K : Frag) (x : Str) (C fI : Addr) : Prop where
  cls : ∃ nm q N bs bm sn sub ab col dd k0 k1 k2 k3 k5, K.lookup C = some (excClassObj nm q C N bs bm true sn sub ab col dd k0 k1 k2 k3 k5 "ValueError.__new__") ∧ refsVE bm = true
  sa : findIn K (.ref C) "__setattr__" = some (some (.builtin "object.__setattr__"))
  noN : findIn K (.ref C) "index" = some none
  iC : findIn K (.ref C) "__init__" = some (some (.ref fI))
  tC : typeIn K (.ref fI) = some (.type "function")
  kC : keepIn K (.ref C) = true
  exC : subIn K (.ref C) (.type "BaseException") = some true
  veC : subIn K (.ref C) (.type "ValueError") = some true
  ccC : mroIn K C (.ref C) = some true
  tyC : typeIn K (.ref C) = some (.type "type")
  su : ks_superIn K C C "__init__" = some (some (.builtin "ValueError.__init__"))
  any : nsIn K cStatics "thirdparty.any" = some none
  ei : excInitIn K C [.type "ValueError", .type "Exception", .type "BaseException", .type "object"] "ValueError.__new__" = true
  sup : nsIn K mainGlobals "super" = some none
  top : (prog.main.scope.names.lookup ("super" : Str)).isSome = false
  fn : ∃ (oc : Value) (od : Option Addr) (doc pm : Value) (an : Option Addr) (cda cc : Addr) (ct : Value) (osl : Array (Option Value)) (p1 p2 : Pos) (pre qual : Str) (q : Nat → Pos),
    pre.length ≤ 1000 ∧ ((q 2).endLine == (q 7).line) = true ∧
    K.lookup fI = some ⟨oc, od, .func (ksFn "__init__" qual (iA p1 p2) (iB pre q) iS .none .none doc pm an (.ref cda) ct cc), osl⟩ ∧ codeIn K (.ref cda) qual = true ∧
    (∃ cl cld csl, K.lookup cc = some ⟨cl, cld, .cell (some (.ref C)), csl⟩) ∧
    (∃ ccl cdd vs ccs file tf, K.lookup cda = some ⟨ccl, cdd, .fields vs, ccs⟩ ∧ vs[2]? = some (.str file tf) ∧ ((prog.main.file : Str) == file) = true)
/-- an index: none or a number -/
def Ix (v : Value) : Prop := v = .none ∨ ∃ (i : Int) (t : Tok), v = .int i t ∧ i.natAbs < 2 ^ 200
theorem ldC {M : Model} {s : Shared} {env : Env} {L : Addr} {m : Str → Option Value} {x : Str} {pos : Pos} {v : Value} {Q : Value → Shared → Prop} {A : Around} {E : Value → Shared → Prop} (he : env.locals = L) (hn : s.heap.Ns L m) (hv : m x = some v) (h : Q v s)
    (hk : env.scope.kind = .function := by rfl) (hl : env.kindOf x = some .local := by rfl) (hd : (x == ("__debug__" : Str)) = false := by decide) :
    wpAny M A (eval (.Name x pos) env) Q E s := by
  subst he
  exact wpAny_Name (wpAny_loadName_local hk hl hn hv h) hd
structure InitEnd (h h' : Heap) (x C dx t1 : Addr) (v : Value) : Prop where
  keep : ∀ b o, b ≠ x → h.get? b = some o → h'.get? b = some o
  obj : h'.get? x = some { cls := .ref C, dict := some dx, data := .fields #[.ref t1, .none, .none, .none, .bool false, .none] }
  dbig : h.objs.size ≤ dx
  dne : dx ≠ x
  ns : h'.Ns1 dx (fun y => if y = "index" then some v else none)
section
variable {prog : Program} {w : World} {A : Around} {E : Value → Shared → Prop} {R : Result → Shared → Prop} {s : Shared} {K : Frag} {mg mb : Str → Option Value} {C fI : Addr} {xn : Str}
theorem ini_ok (T : ExcTxt prog K xn C fI) {x t0 : Addr} {v : Value} (hv : Ix v) (X : K.In s.heap) (G : s.heap.Ns mainGlobals mg) (GN : ∀ y, nsIn K mainGlobals y = some none → mg y = none) (B : s.heap.Ns builtinsNs mb) (hB : ∀ y : Str, y ≠ "__name__" → mb y = bootBuiltins y)
    (hlim : s.heap.NoLimit) (hx : s.heap.get? x = some (excO C t0)) (hnx : K.lookup x = none) (hroom : A.depth < recursionLimit)
    (hq : ∀ h' tk dx t1, InitEnd s.heap h' x C dx t1 v → R (.ok (.ret .none)) { s with heap := h', toks := tk }) :
    codeAny (model prog w) A (.call (.ref fI) ⟨[.ref x, v], []⟩) R s := by
  obtain ⟨oc, od, doc, pm, an, cda, cc, ct, osl, p1, p2, pre, qual, q, hpre, hline, ho, hcd, ⟨cl, cld, csl, hcell⟩, ⟨ccl, cdd, vs, ccs, file, tf, hcda, hvs, hfile⟩⟩ := T.fn
  obtain ⟨nm, qn, N, bs, bm, sn, sub, ab, col, dd, k0, k1, k2, k3, k5, hC, hbm⟩ := T.cls
  have hcl : clsIn K C = some { name := nm, bases := bs, mro := .ref C :: bm, ns := N, qualname := qn, hasDict := true, slotNames := sn, subclasses := sub, abstract := ab, collection := col, hasDel := false } := by unfold clsIn; rw [hC] <;> rfl
  refine ks_codeAny_call_defAt (fd := ksFn "__init__" qual (iA p1 p2) (iB pre q) iS .none .none doc pm an (.ref cda) ct cc) (body := iB pre q) (binds := [("self", .ref x), ("index", v)]) hroom (X _ _ ho) rfl hlim (codeRec_of X hcd) rfl (BindsTo.of_eq (by first | rfl | with_unfolding_all rfl)) (show ∀ y ∈ iS.names, y.2 ≠ .cell by decide) (fun y hy => ?_) (fun h₁ hns hk => ?_) rfl rfl rfl
  · rcases List.mem_cons.mp hy with rfl | hy
    · rfl
    · rw [List.mem_singleton.mp hy]; rfl
  have X1 : K.In h₁ := X.keeps hk
  have hx1 := hk _ _ hx
  have hxL : x ≠ s.heap.objs.size := Nat.ne_of_lt (Heap.lt_size hx)
  -- the ground: without the exception
  have FG : Fr (hideAll s.heap [x]) s.heap.objs.size h₁ (fun y => [((Str.ofString "self"), Value.ref x), (Str.ofString "index", v)].reverse.lookup y) := ⟨hns, fun b o e => hk b o (of_hideAll _ e), Nat.le_of_eq (hideAll_size _ _)⟩
  have N0 : News (hideAll s.heap [x]) s.heap.objs.size h₁ [(x, excObj C t0 none .none)] := fun p hp => by
    rw [List.mem_singleton.mp hp]
    exact ⟨hx1, hxL, hideAll_none _ List.mem_cons_self⟩
  have XG : K.In (hideAll s.heap [x]) := fun b o e => hideAll_get _ (X b o e) (fun hm => by
    rw [List.mem_singleton.mp hm, hnx] at e
    cases e)
  show wpAt (model prog w) (A.deeper (ksEnv qual iS s.heap.objs.size fI (.ref cda) cc)) (.func (iB pre q) (ksEnv qual iS s.heap.objs.size fI (.ref cda) cc)) (execs (iB pre q) (ksEnv qual iS s.heap.objs.size fI (.ref cda) cc)) _ _ _
  refine ks_wpAt_execs_cons (ks_wpAt_Expr_any (ks_wpAt_MethodCall (pl := do return (← importBound (.Call (.Name "super" (q 0)) [] [] (q 1)) (ksEnv qual iS s.heap.objs.size fI (.ref cda) cc)).getD true) ?_ ?he))
  case he =>
    rw [arm_eval_Call]
    unfold methodCall methodCallPos
    simp only [hline, Bool.or_true, if_true]
    rfl
  -- super()
  have G1 : h₁.Ns mainGlobals mg := G.keeps hk
  have B1 : h₁.Ns builtinsNs mb := B.keeps hk
  have IA1 : InstAt h₁ x (excObj C t0 none .none) C none := ⟨hx1, rfl, rfl, trivial⟩
  obtain ⟨oD, hD1, hD2⟩ : ∃ oD, h₁.get? C = some oD ∧ ∃ cd, oD.data = .cls cd := ⟨_, X1 _ _ hC, _, rfl⟩
  obtain ⟨cdD, hD2⟩ := hD2
  refine ks_wpAt_super_base (env := ksEnv qual iS s.heap.objs.size fI (.ref cda) cc) rfl rfl (by decide) rfl (X1 _ _ ho) rfl rfl rfl (X1 _ _ hcda) rfl hvs hfile T.top ?_
  refine ks_loadName_global rfl rfl (loadGlobal_builtin (env := ksEnv qual iS s.heap.objs.size fI (.ref cda) cc) G1 (GN _ T.sup) B1 ((hB _ (by decide +kernel)).trans (by decide +kernel : bootBuiltins "super" = some (.type "super"))) ⟨rfl, ?_⟩)
  refine wpAny_loadName_free rfl rfl rfl ⟨_, X1 _ _ hcell, rfl⟩ ?_
  refine wpAny_loadName_local rfl rfl FG.ns rfl ?_
  refine ks_wpAny_isType_cls hD1 hD2 ⟨rfl, ?_⟩
  refine ks_wpAny_call_super hD1 hD2 IA1.at_ IA1.cls (fun c e => by cases e) (looks_mroIn X1 T.ccC) (fun h' e k => ?_)
  obtain ⟨F2, N2, l2⟩ := ks_newsPush (s := ⟨h₁, s.gens, s.drawn, s.toks + 2, s.os⟩) FG N0 rfl e k
  have IA2 : InstAt h' x (excObj C t0 none .none) C none := ⟨k _ _ hx1, rfl, rfl, trivial⟩
  refine kxs_method kxs_ValueError F2 XG N2 List.mem_cons_self IA2 T.any T.su T.veC (by decide) (fun u h2 F3 N3 l3 => ?_)
  refine kxs_callWith1 N3 List.mem_cons_self ?_
  refine spliced_more ?_
  refine wpAny_JoinedStr ?_
  -- after the text: any text will do
  have call : ∀ (y : Str) (tk : Tok) (n : Nat), wpAny (model prog w) (A.deeper (ksEnv qual iS s.heap.objs.size fI (.ref cda) cc)) (call (.ref u) [.str y tk]) (fun _ s' => wpAt (model prog w) (A.deeper (ksEnv qual iS s.heap.objs.size fI (.ref cda) cc)) (.func (iB pre q) (ksEnv qual iS s.heap.objs.size fI (.ref cda) cc)) (execs [.Assign [.Attribute (.Name "self" (q 9)) "index" (q 10)] (.Name "index" (q 11)) (q 12)] (ksEnv qual iS s.heap.objs.size fI (.ref cda) cc))
      (fun f s' => R (.ok (.ret (match f with | .ret v => v | _ => .none))) s') (fun e s' => wpAny (model prog w) (A.deeper (ksEnv qual iS s.heap.objs.size fI (.ref cda) cc)) (leaving (ksEnv qual iS s.heap.objs.size fI (.ref cda) cc) e) (fun _ s'' => R (.error e) s'') (fun e' s'' => R (.error e') s'') s') s') (fun e s' => wpAny (model prog w) (A.deeper (ksEnv qual iS s.heap.objs.size fI (.ref cda) cc)) (leaving (ksEnv qual iS s.heap.objs.size fI (.ref cda) cc) e) (fun _ s'' => R (.error e) s'') (fun e' s'' => R (.error e') s'') s') ⟨h2, s.gens, s.drawn, n, s.os⟩ := fun y tk n => by
    have U : UpdF x (excObj C t0 none .none) [(u, kxs_mw "ValueError.__init__" x), (h₁.objs.size, ks_superObj C x C), (x, excObj C t0 none .none)] (fun o' => [(u, kxs_mw "ValueError.__init__" x), (h₁.objs.size, ks_superObj C x C), (x, o')]) :=
      .tail (Nat.ne_of_gt (l3 (x, excObj C t0 none .none) (List.mem_cons_of_mem _ List.mem_cons_self))) (.tail (Nat.ne_of_gt (l2 (x, excObj C t0 none .none) List.mem_cons_self)) (.head (fun p hp => (nomatch hp))))
    refine kxs_call (s := ⟨h2, s.gens, s.drawn, n, s.os⟩) F3 XG N3 PySem.F.excBase_ValueError T.ei List.mem_cons_self U (by rw [sizeLine_eq]; show 1 ≤ _; decide) (fun t1 h3 F4 N4 l4 => ?_)
    have hx4 : h3.get? x = some (excObj C t1 none .none) := (N4 (x, excObj C t1 none .none) (List.mem_cons_of_mem _ (List.mem_cons_of_mem _ (List.mem_cons_of_mem _ List.mem_cons_self)))).1
    have X4 : K.In h3 := XG.keeps F4.keep
    refine wpAt_of_wpAny (wpAny_execs_cons (plainObj_wpAny_Assign_Attribute ?_))
    refine ldC rfl F4.ns rfl (ldC rfl F4.ns rfl ?_)
    refine set_plain X4 (ox := excObj C t1 none .none) (od := none) ⟨hx4, rfl, rfl, trivial⟩ T.sa ?_
    refine exc_osa X4 hx4 hcl (show refsVE (.ref C :: bm) = true from hbm) rfl T.noN (fun h4 tk4 dx k4 dn dne hx5 hn5 => ?_)
    show wpAny _ _ (execs _ _) _ _ _
    have zz : s.heap.objs.size < h3.objs.size := F4.ns.lt
    exact wpAny_execs_nil (hq h4 tk4 dx t1 ⟨fun b o hb e => k4 b o hb (F4.keep b o (hideAll_get _ e (fun hm => hb (List.mem_singleton.mp hm)))), hx5, Nat.le_of_lt (Nat.lt_of_lt_of_le zz dn), dne, hn5⟩)
  have z0 : (Str.empty ++ pre).length = pre.length := by rw [strLen_append]; exact Nat.zero_add _
  refine (show wpAny _ _ (eval (.Constant (.str pre) 0 (q 3)) _) _ _ _ from wpAny_Constant_str ⟨pre, _, rfl, by rw [z0, sizeLine_eq]; omega, ?_⟩)
  refine (show wpAny _ _ (eval (.FormattedValue (.Name "index" (q 4)) (-1) none (q 5)) _) _ _ _ from wpAny_FormattedValue_plain (ldC rfl F3.ns rfl ?_))
  have fin : ∀ (y : Str) (s' : Shared), y.length ≤ 1000 → s'.heap = h2 → s'.gens = s.gens → s'.drawn = s.drawn → s'.os = s.os → True := fun _ _ _ _ _ _ _ => trivial
  rcases hv with rfl | ⟨i, tk, rfl, hi⟩
  · refine wpAny_formatField_none ⟨"None", _, rfl, by rw [strLen_append, z0, sizeLine_eq]; show _ + 4 ≤ _; omega, ?_⟩
    exact ⟨by rw [strLen_append, z0, sizeLine_eq]; show _ + 4 ≤ _; omega, spliced_none ⟨kxs_at N3 List.mem_cons_self, call _ _ _⟩⟩
  · have hl : (toString i : Str).length ≤ 210 := (Rm.fit_int hi).ln
    have hlog : i.natAbs.log2 < 1920 := by
      have := PySem.Flt.log2_lt_of (n := i.natAbs) (k := 200) (by decide) hi
      omega
    refine wpAny_formatField_int hlog ⟨toString i, _, rfl, by rw [strLen_append, z0, sizeLine_eq]; omega, ?_⟩
    exact ⟨by rw [strLen_append, z0, sizeLine_eq]; omega, spliced_none ⟨kxs_at N3 List.mem_cons_self, call _ _ _⟩⟩
theorem one_size (v : Value) : [v].length ≤ sizeLine := by
  rw [sizeLine_eq]
  exact (by decide : 1 ≤ 16777216)
/-- a made exception -/
structure OwnMade (h h' : Heap) (e C d : Addr) (v : Value) : Prop where
  keep : ∀ b o, h.get? b = some o → h'.get? b = some o
  new : h.objs.size ≤ e
  obj : ∃ oe vs, h'.get? e = some oe ∧ oe.cls = .ref C ∧ oe.dict = some d ∧ oe.data = .fields vs ∧ vs[1]? = some .none
  dbig : h.objs.size ≤ d
  dne : d ≠ e
  ns : h'.Ns1 d (fun y => if y = "index" then some v else none)
theorem made (T : ExcTxt prog K xn C fI) {v : Value} (hv : Ix v) (X : K.In s.heap) (G : s.heap.Ns mainGlobals mg) (GN : ∀ y, nsIn K mainGlobals y = some none → mg y = none) (B : s.heap.Ns builtinsNs mb) (hB : ∀ y : Str, y ≠ "__name__" → mb y = bootBuiltins y) (hlim : s.heap.NoLimit) (hroom : A.depth + 1 < recursionLimit)
    (hq : ∀ h' tk e d, OwnMade s.heap h' e C d v → R (.ok (.ret (.ref e))) { s with heap := h', toks := tk }) :
    codeAny (model prog w) A (.call (.ref C) ⟨[v], []⟩) R s := by
  obtain ⟨nm, q, N, bs, bm, sn, sub, ab, col, dd, k0, k1, k2, k3, k5, hC, hbm⟩ := T.cls
  obtain ⟨hp, g, dr, tk, os⟩ := s
  have k : ∀ b o, hp.get? b = some o → ((hp.push (kdv_tup [v])).push (excO C hp.objs.size)).get? b = some o := fun b o e => Heap.get?_push_of_some _ (Heap.get?_push_of_some _ e)
  have hget : ((hp.push (kdv_tup [v])).push (excO C hp.objs.size)).get? (hp.objs.size + 1) = some (excO C hp.objs.size) := by heap_get
  have hnx : K.lookup (hp.objs.size + 1) = none := by
    cases e : K.lookup (hp.objs.size + 1) with
    | none => rfl
    | some o =>
      have z : hp.get? (hp.objs.size + 1) = some o := X _ _ e
      exact absurd (Nat.lt_of_succ_lt (Heap.lt_size z)) (Nat.lt_irrefl _)
  refine call_own PySem.F.excBase_ValueError (fun X => refsVE_contains X bm hbm) (X _ _ hC) (looks_findIn X T.iC) (fun self => bind_fn X self T.tC) (one_size v) ?_
  refine ini_ok (s := ⟨(hp.push (kdv_tup [v])).push (excO C hp.objs.size), g, dr, tk, os⟩) T hv (X.keeps k) (G.keeps k) GN (B.keeps k) hB (hlim.keeps k) hget hnx ?_ fun h' tk' dx t1 M => ?_
  · show A.depth + 1 < recursionLimit
    exact hroom
  · obtain ⟨k', hx, dn, dne, hns⟩ := M
    have old : ∀ b o, hp.get? b = some o → h'.get? b = some o := fun b o e => k' b o (Nat.ne_of_lt (Nat.lt_succ_of_lt (Heap.lt_size e))) (k b o e)
    have z : hp.objs.size + 1 + 1 ≤ dx := by
      first
        | (simpa only [Heap.size_push] using dn)
        | exact dn
        | (have q := dn; rw [Heap.size_push, Heap.size_push] at q; exact q)
    exact ⟨rfl, hq h' tk' (hp.objs.size + 1) dx ⟨old, Nat.le_succ _, ⟨_, _, hx, rfl, rfl, rfl, rfl⟩, Nat.le_trans (Nat.le_trans (Nat.le_succ _) (Nat.le_succ _)) z, dne, hns⟩⟩
end
end Oxi
end PySem
namespace L2
open PySem PySem.Spec PyProof.Rows
theorem relO_ix {v : V} {v' : Value} (r : RelV v v') (f : Str) : RelO (List.lookup f [(("index" : Str), v)]) (if f = "index" then some v' else none) := by
  by_cases hw : f = "index"
  · subst hw
    rw [if_pos rfl]
    have q : List.lookup ("index" : Str) [(("index" : Str), v)] = some v := by simp [List.lookup]
    rw [q]
    exact r
  · rw [if_neg hw]
    have qw : (f == ("index" : Str)) = false := by simpa using hw
    have q2 : List.lookup f [(("index" : Str), v)] = none := by simp [List.lookup, qw]
    rw [q2]
    trivial
/-- an index, as a value of the layer -/
def IxV (v : V) : Prop := v = .non ∨ ∃ i : Int, v = .int i ∧ i.natAbs < 2 ^ 200
theorem IxV.rel {v : V} {u : Value} (h : IxV v) (r : RelV v u) : PySem.Oxi.Ix u := by
  rcases h with rfl | ⟨i, rfl, hi⟩
  · exact .inl r
  · obtain ⟨t, rfl⟩ := r
    exact .inr ⟨i, t, rfl, hi⟩
section
variable {X : Cx} {C fI : Addr} {xn : Str}
/-- InvalidX(e) -/
def tMkX (C : Addr) (ta : TA) : St → Hp → XK → Prop := fun σ H Q => ta σ H fun vs H1 => ∃ v, vs = [v] ∧ IxV v ∧ ∀ d, H1 d = none → Q (.ref C) (some d) (upd H1 d (.xd [(("index" : Str), v)]))
theorem pmk_x {a : Expr} {ta : TA} {p pos : Pos} {k : Nat} (T : PySem.Oxi.ExcTxt X.prog X.K xn C fI) (hm : X.mg xn = some (.ref C)) (hr : Room k X.A) (ha : PA X [a] ta) (hg : Gl X xn) (hd : (xn == ("__debug__" : Str)) = false := by decide)
    (he : starEach (a :: []) X.env = (false, eval a X.env) :: starEach [] X.env := by rfl) (hpl : (backTo pos (starEach [] X.env)).any (·.1) = false := by rfl) :
    PMk X (.Call (.Name xn p) [a] [] pos) (tMkX C ta) := by
  intro pins s σ H Q I h
  refine wpAny_Call_Name_kw (ld_glob I hg hm ?_ hd)
  refine PySem.W.callWith_K (h₀ := X.base) I.ok.mod.kin T.kC (thn (ha.run pos pins s σ H _ I h) fun us s1 hh => ?_) he hpl
  obtain ⟨vs, H1, I1, r1, v, ev, hix, q1⟩ := hh
  subst ev
  refine ⟨I1.kIn, ?_⟩
  cases r1 with
  | cons rv rn =>
    rename_i v' us'
    cases rn
    show wpAny _ _ (call (.ref C) [v']) _ _ _
    have hlim := I1.nolimit
    have kb : ∀ b o, X.base.get? b = some o → s1.heap.get? b = some o := fun b o e => (I1.bs b o e).1
    have G := I1.ok.mod.glob.keeps kb
    obtain ⟨mb, B0, hB⟩ := I1.ok.mod.blt
    have B := B0.keeps kb
    have kin := I1.kIn
    have GN : ∀ y, PySem.W.nsIn X.K mainGlobals y = some none → X.mg y = none := fun y z => PySem.W.mg_none_of I1.ok.mod.kin I1.ok.mod.glob z
    obtain ⟨hp, g, dr, tk, os⟩ := s1
    refine wpAny_call (PySem.Oxi.made T (hix.rel rv) kin G GN B hB hlim (by have := hr.dp; omega) fun h' tk' e d M => ?_)
    show MkP X pins σ Q (.ref e) ⟨h', g, dr, tk', os⟩
    obtain ⟨oe, fv, hoe, hc, hdd, hdat, h1⟩ := M.obj
    have hns := M.ns
    obtain ⟨G', g1, g2⟩ := restrict h' fun b => decide (b ≠ e)
    have gk : ∀ b, b ≠ e → G'.get? b = h'.get? b := fun b hb => g1 b (decide_eq_true hb)
    have ge : G'.get? e = none := g2 e (by simp)
    have old : ∀ b o, hp.get? b = some o → G'.get? b = some o := fun b o q => (gk b (Nat.ne_of_lt (Nat.lt_of_lt_of_le (Heap.lt_size q) M.new))).trans (M.keep b o q)
    have ob : ObjOk X.prog X.w (upd H1 d (.xd [(("index" : Str), v)])) G' d (.xd [(("index" : Str), v)]) :=
      ⟨_, hns.at (fun o q => (gk d M.dne).trans q), fun f => relO_ix rv f⟩
    have J : Inv X pins σ (upd H1 d (.xd [(("index" : Str), v)])) ⟨G', g, dr, tk', os⟩ := I1.laid (t' := tk') old M.dbig ob
    refine ⟨e, oe, fv, ⟨G', g, dr, tk', os⟩, _, .ref C, some d, rfl, J, fun b o q => ?_, ge, hoe, ⟨hc, hdd⟩, hdat, h1, ?_, rfl, I1.bare, raises_own T.exC T.tyC, q1 d (I1.hok.fresh M.dbig)⟩
    · by_cases hb : b = e
      · have q' : G'.get? b = some o := q
        rw [hb, ge] at q'; cases q'
      · exact (gk b hb).symm.trans q
    · rw [upd_ne (Ne.symm M.dne)]
      exact I1.hok.fresh M.new
/-- raise InvalidX(e) -/
def tRaiseX (C : Addr) (W : WX) (ta : TA) : TS := fun _ σ H => tMkX C ta σ H fun cls d H' => W cls d σ H'
theorem ps_raiseX {a : Expr} {ta : TA} {W : WX} {p pos pos2 : Pos} {k : Nat} (hc : X.calm = true) (T : PySem.Oxi.ExcTxt X.prog X.K xn C fI) (hm : X.mg xn = some (.ref C)) (hr : Room k X.A) (tk : Takes X W) (ha : PA X [a] ta) (hg : Gl X xn) (hd : (xn == ("__debug__" : Str)) = false := by decide)
    (he : starEach (a :: []) X.env = (false, eval a X.env) :: starEach [] X.env := by rfl) (hpl : (backTo pos (starEach [] X.env)).any (·.1) = false := by rfl) :
    PS X (.Raise (some (.Call (.Name xn p) [a] [] pos)) none pos2) (tRaiseX C W ta) := ps_raise hc tk (pmk_x T hm hr ha hg hd he hpl)
end
end L2

set_option Elab.async false
set_option linter.all false
set_option maxRecDepth 100000
set_option maxHeartbeats 4000000
namespace La
open PySem PySem.Spec PyProof.Rows L2 Gd Rm

/-! ### codes -/
def signs : Str := "abcdefghijklmnopqrstuvwxyz0123456789"
def CodeOk (c : Str) : Prop := 1 ≤ c.cps.size ∧ c.cps.size ≤ 8 ∧ ∀ x ∈ c.cps.toList, x ∈ signs.cps.toList
instance (c : Str) : Decidable (CodeOk c) := by unfold CodeOk; infer_instance
theorem signs_low : ∀ x ∈ signs.cps.toList, x < 16 ^ 8 := by decide +kernel
theorem fit_code {c : Str} (h : CodeOk c) : Fit 210 0 (.str c) := by
  refine ⟨rfl, Nat.le_refl _, ?_⟩
  have q := PySem.StrLaws.reprText_len c fun x hx => signs_low x (h.2.2 x hx)
  have e : c.length = c.cps.size := rfl
  have := h.2.1
  show (reprText c).length ≤ 210
  omega
theorem joinL_one : ∀ cs : List Nat, TL.joinL [] (cs.map fun c => [c]) = cs
  | [] => rfl
  | [c] => rfl
  | c :: d :: r => by
    have ih := joinL_one (d :: r)
    show [c] ++ ([] ++ TL.joinL [] ((d :: r).map fun c => [c])) = c :: d :: r
    rw [ih]
    rfl
theorem join_one (cs : List Nat) : (Txt.join (("" : String) : Str) (cs.map fun c => (⟨#[c]⟩ : Str))).cps.toList = cs := by
  have h : ∀ a ys, Txt.join a ys = Str.join a ys := fun a ys => TL.join_eq a ys
  rw [h]
  show TL.tl (Str.join _ _) = cs
  rw [TL.tl_join, List.map_map]
  exact joinL_one cs
theorem code_join {cs : List Nat} (h1 : 1 ≤ cs.length) (h8 : cs.length ≤ 8) (h : ∀ c ∈ cs, c ∈ signs.cps.toList) : CodeOk (Txt.join (("" : String) : Str) (cs.map fun c => (⟨#[c]⟩ : Str))) := by
  have e := join_one cs
  refine ⟨?_, ?_, fun x hx => ?_⟩
  · rw [← Array.length_toList, e]; exact h1
  · rw [← Array.length_toList, e]; exact h8
  · rw [e] at hx; exact h x hx

/-! ### actions -/
inductive Actn where
  | none
  | thr
  | code (c : Str)
  | lay (w : Str) (j : Int)
  | dualC (c d : Str) (t : Int) (r : Str)
  | dualL (c : Str) (j t : Int) (r : Str)
def layWords : List Str := ["layer", "lock", "once"]
def rules : List Str := ["time", "other", "within"]
def ActOk (n i : Int) : Actn → Prop
  | .none => True
  | .thr => 0 < i
  | .code c => CodeOk c
  | .lay w j => w ∈ layWords ∧ 1 ≤ j ∧ j ≤ n - 1
  | .dualC c d t r => CodeOk c ∧ CodeOk d ∧ (1 ≤ t ∧ t ≤ 1000000000) ∧ r ∈ rules
  | .dualL c j t r => CodeOk c ∧ (1 ≤ j ∧ j ≤ n - 1) ∧ (1 ≤ t ∧ t ≤ 1000000000) ∧ r ∈ rules
def ActV (H : Hp) : Actn → V → Prop
  | .none, v => v = .str "none"
  | .thr, v => v = .str "through"
  | .code c, v => ∃ a, v = .ref a ∧ H a = some (.tup [.str "code", .str c])
  | .lay w j, v => ∃ a, v = .ref a ∧ H a = some (.tup [.str w, .int j])
  | .dualC c d t r, v => ∃ a b, v = .ref a ∧ H a = some (.tup [.str "dual", .str c, .ref b, .int t, .str r]) ∧ H b = some (.tup [.str "code", .str d])
  | .dualL c j t r, v => ∃ a b, v = .ref a ∧ H a = some (.tup [.str "dual", .str c, .ref b, .int t, .str r]) ∧ H b = some (.tup [.str "layer", .int j])
def actD : Actn → PyData
  | .none => .str "none"
  | .thr => .str "through"
  | .code c => .tuple [.str "code", .str c]
  | .lay w j => .tuple [.str w, .int j]
  | .dualC c d t r => .tuple [.str "dual", .str c, .tuple [.str "code", .str d], .int t, .str r]
  | .dualL c j t r => .tuple [.str "dual", .str c, .tuple [.str "layer", .int j], .int t, .str r]
theorem fit_word {w : Str} (h : w ∈ layWords ∨ w ∈ rules) : Fit 210 0 (.str w) := by
  refine ⟨rfl, Nat.le_refl _, ?_⟩
  unfold layWords rules at h
  simp only [List.mem_cons, List.mem_nil_iff, or_false] at h
  rcases h with (rfl | rfl | rfl) | (rfl | rfl | rfl) <;> decide +kernel
theorem fit_const (w : Str) (h : (reprText w).length ≤ 210 := by decide +kernel) : Fit 210 0 (.str w) := ⟨rfl, Nat.le_refl _, h⟩
theorem fit_two' {a b : PyData} (ha : Fit 210 0 a) (hb : Fit 210 0 b) : Fit 500 1 (.tuple [a, b]) := by
  refine Fit.mono (fit_tup (L := 210) (n := 0) fun d hd => ?_) (by show 2 * 212 + 3 ≤ 500; decide) (Nat.le_refl _)
  simp only [List.mem_cons, List.mem_nil_iff, or_false] at hd
  rcases hd with rfl | rfl
  · exact ha
  · exact hb
theorem fit_five {a b c d e : PyData} (ha : Fit 210 0 a) (hb : Fit 210 0 b) (hc : Fit 500 1 c) (hd : Fit 210 0 d) (he : Fit 210 0 e) : Fit 3000 2 (.tuple [a, b, c, d, e]) := by
  refine Fit.mono (fit_tup (L := 500) (n := 1) fun x hx => ?_) (by show 5 * 502 + 3 ≤ 3000; decide) (Nat.le_refl _)
  simp only [List.mem_cons, List.mem_nil_iff, or_false] at hx
  rcases hx with rfl | rfl | rfl | rfl | rfl
  · exact ha.mono (by decide) (by decide)
  · exact hb.mono (by decide) (by decide)
  · exact hc
  · exact hd.mono (by decide) (by decide)
  · exact he.mono (by decide) (by decide)
theorem fit_low {i : Int} (h : 0 ≤ i) (h2 : i ≤ 1000000000) : Fit 210 0 (.int i) := fit_int (by
  have : (2 : Nat) ^ 200 > 1000000000 := by decide
  omega)
theorem fit_act {n i : Int} {x : Actn} (h : ActOk n i x) (hn : n ≤ 1000) : Fit 3000 2 (actD x) := by
  cases x with
  | none => exact (fit_const "none").mono (by decide) (by decide)
  | thr => exact (fit_const "through").mono (by decide) (by decide)
  | code c => exact (fit_two' (fit_const "code") (fit_code h)).mono (by decide) (by decide)
  | lay w j =>
    obtain ⟨a, b, c⟩ := h
    exact (fit_two' (fit_word (.inl a)) (fit_low (by omega) (by omega))).mono (by decide) (by decide)
  | dualC c d t r =>
    obtain ⟨a, b, ⟨c1, c2⟩, e⟩ := h
    exact fit_five (fit_const "dual") (fit_code a) (fit_two' (fit_const "code") (fit_code b)) (fit_low (by omega) c2) (fit_word (.inr e))
  | dualL c j t r =>
    obtain ⟨a, ⟨b1, b2⟩, ⟨c1, c2⟩, e⟩ := h
    exact fit_five (fit_const "dual") (fit_code a) (fit_two' (fit_const "layer") (fit_low (by omega) (by omega))) (fit_low (by omega) c2) (fit_word (.inr e))

/-! ### heaps in which tuples stay -/
def Tk (H H' : Hp) : Prop := ∀ b xs, H b = some (.tup xs) → H' b = some (.tup xs)
theorem Tk.of {H H' : Hp} (s : Same H H') : Tk H H' := fun b xs h => s _ _ h
theorem Tk.trans {H H1 H2 : Hp} (a : Tk H H1) (b : Tk H1 H2) : Tk H H2 := fun c xs h => b c xs (a c xs h)
theorem Tk.refl (H : Hp) : Tk H H := fun _ _ h => h
theorem tk_upd {H : Hp} {r : Addr} {ys zs : List V} (h : H r = some (.lst ys)) : Tk H (upd H r (.lst zs)) := fun b xs e => by
  rw [upd_ne (ne_of e h (by intro z; cases z))]
  exact e
theorem ActV.keep {H H' : Hp} (t : Tk H H') : ∀ {x : Actn} {v : V}, ActV H x v → ActV H' x v
  | .none, _, h => h
  | .thr, _, h => h
  | .code _, _, ⟨a, e, h⟩ => ⟨a, e, t _ _ h⟩
  | .lay _ _, _, ⟨a, e, h⟩ => ⟨a, e, t _ _ h⟩
  | .dualC _ _ _ _, _, ⟨a, b, e, h, g⟩ => ⟨a, b, e, t _ _ h, t _ _ g⟩
  | .dualL _ _ _ _, _, ⟨a, b, e, h, g⟩ => ⟨a, b, e, t _ _ h, t _ _ g⟩
theorem ActV.dp {K : PySem.W.Frag} {H : Hp} : ∀ {x : Actn} {v : V}, ActV H x v → Dp K H v (actD x)
  | .none, _, h => by cases h; exact .str _
  | .thr, _, h => by cases h; exact .str _
  | .code _, _, ⟨a, e, h⟩ => by cases e; exact .tup (SqT.of h) (.cons (.str _) (.cons (.str _) .nil))
  | .lay _ _, _, ⟨a, e, h⟩ => by cases e; exact .tup (SqT.of h) (.cons (.str _) (.cons (.int _) .nil))
  | .dualC _ _ _ _, _, ⟨a, b, e, h, g⟩ => by
    cases e
    exact .tup (SqT.of h) (.cons (.str _) (.cons (.str _) (.cons (.tup (SqT.of g) (.cons (.str _) (.cons (.str _) .nil))) (.cons (.int _) (.cons (.str _) .nil)))))
  | .dualL _ _ _ _, _, ⟨a, b, e, h, g⟩ => by
    cases e
    exact .tup (SqT.of h) (.cons (.str _) (.cons (.str _) (.cons (.tup (SqT.of g) (.cons (.str _) (.cons (.int _) .nil))) (.cons (.int _) (.cons (.str _) .nil)))))

/-! ### rows and layouts -/
def Acts (H : Hp) (vs : List V) (xs : List Actn) : Prop := vs.length = xs.length ∧ ∀ (i : Nat) (v : V) (x : Actn), vs[i]? = some v → xs[i]? = some x → ActV H x v
def Row (H : Hp) (r : Addr) (xs : List Actn) : Prop := ∃ vs, H r = some (.lst vs) ∧ Acts H vs xs
def Rows (H : Hp) (rs : List Addr) (L : List (List Actn)) : Prop := rs.length = L.length ∧ ∀ (i : Nat) (r : Addr) (row : List Actn), rs[i]? = some r → L[i]? = some row → Row H r row
def Lay (H : Hp) (c : Addr) (L : List (List Actn)) : Prop := ∃ rs : List Addr, H c = some (.lst (rs.map V.ref)) ∧ Rows H rs L
def rowD (xs : List Actn) : PyData := .list (xs.map actD)
def layD (L : List (List Actn)) : PyData := .list (L.map rowD)
structure LayOk (L : List (List Actn)) (m : Nat) : Prop where
  n1 : 1 ≤ L.length
  n6 : L.length ≤ 6
  m1 : 1 ≤ m
  m16 : m ≤ 16
  len : ∀ row ∈ L, row.length = m
  ok : ∀ (i : Nat) (row : List Actn), L[i]? = some row → ∀ x ∈ row, ActOk L.length i x
section
variable {H H' : Hp} {c r : Addr} {vs : List V} {xs : List Actn} {rs : List Addr} {L : List (List Actn)} {m : Nat}
theorem Acts.nil : Acts H [] [] := ⟨rfl, fun i v x h _ => by simp at h⟩
theorem Acts.keep (h : Acts H vs xs) (t : Tk H H') : Acts H' vs xs := ⟨h.1, fun i v x a b => (h.2 i v x a b).keep t⟩
theorem Acts.at_ (h : Acts H vs xs) {i : Nat} (hi : i < xs.length) : ∃ v, vs[i]? = some v ∧ ActV H xs[i] v := by
  have hl := h.1
  exact ⟨vs[i], List.getElem?_eq_getElem (by omega), h.2 i _ _ (List.getElem?_eq_getElem (by omega)) (List.getElem?_eq_getElem hi)⟩
theorem Acts.snoc {v : V} {x : Actn} (h : Acts H vs xs) (hv : ActV H x v) : Acts H (vs ++ [v]) (xs ++ [x]) := by
  refine ⟨by rw [List.length_append, List.length_append, h.1]; rfl, fun i u y a b => ?_⟩
  have hl := h.1
  rcases Nat.lt_or_ge i vs.length with q | q
  · rw [List.getElem?_append_left q] at a
    rw [List.getElem?_append_left (by omega)] at b
    exact h.2 i u y a b
  · have hi : i = vs.length := by
      have := (List.getElem?_eq_some_iff.mp a).1
      rw [List.length_append] at this
      simp at this
      omega
    subst hi
    rw [List.getElem?_append_right (Nat.le_refl _), Nat.sub_self] at a
    rw [List.getElem?_append_right (by omega), show vs.length - xs.length = 0 by omega] at b
    have e1 : v = u := Option.some.inj a
    have e2 : x = y := Option.some.inj b
    subst e1 e2
    exact hv
theorem Acts.set {v : V} {x : Actn} {j : Nat} (h : Acts H vs xs) (hv : ActV H x v) : Acts H (vs.set j v) (xs.set j x) := by
  refine ⟨by rw [List.length_set, List.length_set, h.1], fun i u y a b => ?_⟩
  have hl := h.1
  by_cases z : j = i
  · subst z
    have hj : j < vs.length := by
      have := (List.getElem?_eq_some_iff.mp a).1
      rwa [List.length_set] at this
    rw [List.getElem?_set_self hj] at a
    rw [List.getElem?_set_self (by omega)] at b
    have e1 : v = u := Option.some.inj a
    have e2 : x = y := Option.some.inj b
    subst e1 e2
    exact hv
  · rw [List.getElem?_set_ne z] at a b
    exact h.2 i u y a b
theorem Row.same (h : Row H r xs) (s : Same H H') : Row H' r xs := by
  obtain ⟨vs, a, b⟩ := h
  exact ⟨vs, s _ _ a, b.keep (Tk.of s)⟩
theorem Rows.same (h : Rows H rs L) (s : Same H H') : Rows H' rs L := ⟨h.1, fun i r row a b => (h.2 i r row a b).same s⟩
theorem Lay.same (h : Lay H c L) (s : Same H H') : Lay H' c L := by
  obtain ⟨rs, a, b⟩ := h
  exact ⟨rs, s _ _ a, b.same s⟩
theorem Rows.at_ (h : Rows H rs L) {i : Nat} (hi : i < L.length) : ∃ r, rs[i]? = some r ∧ Row H r L[i] := by
  have hl := h.1
  exact ⟨rs[i], List.getElem?_eq_getElem (by omega), h.2 i _ _ (List.getElem?_eq_getElem (by omega)) (List.getElem?_eq_getElem hi)⟩
theorem Acts.dp {K : PySem.W.Frag} : ∀ {vs : List V} {xs : List Actn}, Acts H vs xs → DpAll K H vs (xs.map actD)
  | [], [], _ => .nil
  | [], _ :: _, h => by have := h.1; simp at this
  | _ :: _, [], h => by have := h.1; simp at this
  | v :: vs, x :: xs, h => .cons ((h.2 0 v x rfl rfl).dp) (Acts.dp ⟨by have := h.1; simpa using this, fun i u y a b => h.2 (i + 1) u y (by simpa using a) (by simpa using b)⟩)
theorem Row.dp {K : PySem.W.Frag} (h : Row H r xs) : Dp K H (.ref r) (rowD xs) := by
  obtain ⟨vs, a, b⟩ := h
  exact .lst (SqL.of a) b.dp
theorem Rows.dp {K : PySem.W.Frag} : ∀ {rs : List Addr} {L : List (List Actn)}, Rows H rs L → DpAll K H (rs.map V.ref) (L.map rowD)
  | [], [], _ => .nil
  | [], _ :: _, h => by have := h.1; simp at this
  | _ :: _, [], h => by have := h.1; simp at this
  | r :: rs, row :: L, h => .cons ((h.2 0 r row rfl rfl).dp) (Rows.dp ⟨by have := h.1; simpa using this, fun i u y a b => h.2 (i + 1) u y (by simpa using a) (by simpa using b)⟩)
theorem Lay.dp {K : PySem.W.Frag} (h : Lay H c L) : Dp K H (.ref c) (layD L) := by
  obtain ⟨rs, a, b⟩ := h
  exact .lst (SqL.of a) b.dp
theorem LayOk.fit (h : LayOk L m) : Fit 300100 4 (layD L) := by
  refine Fit.mono (fit_list (L := 50000) (n := 3) fun d hd => ?_) (by rw [List.length_map]; have := h.n6; omega) (Nat.le_refl _)
  obtain ⟨row, hr, rfl⟩ := List.mem_map.mp hd
  obtain ⟨i, hi⟩ := List.getElem?_of_mem hr
  refine Fit.mono (fit_list (L := 3000) (n := 2) fun d hd => ?_) (by rw [List.length_map, h.len row hr]; have := h.m16; omega) (Nat.le_refl _)
  obtain ⟨x, hx, rfl⟩ := List.mem_map.mp hd
  exact fit_act (h.ok i row hi x hx) (by have := h.n6; omega)
theorem LayOk.set (h : LayOk L m) {i j : Nat} {x : Actn} {row : List Actn} (hi : L[i]? = some row) (hx : ActOk L.length i x) : LayOk (L.set i (row.set j x)) m := by
  have hil := (List.getElem?_eq_some_iff.mp hi).1
  refine ⟨by rw [List.length_set]; exact h.n1, by rw [List.length_set]; exact h.n6, h.m1, h.m16, fun r hr => ?_, fun k r hk y hy => ?_⟩
  · rcases List.mem_or_eq_of_mem_set hr with q | q
    · exact h.len r q
    · rw [q, List.length_set]; exact h.len row (List.mem_of_getElem? hi)
  · rw [List.length_set]
    by_cases z : i = k
    · subst z
      rw [List.getElem?_set_self hil] at hk
      have e : row.set j x = r := Option.some.inj hk
      subst e
      rcases List.mem_or_eq_of_mem_set hy with q | q
      · exact h.ok i row hi y q
      · rw [q]; exact hx
    · rw [List.getElem?_set_ne z] at hk
      exact h.ok k r hk y hy
end
theorem inv_str (k : Str) : ∀ ws : List Str, inV (.str k) (ws.map V.str) = decide (k ∈ ws)
  | [] => rfl
  | n :: ns => by
    show (eqV (.str n) (.str k) || inV (.str k) (ns.map V.str)) = _
    rw [inv_str k ns]
    have e : eqV (.str n) (.str k) = decide (n = k) := by
      by_cases z : n = k <;> simp [eqV, z]
    rw [e]
    by_cases z : n = k
    · subst z; simp
    · have z' : ¬ k = n := fun q => z q.symm
      simp [z, z']
end La

set_option Elab.async false
set_option linter.all false
set_option maxRecDepth 100000
set_option maxHeartbeats 4000000
/-! data of any kind, dicts too: what it reads as, its repr, its type -/
namespace Gd
open PySem PySem.Spec PyProof.Rows L2
mutual
inductive Dq (K : PySem.W.Frag) (H : Hp) : V → PyData → Prop
  | non : Dq K H .non .none
  | bl (b : Bool) : Dq K H (.bl b) (.bool b)
  | int (i : Int) : Dq K H (.int i) (.int i)
  | str (x : Str) : Dq K H (.str x) (.str x)
  | lst {a : Addr} {xs : List V} {ds : List PyData} : SqL K H a xs → DqAll K H xs ds → Dq K H (.ref a) (.list ds)
  | tup {a : Addr} {xs : List V} {ds : List PyData} : SqT K H a xs → DqAll K H xs ds → Dq K H (.ref a) (.tuple ds)
  | dct {a : Addr} {kvs : List (Key × V)} {ks vs : List PyData} : H a = some (.dK kvs) → DqAll K H (kvs.map fun p => kV p.1) ks → DqAll K H (kvs.map fun p => p.2) vs → Dq K H (.ref a) (.dict (ks.zip vs))
inductive DqAll (K : PySem.W.Frag) (H : Hp) : List V → List PyData → Prop
  | nil : DqAll K H [] []
  | cons {v : V} {vs : List V} {d : PyData} {ds : List PyData} : Dq K H v d → DqAll K H vs ds → DqAll K H (v :: vs) (d :: ds)
end
section
variable {K : PySem.W.Frag} {H H' : Hp}
mutual
theorem Dp.q : ∀ {d : PyData} {v : V}, Dp K H v d → Dq K H v d
  | .none, _, h => by cases h; exact .non
  | .bool b, _, h => by cases h; exact .bl b
  | .int i, _, h => by cases h; exact .int i
  | .str x, _, h => by cases h; exact .str x
  | .list ds, _, h => by
    cases h with
    | lst hs ha => exact .lst hs (DpAll.q ha)
  | .tuple ds, _, h => by
    cases h with
    | tup hs ha => exact .tup hs (DpAll.q ha)
  | .dict _, _, h => by cases h
theorem DpAll.q : ∀ {ds : List PyData} {vs : List V}, DpAll K H vs ds → DqAll K H vs ds
  | [], _, h => by cases h; exact .nil
  | d :: ds, _, h => by
    cases h with
    | cons h1 h2 => exact .cons (Dp.q h1) (DpAll.q h2)
end
theorem SqL.same_ {a : Addr} {xs : List V} (h : SqL K H a xs) (s : ∀ b o, H b = some o → H' b = some o) : SqL K H' a xs := by
  rcases h with (h | ⟨o, h⟩) | h
  · exact .inl (.inl (s _ _ h))
  · exact .inl (.inr ⟨o, s _ _ h⟩)
  · exact .inr h
theorem SqT.same_ {a : Addr} {xs : List V} (h : SqT K H a xs) (s : ∀ b o, H b = some o → H' b = some o) : SqT K H' a xs := by
  rcases h with (h | ⟨o, h⟩) | h
  · exact .inl (.inl (s _ _ h))
  · exact .inl (.inr ⟨o, s _ _ h⟩)
  · exact .inr h
mutual
theorem Dq.same {v : V} {d : PyData} : Dq K H v d → (∀ b o, H b = some o → H' b = some o) → Dq K H' v d
  | .non, _ => .non
  | .bl b, _ => .bl b
  | .int i, _ => .int i
  | .str x, _ => .str x
  | .lst h a, s => .lst (SqL.same_ h s) (DqAll.same a s)
  | .tup h a, s => .tup (SqT.same_ h s) (DqAll.same a s)
  | .dct h a b, s => .dct (s _ _ h) (DqAll.same a s) (DqAll.same b s)
theorem DqAll.same {vs : List V} {ds : List PyData} : DqAll K H vs ds → (∀ b o, H b = some o → H' b = some o) → DqAll K H' vs ds
  | .nil, _ => .nil
  | .cons a b, s => .cons (Dq.same a s) (DqAll.same b s)
end
theorem DqAll.length : ∀ {vs : List V} {ds : List PyData}, DqAll K H vs ds → vs.length = ds.length
  | _, _, .nil => rfl
  | _, _, .cons _ b => congrArg (· + 1) (DqAll.length b)
theorem DqAll.at_ : ∀ {vs : List V} {ds : List PyData} {i : Nat} {v : V}, DqAll K H vs ds → vs[i]? = some v → ∃ d, ds[i]? = some d ∧ Dq K H v d
  | _, _, 0, _, .cons a _, h => ⟨_, rfl, by cases h; exact a⟩
  | _, _, i + 1, _, .cons _ b, h => DqAll.at_ (i := i) b h
  | _, _, _, _, .nil, h => by simp at h
theorem DqAll.get : ∀ {vs : List V} {ds : List PyData} {i : Nat} {d : PyData}, DqAll K H vs ds → ds[i]? = some d → ∃ v, vs[i]? = some v ∧ Dq K H v d
  | _, _, 0, _, .cons a _, h => ⟨_, rfl, by cases h; exact a⟩
  | _, _, i + 1, _, .cons _ b, h => DqAll.get (i := i) b h
  | _, _, _, _, .nil, h => by simp at h
theorem DqAll.append : ∀ {vs : List V} {ds : List PyData} {vs' : List V} {ds' : List PyData}, DqAll K H vs ds → DqAll K H vs' ds' → DqAll K H (vs ++ vs') (ds ++ ds')
  | _, _, _, _, .nil, b => b
  | _, _, _, _, .cons a t, b => .cons a (DqAll.append t b)
theorem DqAll.take : ∀ {vs : List V} {ds : List PyData} (n : Nat), DqAll K H vs ds → DqAll K H (vs.take n) (ds.take n)
  | _, _, 0, _ => .nil
  | _, _, _ + 1, .nil => .nil
  | _, _, n + 1, .cons a t => .cons a (DqAll.take n t)
theorem DqAll.drop : ∀ {vs : List V} {ds : List PyData} (n : Nat), DqAll K H vs ds → DqAll K H (vs.drop n) (ds.drop n)
  | _, _, 0, h => h
  | _, _, _ + 1, .nil => .nil
  | _, _, n + 1, .cons _ t => DqAll.drop n t
theorem DqAll.ints : ∀ (ks : List Int), DqAll K H (ks.map V.int) (ks.map PyData.int)
  | [] => .nil
  | k :: ks => .cons (.int k) (DqAll.ints ks)
/-- the names of types -/
def kindS : PyData → String
  | .none => "NoneType"
  | .bool _ => "bool"
  | .int _ => "int"
  | .str _ => "str"
  | .list _ => "list"
  | .tuple _ => "tuple"
  | .dict _ => "dict"
theorem Dq.ty {v : V} {d : PyData} (h : Dq K H v d) : TyX K H v (.type (kindS d)) := by
  cases h with
  | non => exact .base .non
  | bl b => exact .base (.bl b)
  | int i => exact .base (.int i)
  | str x => exact .base (.str x)
  | lst h _ =>
    rcases h with (h | ⟨o, h⟩) | ⟨o, its, n, h, c, _⟩
    · exact .base (.lst h)
    · exact .base (.frz h)
    · exact .kList h c
  | tup h _ =>
    rcases h with (h | ⟨o, h⟩) | ⟨o, its, n, h, c, _⟩
    · exact .base (.tup h)
    · exact .fTuple h
    · exact .kTuple h c
  | dct h _ _ => exact .base (.dK h)
end
section
variable {X : Cx} {pins : List (Addr × Obj)} {σ : L2.St} {H : Hp} {s : Shared}
theorem pairs_vals {P : Program} {w : World} : ∀ {es : List DictEntry} {qs : List (Key × Value)} {kvs : List (Key × V)}, Pairs (mixKind P w) es qs → KV kvs qs →
    Vals (kvs.map fun p => kV p.1) (es.map (·.key)) ∧ Vals (kvs.map fun p => p.2) (es.map (·.val))
  | _, _, _, .nil, .nil => ⟨.nil, .nil⟩
  | _, _, _, .cons h1 h2 t, .cons ⟨e, r⟩ q => by
    obtain ⟨a, b⟩ := pairs_vals t q
    refine ⟨.cons ?_ a, .cons ?_ b⟩
    · show RelV (kV _) (DictEntry.key _)
      rw [e]
      rcases keyIs_shape h1 with ⟨i, t, e1, e2⟩ | ⟨x, t, e1, e2⟩
      · rw [e1, e2]; exact ⟨t, rfl⟩
      · rw [e1, e2]; exact ⟨t, rfl⟩
    · show RelV _ (DictEntry.val _)
      rw [h2]; exact r
theorem zip_fst {α β : Type} : ∀ {a : List α} {b : List β}, a.length = b.length → (a.zip b).map (·.1) = a
  | [], [], _ => rfl
  | _ :: a, _ :: b, h => congrArg (_ :: ·) (zip_fst (a := a) (b := b) (Nat.succ.inj h))
theorem zip_snd {α β : Type} : ∀ {a : List α} {b : List β}, a.length = b.length → (a.zip b).map (·.2) = b
  | [], [], _ => rfl
  | _ :: a, _ :: b, h => congrArg (_ :: ·) (zip_snd (a := a) (b := b) (Nat.succ.inj h))
/-- the modules' dict stands where it stood -/
def SysAt (base : Heap) : Prop := ∃ o es ep, base.get? sysModules = some o ∧ o.data = .dict es ep
mutual
theorem Dq.reads (I : Inv X pins σ H s) (hsm : SysAt X.base) {v : V} {d : PyData} : Dq X.K H v d → ∀ u, RelV v u → ∃ as, Reads s.heap u d as ∧ sysModules ∉ as
  | .non, _, r => by
    cases r
    exact ⟨_, Reads.none, by simp⟩
  | .bl b, _, r => by
    cases r
    exact ⟨_, Reads.bool b, by simp⟩
  | .int i, _, r => by
    obtain ⟨t, rfl⟩ := r
    exact ⟨_, Reads.int i t, by simp⟩
  | .str x, _, r => by
    obtain ⟨t, rfl⟩ := r
    exact ⟨_, Reads.str x t, by simp⟩
  | .lst (a := a) hs ha, u, r => by
    cases (show u = Value.ref a from r)
    obtain ⟨its, rv, ⟨o, n, ho, hc, _, hd⟩, _⟩ := I.list hs
    obtain ⟨as, hr, hn⟩ := DqAll.reads I hsm ha its rv
    refine ⟨_, Reads.list ho hc hd hr, fun hm => ?_⟩
    rcases List.mem_cons.mp hm with e | hm
    · obtain ⟨o', es, ep, h1, h2⟩ := hsm
      have h3 := I.bk _ _ h1
      rw [e, ho] at h3
      cases h3
      rw [hd] at h2
      cases h2
    · exact hn hm
  | .tup (a := a) hs ha, u, r => by
    cases (show u = Value.ref a from r)
    obtain ⟨its, rv, ⟨o, ho, hc, n, hd⟩, _⟩ := I.tuple hs
    obtain ⟨as, hr, hn⟩ := DqAll.reads I hsm ha its rv
    exact ⟨_, Reads.tuple ho hc hd hr, hn⟩
  | .dct (a := a) (kvs := kvs) hk ha hb, u, r => by
    cases (show u = Value.ref a from r)
    obtain ⟨_, hsys, qs, rel, o, es, ep, ho, hex, hdat, _, hp, _⟩ := dk_of I.hok hk
    obtain ⟨rk, rv⟩ := pairs_vals hp rel
    obtain ⟨as, hr, hn⟩ := DqAll.reads I hsm ha _ rk
    obtain ⟨bs, hr2, hn2⟩ := DqAll.reads I hsm hb _ rv
    have hl : _ = _ := (DqAll.length ha).symm.trans ((List.length_map _).trans ((List.length_map _).symm.trans (DqAll.length hb)))
    refine ⟨_, Reads.dict ho hex.1 hdat (by rw [zip_fst hl]; exact hr) (by rw [zip_snd hl]; exact hr2), fun hm => ?_⟩
    rcases List.mem_append.mp hm with hm | hm
    · rcases List.mem_cons.mp hm with e | hm
      · exact absurd e.symm (by simpa using hsys)
      · exact hn hm
    · exact hn2 hm
theorem DqAll.reads (I : Inv X pins σ H s) (hsm : SysAt X.base) {vs : List V} {ds : List PyData} : DqAll X.K H vs ds → ∀ us, Vals vs us → ∃ as, ReadsAll s.heap us ds as ∧ sysModules ∉ as
  | .nil, _, r => by
    cases r
    exact ⟨_, ReadsAll.nil, by simp⟩
  | .cons h1 h2, _, r => by
    cases r with
    | cons r1 r2 =>
      obtain ⟨as, q1, n1⟩ := Dq.reads I hsm h1 _ r1
      obtain ⟨bs, q2, n2⟩ := DqAll.reads I hsm h2 _ r2
      exact ⟨_, ReadsAll.cons q1 q2, fun hm => (List.mem_append.mp hm).elim n1 n2⟩
end
end
/-- repr(x), x data of any kind -/
def rRepQ (K : PySem.W.Frag) : List V → Hp → VK → Prop := fun xs H Q => ∃ (v : V) (d : PyData), xs = [v] ∧ Dq K H v d ∧
  d.showable = true ∧ d.depth ≤ 50 ∧ d.shown.length ≤ sizeLine ∧ Q (.str d.shown) H
theorem call_repQ {X : Cx} {k : Nat} (hsm : SysAt X.base) (hg : X.A.guards = some []) (hr : Room k X.A) : CallR X (.builtin "repr") (rRepQ X.K) := by
  intro pins s σ H xs us Q I r h
  obtain ⟨v, d, rfl, hd, hs, hdp, hz, q⟩ := h
  obtain ⟨u, rfl, ru⟩ := vals1 r
  have hu := hr.un
  have one : ∀ {a : Addr}, u = .ref a → wpAny (model X.prog X.w) X.A (call (.builtin "repr") [u]) (EP X pins σ Q) X.xe s := fun {a} e => by
    obtain ⟨as, rd, hn⟩ := Dq.reads I hsm hd u ru
    subst e
    exact repr_of_reads' rd hs (fun _ => hn) hg (by omega) (fun _ _ e => e)
      (fun h' t tk hk => ⟨.str d.shown, H, I.kept (t' := tk) hk, ⟨t, rfl⟩, q⟩) hz
  cases hd with
  | non =>
    cases ru
    exact PySem.P.repr_of_none ⟨.str _, H, I.tok _, ⟨_, rfl⟩, q⟩
  | bl b =>
    cases ru
    exact PySem.P.repr_of_bool ⟨.str _, H, I.tok _, ⟨_, rfl⟩, q⟩
  | int i =>
    obtain ⟨t, rfl⟩ := ru
    exact PySem.P.repr_of_int (of_decide_eq_true hs) ⟨.str _, H, I.tok _, ⟨_, rfl⟩, q⟩
  | str z =>
    obtain ⟨t, rfl⟩ := ru
    exact PySem.P.repr_of_str ⟨.str _, H, I.tok _, ⟨_, rfl⟩, q⟩ hz
  | lst _ _ => exact one ru
  | tup _ _ => exact one ru
  | dct _ _ _ => exact one ru
end Gd
namespace Gd
open PySem PySem.Spec PyProof.Rows L2
section
variable {K : PySem.W.Frag} {H H' : Hp}
theorem Dq.tupE {v : V} {d : PyData} (h : Dq K H v d) (e : kindS d = "tuple") : ∃ a xs ds, v = .ref a ∧ d = .tuple ds ∧ SqT K H a xs ∧ DqAll K H xs ds := by
  cases h with
  | tup hs ha => exact ⟨_, _, _, rfl, rfl, hs, ha⟩
  | non => exact absurd e (by decide)
  | bl b => exact absurd e (show ¬ ("bool" : String) = "tuple" by decide)
  | int i => exact absurd e (show ¬ ("int" : String) = "tuple" by decide)
  | str x => exact absurd e (show ¬ ("str" : String) = "tuple" by decide)
  | lst _ _ => exact absurd e (show ¬ ("list" : String) = "tuple" by decide)
  | dct _ _ _ => exact absurd e (show ¬ ("dict" : String) = "tuple" by decide)
theorem Dq.lstE {v : V} {d : PyData} (h : Dq K H v d) (e : kindS d = "list") : ∃ a xs ds, v = .ref a ∧ d = .list ds ∧ SqL K H a xs ∧ DqAll K H xs ds := by
  cases h with
  | lst hs ha => exact ⟨_, _, _, rfl, rfl, hs, ha⟩
  | non => exact absurd e (by decide)
  | bl b => exact absurd e (show ¬ ("bool" : String) = "list" by decide)
  | int i => exact absurd e (show ¬ ("int" : String) = "list" by decide)
  | str x => exact absurd e (show ¬ ("str" : String) = "list" by decide)
  | tup _ _ => exact absurd e (show ¬ ("tuple" : String) = "list" by decide)
  | dct _ _ _ => exact absurd e (show ¬ ("dict" : String) = "list" by decide)
theorem Dq.strE {v : V} {d : PyData} (h : Dq K H v d) (e : kindS d = "str") : ∃ x, v = .str x ∧ d = .str x := by
  cases h with
  | str x => exact ⟨_, rfl, rfl⟩
  | non => exact absurd e (by decide)
  | bl b => exact absurd e (show ¬ ("bool" : String) = "str" by decide)
  | int i => exact absurd e (show ¬ ("int" : String) = "str" by decide)
  | lst _ _ => exact absurd e (show ¬ ("list" : String) = "str" by decide)
  | tup _ _ => exact absurd e (show ¬ ("tuple" : String) = "str" by decide)
  | dct _ _ _ => exact absurd e (show ¬ ("dict" : String) = "str" by decide)
def kinds7 : List String := ["NoneType", "bool", "int", "str", "list", "tuple", "dict"]
theorem kindS_mem (d : PyData) : kindS d ∈ kinds7 := by cases d <;> simp [kindS, kinds7]
theorem kit_tuple (d : PyData) : kitB (kindS d) "tuple" = some (decide (kindS d = "tuple")) := (by decide +kernel : ∀ s ∈ kinds7, kitB s "tuple" = some (decide (s = "tuple"))) _ (kindS_mem d)
theorem kit_list (d : PyData) : kitB (kindS d) "list" = some (decide (kindS d = "list")) := (by decide +kernel : ∀ s ∈ kinds7, kitB s "list" = some (decide (s = "list"))) _ (kindS_mem d)
theorem kit_str (d : PyData) : kitB (kindS d) "str" = some (decide (kindS d = "str")) := (by decide +kernel : ∀ s ∈ kinds7, kitB s "str" = some (decide (s = "str"))) _ (kindS_mem d)
theorem kit_tupT {d : PyData} (h : kindS d = "tuple") : kitB (kindS d) "tuple" = some true := (kit_tuple d).trans (by rw [decide_eq_true h])
theorem kit_tupF {d : PyData} (h : kindS d ≠ "tuple") : kitB (kindS d) "tuple" = some false := (kit_tuple d).trans (by rw [decide_eq_false h])
theorem kit_lstT {d : PyData} (h : kindS d = "list") : kitB (kindS d) "list" = some true := (kit_list d).trans (by rw [decide_eq_true h])
theorem kit_lstF {d : PyData} (h : kindS d ≠ "list") : kitB (kindS d) "list" = some false := (kit_list d).trans (by rw [decide_eq_false h])
theorem kit_strT {d : PyData} (h : kindS d = "str") : kitB (kindS d) "str" = some true := (kit_str d).trans (by rw [decide_eq_true h])
theorem kit_strF {d : PyData} (h : kindS d ≠ "str") : kitB (kindS d) "str" = some false := (kit_str d).trans (by rw [decide_eq_false h])
mutual
theorem Dq.p : ∀ {d : PyData} {v : V}, Dq K H v d → d.hasDict = false → Dp K H v d
  | .none, _, h, _ => by cases h; exact .non
  | .bool b, _, h, _ => by cases h; exact .bl b
  | .int i, _, h, _ => by cases h; exact .int i
  | .str x, _, h, _ => by cases h; exact .str x
  | .list ds, _, h, n => by
    cases h with
    | lst hs ha => exact .lst hs (DqAll.p ha n)
  | .tuple ds, _, h, n => by
    cases h with
    | tup hs ha => exact .tup hs (DqAll.p ha n)
  | .dict _, _, _, n => by cases n
theorem DqAll.p : ∀ {ds : List PyData} {vs : List V}, DqAll K H vs ds → PyData.hasDictAll ds = false → DpAll K H vs ds
  | [], _, h, _ => by cases h; exact .nil
  | d :: ds, _, h, n => by
    cases h with
    | cons h1 h2 =>
      have n' : (d.hasDict || PyData.hasDictAll ds) = false := n
      exact .cons (Dq.p h1 (Bool.or_eq_false_iff.mp n').1) (DqAll.p h2 (Bool.or_eq_false_iff.mp n').2)
end
theorem DqAll.intsV : ∀ {vs : List V} {ks : List Int}, DqAll K H vs (ks.map PyData.int) → vs = ks.map V.int
  | _, [], .nil => rfl
  | _, k :: ks, .cons a b => by
    cases a
    rw [DqAll.intsV b] <;> rfl
end
mutual
/-- no long text in it -/
def szB : PyData → Bool
  | .str c => decide (c.length ≤ 1000)
  | .list ds => szAll ds
  | .tuple ds => szAll ds
  | _ => true
def szAll : List PyData → Bool
  | [] => true
  | d :: ds => szB d && szAll ds
end
theorem szAll_mem : ∀ {ds : List PyData}, szAll ds = true → ∀ d ∈ ds, szB d = true
  | [], _, d, h => by simp at h
  | e :: ds, h, d, hd => by
    have h' : (szB e && szAll ds) = true := h
    rw [Bool.and_eq_true] at h'
    rcases List.mem_cons.mp hd with rfl | hd
    · exact h'.1
    · exact szAll_mem h'.2 d hd
theorem szAll_of : ∀ {ds : List PyData}, (∀ d ∈ ds, szB d = true) → szAll ds = true
  | [], _ => rfl
  | e :: ds, h => by
    show (szB e && szAll ds) = true
    rw [h e List.mem_cons_self, szAll_of fun d hd => h d (List.mem_cons_of_mem _ hd)]
    rfl
end Gd
namespace Gd
open PySem PySem.Spec PyProof.Rows L2
section
variable {K : PySem.W.Frag} {H : Hp} {p : Addr} {ys zs : List V}
theorem SqT.lst_ {a : Addr} {xs : List V} (h : SqT K H a xs) (e : H p = some (.lst ys)) (u : HO) : SqT K (upd H p u) a xs := by
  rcases h with (h | ⟨o, h⟩) | h
  · exact .inl (.inl (by rw [upd_ne (ne_of h e (by intro z; cases z))]; exact h))
  · exact .inl (.inr ⟨o, by rw [upd_ne (ne_of h e (by intro z; cases z))]; exact h⟩)
  · exact .inr h
/-- data without a list at p: what is not a list or a dict -/
theorem DqAll.ints_off {b : Addr} {xs : List V} {ks : List Int} (h : SqT K H b xs) (hd : DqAll K H xs (ks.map PyData.int)) (e : H p = some (.lst ys)) (u : HO) : Dq K (upd H p u) (.ref b) (.tuple (ks.map PyData.int)) := by
  have ex := hd.intsV
  subst ex
  exact .tup (SqT.lst_ h e u) (DqAll.ints ks)
end
end Gd
namespace Gd
open PySem PySem.Spec PyProof.Rows L2
theorem kss_off {K : PySem.W.Frag} {H : Hp} {p : Addr} {ys : List V} (e : H p = some (.lst ys)) (u : HO) : ∀ {vs : List V} {kss : List (List Int)}, DqAll K H vs (kss.map fun ks => PyData.tuple (ks.map PyData.int)) → DqAll K (upd H p u) vs (kss.map fun ks => PyData.tuple (ks.map PyData.int))
  | _, [], .nil => .nil
  | _, _ :: _, .cons (.tup h a) t => .cons (DqAll.ints_off h a e u) (kss_off e u t)
end Gd

set_option Elab.async false
set_option linter.all false
set_option maxRecDepth 100000
set_option maxHeartbeats 4000000
/-! defs that may raise own exceptions, in the layer where no display is being shown -/
namespace Gd
open PySem PySem.Spec PyProof.Rows L2
structure FnGX (P : Program) (w : World) (K : PySem.W.Frag) (mg : Str → Option Value) (base : Heap)
    (k : Nat) (f : Addr) (fd : FuncData) (ps : List Str) (sp : Sp) : Prop where
  len : ∀ vs H Q E, sp vs H Q E → vs.length = ps.length
  go : ∀ (A : Around) (outer : List Env) (s : Shared) (H : Hp) (args : Args) (us : List Value) (vs : List V) (Q : VK) (E : XK),
    A.guards = some [] → Room k A → Env0 P w K mg base A outer s H → BindsTo s fd args (ps.zip us) →
    Vals vs us → sp vs H Q E →
    codeAny (model P w) A (.call (.ref f) args) (CR (CX P w) outer P w H s Q E) s
section
variable {P : Program} {w : World} {K : PySem.W.Frag} {mg : Str → Option Value} {base : Heap}
theorem fnGX {x qual : Str} {st : Stmt} {f : Addr} {fd : FuncData} {N ps : List Str} {k : Nat} {sp : Sp}
    (F : Fun K x qual st f fd) (S : FnScope N ps (defScope st))
    (len : ∀ vs H Q E, sp vs H Q E → vs.length = ps.length)
    (hb : ∀ (cdv : Value) (A : Around) (outer : List Env) (s : Shared) (H : Hp) (vs : List V) (Q : VK) (E : XK),
      A.guards = some [] → Room k (A.deeper (envOfC qual (defScope st) s.heap.objs.size f cdv)) → sp vs H Q E →
      ∃ t, PSs (cxOf (CX P w) P w K mg base N qual (defScope st) f cdv A outer s H E) (defBody st) t ∧
        t { nx := fun _ H' => Q .non H', rt := Q } (start N vs) H) :
    FnGX P w K mg base (k + 1) f fd ps sp := by
  obtain ⟨oc, od, kV, doc, pm, an, cdv, ct, osl, rfl, lk, hcd⟩ := F.ex
  refine ⟨len, fun A outer s H args us vs Q E hg hr e0 bt rv hsp => ?_⟩
  have kin : K.In s.heap := e0.mod.kin.keeps (fun b o e => (e0.bs b o e).1)
  have nol : s.heap.NoLimit := e0.mod.nolimit.keeps (fun b o e => (e0.bs b o e).1)
  have pk : ((ps.zip us).all fun y => (defScope st).names.lookup y.1 == some NameKind.local ||
      (defScope st).names.lookup y.1 == some NameKind.cell) = true := by
    rw [List.all_eq_true]
    rintro ⟨n, v⟩ hm
    have hp := S.par n (List.of_mem_zip hm).1
    rcases hp with e | e <;> simp [e]
  refine Att.call_fn kin nol lk hcd hr.depth bt pk (fun s1 ic => ?_) S.co S.gen S.kind
  obtain ⟨t, ht, hq⟩ := hb cdv A outer s H vs Q E hg (hr.deeper _) hsp
  have J := inv_start (CX := CX P w) (E := E) (P := P) (w := w) (mg := mg) (base := base) S hr.hd e0 (len _ _ _ _ hsp) rv ic
  refine wpAny_mono (ht.run [] s1 (start N vs) H _ J hq) (fun fl s' sp' => ?_) (fun e s' z => z)
  match fl, sp' with
  | .next, ⟨σ', H', L, q⟩ => exact ⟨.non, H', L.os, L.bare, L.base, L.hok, rfl, q⟩
  | .ret u, ⟨v, σ', H', L, rr, q⟩ => exact ⟨v, H', L.os, L.bare, L.base, L.hok, rr, q⟩
  | .brk, ⟨_, _, _, q⟩ => exact False.elim q
  | .cont, ⟨_, _, _, q⟩ => exact False.elim q
end
/-- a def that may be called by its name, and may raise -/
structure ClX (P : Program) (w : World) (K : PySem.W.Frag) (mg : Str → Option Value) (base : Heap) (k : Nat) (x : Str) (sp : Sp) : Prop where
  ex : ∃ (f : Addr) (fd : FuncData) (ps : List Str), FnGX P w K mg base k f fd ps sp ∧ mg x = some (.ref f) ∧
    PySem.W.keepIn K (.ref f) = true ∧ Binds K fd ps []
section
variable {P : Program} {w : World} {K : PySem.W.Frag} {mg : Str → Option Value} {base : Heap}
theorem clGX {x : Str} {st : Stmt} {N ps : List Str} {k : Nat} {sp : Sp} (a : At K mg x st ps) (S : FnScope N ps (defScope st))
    (len : ∀ vs H Q E, sp vs H Q E → vs.length = ps.length)
    (hb : ∀ (f : Addr) (cdv : Value) (A : Around) (outer : List Env) (s : Shared) (H : Hp) (vs : List V) (Q : VK) (E : XK),
      A.guards = some [] → Room k (A.deeper (envOfC x (defScope st) s.heap.objs.size f cdv)) → sp vs H Q E →
      ∃ t, PSs (cxOf (CX P w) P w K mg base N x (defScope st) f cdv A outer s H E) (defBody st) t ∧
        t { nx := fun _ H' => Q .non H', rt := Q } (start N vs) H) : ClX P w K mg base (k + 1) x sp := by
  obtain ⟨f, fd, F, hm, b⟩ := a.ex
  exact ⟨f, fd, ps, fnGX F S len (hb f), hm, F.kp, b⟩
end
section
variable {X : Cx} {k j : Nat} {x : Str} {sp : Sp} {p pos : Pos} {e : Expr} {es : List Expr} {t : TA} {E : XK}
theorem run_clX {f : Addr} {fd : FuncData} {ps : List Str} {pins : List (Addr × Obj)} {σ : L2.St} {H : Hp} {s : Shared} {Q : VK} {us : List Value} {vs : List V}
    (F : FnGX X.prog X.w X.K X.mg X.base k f fd ps sp) (hg : X.A.guards = some []) (hr : Room k X.A) (b : Binds X.K fd ps []) (hx : Passes (CX X.prog X.w) X E)
    (I : Inv X pins σ H s) (rv : Vals vs us) (h : sp vs H Q E) : wpAny (model X.prog X.w) X.A (call (.ref f) us) (EP X pins σ Q) X.xe s := by
  have hl : us.length = ps.length := rv.length.symm.trans (F.len _ _ _ _ h)
  have bt := b s us I.kIn (by simpa using hl)
  rw [List.append_nil] at bt
  refine wpAny_call (codeAny_mono (F.go X.A X.stack s H ⟨us, []⟩ us vs Q E hg hr I.env0 bt rv h) (fun r s' hq => ?_))
  match r, hq with
  | .ok (.ret u), hq => exact I.after hq
  | .ok .next, hq => exact False.elim hq
  | .ok .brk, hq => exact False.elim hq
  | .ok .cont, hq => exact False.elim hq
  | .error e, hq => exact hx pins σ H s e s' I hq
/-- f(e, ..), that may raise -/
theorem pe_clX (c : ClX X.prog X.w X.K X.mg X.base k x sp) (hg : X.A.guards = some []) (hr : Room j X.A) (hk : k ≤ j) (gl : Gl X x) (hx : Passes (CX X.prog X.w) X E) (ha : PA X (e :: es) t)
    (hd : (x == ("__debug__" : Str)) = false := by decide)
    (he : starEach (e :: es) X.env = (false, eval e X.env) :: starEach es X.env := by rfl)
    (hp : (backTo pos (starEach es X.env)).any (·.1) = false := by rfl) :
    PE X (.Call (.Name x p) (e :: es) [] pos) (tCall sp [] E t) := by
  obtain ⟨f, fd, ps, F, hm, kp, b⟩ := c.ex
  refine ⟨fun pins s σ H Q I h => wpAny_Call_Name_kw (ld_glob I gl hm (PySem.W.callWith_K (h₀ := X.base) I.ok.mod.kin kp ?_ he hp) hd)⟩
  refine thn (ha.run pos pins s σ H _ I h) (fun us s1 z => ?_)
  obtain ⟨vs, H1, I1, rv, q⟩ := z
  exact ⟨I1.kIn, run_clX F hg (hr.mono hk) b hx I1 rv (by simpa using q)⟩
/-- a def that raises nothing here, called where nothing is raised -/
theorem ClX.calm {P : Program} {w : World} {K : PySem.W.Frag} {mg : Str → Option Value} {base : Heap} (c : ClX P w K mg base k x sp) : ∃ (f : Addr) (fd : FuncData) (ps : List Str), FnG P w K mg base k f fd ps (fun vs H Q E => sp vs H Q E0) ∧ mg x = some (.ref f) ∧ PySem.W.keepIn K (.ref f) = true ∧ Binds K fd ps [] := by
  obtain ⟨f, fd, ps, F, hm, kp, b⟩ := c.ex
  refine ⟨f, fd, ps, ⟨fun vs H Q E h => F.len vs H Q E0 h, fun A outer s H args us vs Q hg hr e0 bt rv hsp => ?_⟩, hm, kp, b⟩
  refine codeAny_mono (F.go A outer s H args us vs Q E0 hg hr e0 bt rv hsp) fun r s' hq => ?_
  match r, hq with
  | .ok (.ret u), hq => exact hq
  | .ok .next, hq => exact False.elim hq
  | .ok .brk, hq => exact False.elim hq
  | .ok .cont, hq => exact False.elim hq
  | .error e, hq =>
    obtain ⟨a, B, H', cls, d, _, _, _, _, _, _, _, z⟩ := (show CX P w outer H s E0 e s' from hq)
    exact z.elim
theorem ClX.toCl {P : Program} {w : World} {K : PySem.W.Frag} {mg : Str → Option Value} {base : Heap} (c : ClX P w K mg base k x sp) : Cl P w K mg base k x (fun vs H Q _ => sp vs H Q E0) := ⟨c.calm⟩
end
section
variable {X : Cx} {k j : Nat} {x : Str} {sp : Sp} {p pos : Pos} {e : Expr} {es : List Expr} {t : TA} {E : L2.St → XK}
/-- f(e, ..), that may raise: what is wished then may speak of the state -/
def tCallX (sp : Sp) (E : L2.St → XK) (t : TA) : TE := fun σ H Q => t σ H fun vs H' => sp vs H' Q (E σ)
theorem pe_clXs (c : ClX X.prog X.w X.K X.mg X.base k x sp) (hg : X.A.guards = some []) (hr : Room j X.A) (hk : k ≤ j) (gl : Gl X x)
    (hx : ∀ (pins : List (Addr × Obj)) (σ : L2.St) (H : Hp) (s : Shared) (e : Value) (s' : Shared), Inv X pins σ H s → CX X.prog X.w X.stack H s (E σ) e s' → X.xe e s') (ha : PA X (e :: es) t)
    (hd : (x == ("__debug__" : Str)) = false := by decide)
    (he : starEach (e :: es) X.env = (false, eval e X.env) :: starEach es X.env := by rfl)
    (hp : (backTo pos (starEach es X.env)).any (·.1) = false := by rfl) :
    PE X (.Call (.Name x p) (e :: es) [] pos) (tCallX sp E t) := by
  obtain ⟨f, fd, ps, F, hm, kp, b⟩ := c.ex
  refine ⟨fun pins s σ H Q I h => wpAny_Call_Name_kw (ld_glob I gl hm (PySem.W.callWith_K (h₀ := X.base) I.ok.mod.kin kp ?_ he hp) hd)⟩
  refine thn (ha.run pos pins s σ H _ I h) (fun us s1 z => ?_)
  obtain ⟨vs, H1, I1, rv, q⟩ := z
  refine ⟨I1.kIn, ?_⟩
  have hl : us.length = ps.length := rv.length.symm.trans (F.len _ _ _ _ q)
  have bt := b s1 us I1.kIn (by simpa using hl)
  rw [List.append_nil] at bt
  refine wpAny_call (codeAny_mono (F.go X.A X.stack s1 H1 ⟨us, []⟩ us vs Q (E σ) hg (hr.mono hk) I1.env0 bt rv q) (fun r s' hq => ?_))
  match r, hq with
  | .ok (.ret u), hq => exact I1.after hq
  | .ok .next, hq => exact False.elim hq
  | .ok .brk, hq => exact False.elim hq
  | .ok .cont, hq => exact False.elim hq
  | .error e, hq => exact hx pins σ H1 s1 e s' I1 hq
end
theorem takes_no {X : Cx} : Takes X (fun _ _ _ _ => False) := fun _ _ ⟨_, _, _, _, _, _, _, _, _, _, _, _, _, _, _, _, w⟩ => w.elim
end Gd

set_option Elab.async false
set_option linter.all false
set_option maxRecDepth 100000
set_option maxHeartbeats 4000000
/-! a heap without what is being filled -/
namespace Gd
open PySem PySem.Spec PyProof.Rows L2 Rm
section
variable {H H' : Hp}
def wo (S : List Addr) (H : Hp) : Hp := fun b => if b ∈ S then none else H b
theorem same_wo {S : List Addr} (s : Same H H') (n : ∀ M ∈ S, H M = none) : Same H (wo S H') := fun b o h => by
  unfold wo
  rw [if_neg (fun z => by rw [n b z] at h; cases h)]
  exact s b o h
theorem wo_same {S : List Addr} (s : Same H H') : Same (wo S H) (wo S H') := fun b o h => by
  unfold wo at h ⊢
  split at h
  · cases h
  · rename_i z
    rw [if_neg z]; exact s b o h
theorem wo_upd {S : List Addr} {M : Addr} {o : HO} (m : M ∈ S) : Same (wo S H) (wo S (upd H M o)) := fun b x h => by
  unfold wo at h ⊢
  split at h
  · cases h
  · rename_i z
    rw [if_neg z, upd_ne (fun e => z (by rw [e]; exact m))]; exact h
theorem wo_all {S : List Addr} : Same (wo S H) H := fun b x h => by
  unfold wo at h
  split at h
  · cases h
  · exact h
theorem wo_at {S : List Addr} {p : Addr} {o : HO} (h : H p = some o) (n : ∀ M ∈ S, p ≠ M) : wo S H p = some o := by
  unfold wo
  rw [if_neg (fun z => n p z rfl)]; exact h
theorem wo_less {S : List Addr} {M : Addr} : Same (wo (M :: S) H) (wo S H) := fun b x h => by
  unfold wo at h ⊢
  split at h
  · cases h
  · rename_i z
    rw [if_neg (fun e => z (List.mem_cons_of_mem _ e))]; exact h
theorem wo_new {S : List Addr} {p : Addr} (h : ∀ M ∈ S, ∃ o, H M = some o) (n : H p = none) : ∀ M ∈ S, p ≠ M := fun M hM e => by
  obtain ⟨o, ho⟩ := h M hM
  rw [← e, n] at ho
  cases ho
theorem wo_add {S : List Addr} {M : Addr} (s : Same H H') (n : H M = none) : Same (wo S H) (wo (M :: S) H') := fun b o h => by
  unfold wo at h ⊢
  split at h
  · cases h
  · rename_i z
    rw [if_neg (fun e => (List.mem_cons.mp e).elim (fun e => by rw [e, n] at h; cases h) z)]
    exact s b o h
theorem wo_off {r : Addr} (o : Rm.Off r H H') : Same (wo [r] H) (wo [r] H') := fun b x h => by
  unfold wo at h ⊢
  split at h
  · cases h
  · rename_i z
    rw [if_neg z]
    exact o b x h fun e => z (by rw [e]; exact List.mem_singleton.mpr rfl)
def Has (H : Hp) (S : List Addr) : Prop := ∀ X ∈ S, ∃ o, H X = some o
theorem Has.same {S : List Addr} (h : Has H S) (s : Same H H') : Has H' S := fun X hX => by
  obtain ⟨o, ho⟩ := h X hX
  exact ⟨o, s _ _ ho⟩
theorem Has.cons {S : List Addr} {M : Addr} {o : HO} (a : H M = some o) (h : Has H S) : Has H (M :: S) := fun X hX => by
  rcases List.mem_cons.mp hX with rfl | hX
  · exact ⟨o, a⟩
  · exact h X hX
theorem Has.one {M : Addr} {o : HO} (a : H M = some o) : Has H [M] := Has.cons a (fun X hX => by simp at hX)
theorem nw1 {n : Nat} (h : 2 ≤ n) : ¬ (HT.sIx n 0 none = 0 ∧ HT.sIx n n (some 1) = n) := fun z => by
  have := z.2
  rw [show (1 : Int) = ((1 : Nat) : Int) from rfl, HT.sIx_nat] at this
  omega
theorem nw2 {n : Nat} (h : 2 ≤ n) : ¬ (HT.sIx n 0 (some 1) = 0 ∧ HT.sIx n n none = n) := fun z => by
  have := z.1
  rw [show (1 : Int) = ((1 : Nat) : Int) from rfl, HT.sIx_nat] at this
  omega
theorem sfree {p : Addr} (s : Same H H') (n : H' p = none) : H p = none := by
  cases h : H p with
  | none => rfl
  | some o => rw [s _ _ h] at n; cases n
theorem log_ok {i : Int} (h : i.natAbs < 2 ^ 200) : i.natAbs.log2 < 1920 := by
  by_cases z : i.natAbs = 0
  · rw [z]; decide
  · exact (Nat.log2_lt z).mpr (Nat.lt_of_lt_of_le h (Nat.pow_le_pow_right (by decide) (by decide)))
end
end Gd

set_option Elab.async false
set_option linter.all false
set_option maxRecDepth 100000
set_option maxHeartbeats 4000000
/-! combos, and the pieces of a record -/
namespace Cb
open PySem PySem.Spec PyProof.Rows L2 Gd Rm La
structure Cmb where
  ks : List Int
  t : Int
  c : Str
structure CmbOk (many : Int) (cb : Cmb) : Prop where
  asc : cb.ks.Pairwise (· < ·)
  len : cb.ks.length = 2 ∨ cb.ks.length = 3
  key : ∀ k ∈ cb.ks, 0 ≤ k ∧ k < many
  time : 1 ≤ cb.t ∧ cb.t ≤ 10 ^ 9
  code : CodeOk cb.c
def CmbV (H : Hp) (cb : Cmb) (v : V) : Prop := ∃ a k, v = .ref a ∧ H a = some (.tup [.ref k, .int cb.t, .str cb.c]) ∧ H k = some (.tup (cb.ks.map V.int))
theorem CmbV.tk {H H' : Hp} {cb : Cmb} {v : V} (h : CmbV H cb v) (t : Tk H H') : CmbV H' cb v := by
  obtain ⟨a, k, e, h1, h2⟩ := h
  exact ⟨a, k, e, t _ _ h1, t _ _ h2⟩
/-- a list of combos -/
def Cmbs (H : Hp) (c : Addr) (cbs : List Cmb) : Prop := ∃ vs : List V, H c = some (.lst vs) ∧ vs.length = cbs.length ∧ ∀ (i : Nat) (v : V) (cb : Cmb), vs[i]? = some v → cbs[i]? = some cb → CmbV H cb v
theorem Cmbs.same {H H' : Hp} {c : Addr} {cbs : List Cmb} (h : Cmbs H c cbs) (s : Same H H') : Cmbs H' c cbs := by
  obtain ⟨vs, a, b, d⟩ := h
  exact ⟨vs, s _ _ a, b, fun i v cb x y => (d i v cb x y).tk (Tk.of s)⟩
theorem Cmbs.go {H H' : Hp} {c : Addr} {cbs : List Cmb} (h : Cmbs H c cbs) (t : Tk H H') (e : ∀ vs, H c = some (.lst vs) → H' c = some (.lst vs)) : Cmbs H' c cbs := by
  obtain ⟨vs, a, b, d⟩ := h
  exact ⟨vs, e _ a, b, fun i v cb x y => (d i v cb x y).tk t⟩
theorem Cmbs.at_ {H : Hp} {cbs : List Cmb} {vs : List V} (h : vs.length = cbs.length ∧ ∀ (i : Nat) (v : V) (cb : Cmb), vs[i]? = some v → cbs[i]? = some cb → CmbV H cb v) {i : Nat} (hi : i < cbs.length) :
    ∃ a k, vs[i]? = some (.ref a) ∧ H a = some (.tup [.ref k, .int cbs[i].t, .str cbs[i].c]) ∧ H k = some (.tup (cbs[i].ks.map V.int)) := by
  obtain ⟨hl, hv⟩ := h
  have hi' : i < vs.length := by omega
  obtain ⟨a, k, e, h1, h2⟩ := hv i vs[i] cbs[i] (List.getElem?_eq_getElem hi') (List.getElem?_eq_getElem hi)
  exact ⟨a, k, by rw [List.getElem?_eq_getElem hi', e], h1, h2⟩
/-- combos for so many keys -/
structure CbsOk (many : Int) (cbs : List Cmb) : Prop where
  all : ∀ cb ∈ cbs, CmbOk many cb
  few : cbs.length ≤ 6
  apart : (cbs.map Cmb.ks).Nodup
theorem CbsOk.nil (many : Int) : CbsOk many [] := ⟨fun cb h => by simp at h, by decide, List.nodup_nil⟩
def ksD (ks : List Int) : PyData := .tuple (ks.map PyData.int)
def cmbD (cb : Cmb) : PyData := .tuple [ksD cb.ks, .int cb.t, .str cb.c]
def cmbsD (cbs : List Cmb) : PyData := .list (cbs.map cmbD)
theorem CmbV.dp {K : PySem.W.Frag} {H : Hp} {cb : Cmb} {v : V} (h : CmbV H cb v) : Dp K H v (cmbD cb) := by
  obtain ⟨a, k, rfl, h1, h2⟩ := h
  exact .tup (SqT.of h1) (.cons (.tup (SqT.of h2) (dpInts _)) (.cons (.int _) (.cons (.str _) .nil)))
theorem dpAll_idx {α : Type} {K : PySem.W.Frag} {H : Hp} {g : α → PyData} {R : α → V → Prop} (hg : ∀ x v, R x v → Dp K H v (g x)) : ∀ (vs : List V) (xs : List α), vs.length = xs.length → (∀ (i : Nat) (v : V) (x : α), vs[i]? = some v → xs[i]? = some x → R x v) → DpAll K H vs (xs.map g)
  | [], [], _, _ => .nil
  | [], _ :: _, h, _ => by simp at h
  | _ :: _, [], h, _ => by simp at h
  | v :: vs, x :: xs, h, f => .cons (hg x v (f 0 v x rfl rfl)) (dpAll_idx hg vs xs (by simpa using h) fun i v x a b => f (i + 1) v x (by simpa using a) (by simpa using b))
theorem Cmbs.dp {K : PySem.W.Frag} {H : Hp} {c : Addr} {cbs : List Cmb} (h : Cmbs H c cbs) : Dp K H (.ref c) (cmbsD cbs) := by
  obtain ⟨vs, a, b, d⟩ := h
  exact .lst (SqL.of a) (dpAll_idx (R := CmbV H) (fun x v h => h.dp) vs cbs b d)
theorem fit_cmb {many : Int} {cb : Cmb} (hm : many ≤ 1000) (h : CmbOk many cb) : Fit 4000 2 (cmbD cb) := by
  have hk : Fit 1000 1 (ksD cb.ks) := by
    refine Fit.mono (fit_tup (L := 210) (n := 0) fun d hd => ?_) (by rw [List.length_map]; have := h.len; omega) (Nat.le_refl _)
    obtain ⟨v, hv, rfl⟩ := List.mem_map.mp hd
    have := h.key v hv
    exact fit_int (by omega)
  have ht := h.time
  refine Fit.mono (fit_tup (L := 1000) (n := 1) fun d hd => ?_) (by show 3 * 1002 + 3 ≤ 4000; decide) (Nat.le_refl _)
  simp only [List.mem_cons, List.mem_nil_iff, or_false] at hd
  rcases hd with rfl | rfl | rfl
  · exact hk
  · exact Fit.mono (fit_int (by omega)) (by decide) (by decide)
  · exact Fit.mono (fit_code h.code) (by decide) (by decide)
theorem fit_cmbs {many : Int} {cbs : List Cmb} (hm : many ≤ 1000) (h : CbsOk many cbs) : Fit 40000 3 (cmbsD cbs) := by
  refine Fit.mono (fit_list (L := 4000) (n := 2) fun d hd => ?_) (by rw [List.length_map]; have := h.few; omega) (Nat.le_refl _)
  obtain ⟨cb, hc, rfl⟩ := List.mem_map.mp hd
  exact fit_cmb hm (h.all cb hc)
theorem lay_cmb (cb : Cmb) (hc : CodeOk cb.c) : PyData.canLay0 (cmbD cb) = true ∧ PyData.depth (cmbD cb) = 2 := by
  obtain ⟨a, b⟩ := lay_ints cb.ks
  refine ⟨?_, ?_⟩
  · show (PyData.canLayAll0 (cb.ks.map PyData.int) && (PyData.canLay0 (.int cb.t) && (PyData.canLay0 (.str cb.c) && true))) = true
    have hs : PyData.strOk cb.c = true := by
      unfold PyData.strOk
      rw [← Array.all_toList, List.all_eq_true]
      have all : ∀ y ∈ signs.cps.toList, decide (y < 0x110000) = true := by decide +kernel
      exact fun y hy => all y (hc.2.2 y hy)
    rw [a]; simp [PyData.canLay0, hs]
  · show max (PyData.depthAll (cb.ks.map PyData.int) + 1) (max 0 (max 0 0)) + 1 = 2
    rw [b]; rfl
theorem lay_cmbs : ∀ cbs : List Cmb, (∀ cb ∈ cbs, CodeOk cb.c) → PyData.canLayAll0 (cbs.map cmbD) = true ∧ PyData.depthAll (cbs.map cmbD) ≤ 2
  | [], _ => ⟨rfl, by decide⟩
  | cb :: cbs, h => by
    obtain ⟨a, b⟩ := lay_cmbs cbs fun c hc => h c (List.mem_cons_of_mem _ hc)
    obtain ⟨x, y⟩ := lay_cmb cb (h cb List.mem_cons_self)
    refine ⟨?_, ?_⟩
    · show (PyData.canLay0 (cmbD cb) && PyData.canLayAll0 (cbs.map cmbD)) = true
      rw [x, a]; rfl
    · show max (PyData.depth (cmbD cb)) (PyData.depthAll (cbs.map cmbD)) ≤ 2
      omega
theorem shaped_cmbs (cbs : List Cmb) (h : ∀ cb ∈ cbs, CodeOk cb.c) : SeqAt.shaped (cmbsD cbs) = true := by
  obtain ⟨a, b⟩ := lay_cmbs cbs h
  show (PyData.canLayAll0 (cbs.map cmbD) && decide (PyData.depthAll (cbs.map cmbD) + 1 ≤ 64)) = true
  rw [a, decide_eq_true (by omega)]; rfl
theorem shaped_ks (ks : List Int) : SeqAt.shaped (ksD ks) = true := by
  obtain ⟨a, b⟩ := lay_ints ks
  show (PyData.canLayAll0 (ks.map PyData.int) && decide (PyData.depthAll (ks.map PyData.int) + 1 ≤ 64)) = true
  rw [a, b]; rfl
theorem lay_kss : ∀ kss : List (List Int), PyData.canLayAll0 (kss.map ksD) = true ∧ PyData.depthAll (kss.map ksD) ≤ 1
  | [] => ⟨rfl, by decide⟩
  | ks :: kss => by
    obtain ⟨a, b⟩ := lay_kss kss
    obtain ⟨x, y⟩ := lay_ints ks
    refine ⟨?_, ?_⟩
    · show (PyData.canLayAll0 (ks.map PyData.int) && PyData.canLayAll0 (kss.map ksD)) = true
      rw [x, a]; rfl
    · show max (PyData.depthAll (ks.map PyData.int) + 1) (PyData.depthAll (kss.map ksD)) ≤ 1
      omega
theorem shaped_kss (kss : List (List Int)) : SeqAt.shaped (.list (kss.map ksD)) = true := by
  obtain ⟨a, b⟩ := lay_kss kss
  show (PyData.canLayAll0 (kss.map ksD) && decide (PyData.depthAll (kss.map ksD) + 1 ≤ 64)) = true
  rw [a, decide_eq_true (by omega)]; rfl
theorem eqv_intsA : ∀ xs ys : List Int, PyData.eqvAll (xs.map PyData.int) (ys.map PyData.int) = decide (xs = ys)
  | [], [] => rfl
  | [], _ :: _ => rfl
  | _ :: _, [] => rfl
  | o :: xs, p :: ys => by
    show (PyData.eqv (.int o) (.int p) && PyData.eqvAll (xs.map PyData.int) (ys.map PyData.int)) = _
    have e : PyData.eqv (.int o) (.int p) = decide (o = p) := by
      by_cases z : o = p
      · subst z; simp [PyData.eqv]
      · simp [PyData.eqv, z]
    rw [e, eqv_intsA xs ys]
    by_cases a : o = p <;> by_cases b : xs = ys <;> simp [a, b]
theorem eqv_intL (xs ys : List Int) : PyData.eqv (.list (xs.map PyData.int)) (.list (ys.map PyData.int)) = decide (xs = ys) := by rw [← eqv_intsA]; rfl
theorem eqv_ks (xs ys : List Int) : PyData.eqv (ksD xs) (ksD ys) = decide (xs = ys) := by rw [← eqv_intsA]; rfl
theorem any_ks (ks : List Int) (kss : List (List Int)) : ((kss.map ksD).any fun z => PyData.eqv z (ksD ks)) = decide (ks ∈ kss) := by
  induction kss with
  | nil => rfl
  | cons x kss ih =>
    rw [List.map_cons, List.any_cons, ih, eqv_ks]
    by_cases a : x = ks
    · subst a; simp
    · have a' : ¬ ks = x := fun e => a e.symm
      by_cases b : ks ∈ kss <;> simp [a, a', b]
/-! ### pieces -/
def Match (cb : Cmb) (s : Nat) (ds : List Ev) : Prop := cb.ks.length = s ∧ cb.ks.Perm ((ds.take s).map Ev.k) ∧ ∃ a b, ds[0]? = some a ∧ ds[s - 1]? = some b ∧ b.t < a.t + cb.t
open Classical in
noncomputable def fp (cbs : List Cmb) (ds : List Ev) : Nat := if ∃ cb ∈ cbs, Match cb 3 ds then 3 else if ∃ cb ∈ cbs, Match cb 2 ds then 2 else 1
theorem match_le {cb : Cmb} {s : Nat} {ds : List Ev} (h : Match cb s ds) : s ≤ ds.length := by
  have a := h.2.1.length_eq
  rw [h.1, List.length_map, List.length_take] at a
  omega
theorem fp_pos (cbs : List Cmb) (ds : List Ev) : 1 ≤ fp cbs ds := by
  unfold fp
  split
  · decide
  · split <;> decide
theorem fp_le (cbs : List Cmb) {ds : List Ev} (h : ds ≠ []) : fp cbs ds ≤ ds.length := by
  unfold fp
  split
  · rename_i q
    obtain ⟨cb, _, m⟩ := q
    exact match_le m
  · split
    · rename_i q
      obtain ⟨cb, _, m⟩ := q
      exact match_le m
    · cases ds with
      | nil => exact absurd rfl h
      | cons _ _ => rw [List.length_cons]; omega
theorem fp_three {cbs : List Cmb} {ds : List Ev} {cb : Cmb} (h : cb ∈ cbs) (m : Match cb 3 ds) : fp cbs ds = 3 := by unfold fp; rw [if_pos ⟨cb, h, m⟩]
theorem fp_two {cbs : List Cmb} {ds : List Ev} {cb : Cmb} (n : ∀ cb ∈ cbs, ¬ Match cb 3 ds) (h : cb ∈ cbs) (m : Match cb 2 ds) : fp cbs ds = 2 := by
  unfold fp
  rw [if_neg (fun ⟨c, hc, q⟩ => n c hc q), if_pos ⟨cb, h, m⟩]
theorem fp_one {cbs : List Cmb} {ds : List Ev} (n : ∀ cb ∈ cbs, ¬ Match cb 3 ds) (n2 : ∀ cb ∈ cbs, ¬ Match cb 2 ds) : fp cbs ds = 1 := by
  unfold fp
  rw [if_neg (fun ⟨c, hc, q⟩ => n c hc q), if_neg (fun ⟨c, hc, q⟩ => n2 c hc q)]
/-- the numbers from a on, below b -/
def seg (a b : Nat) : List Int := (List.range' a (b - a)).map fun k : Nat => (k : Int)
/-- the events from s on, below e -/
def prt (es : List Ev) (s e : Nat) : List Ev := (es.drop s).take (e - s)
inductive Cut (es : List Ev) (cbs : List Cmb) (e : Nat) : Nat → List (List Int) → Prop
  | nil : Cut es cbs e e []
  | cons {s : Nat} {r : List (List Int)} : s < e → Cut es cbs e (s + fp cbs (prt es s e)) r → Cut es cbs e s (seg s (s + fp cbs (prt es s e)) :: r)
/-- from s on, below e, all are downs -/
def Downs (es : List Ev) (s e : Nat) : Prop := ∀ i, s ≤ i → i < e → ∃ ev, es[i]? = some ev ∧ ev.d = true
def Stops (es : List Ev) (e : Nat) : Prop := e = es.length ∨ ∃ ev, es[e]? = some ev ∧ ev.d = false
inductive Due (es : List Ev) (cbs : List Cmb) : Nat → List (List Int) → Prop
  | fin {s : Nat} : es.length ≤ s → Due es cbs s []
  | up {s : Nat} {ev : Ev} {r : List (List Int)} : es[s]? = some ev → ev.d = false → Due es cbs (s + 1) r → Due es cbs s r
  | down {s e : Nat} {r : List (List Int)} : s < e → Downs es s e → Stops es e → Due es cbs (s + fp cbs (prt es s e)) r → Due es cbs s (seg s (s + fp cbs (prt es s e)) :: r)
theorem Downs.le {es : List Ev} {s e : Nat} (h : Downs es s e) (hs : s < e) : e ≤ es.length := by
  obtain ⟨ev, q, _⟩ := h (e - 1) (by omega) (by omega)
  have := (List.getElem?_eq_some_iff.mp q).1
  omega
theorem prt_len {es : List Ev} {s e : Nat} (h : e ≤ es.length) : (prt es s e).length = e - s := by
  unfold prt
  rw [List.length_take, List.length_drop]
  omega
theorem stop_uniq {es : List Ev} {s e e' : Nat} (hs : s < e) (hs' : s < e') (d : Downs es s e) (d' : Downs es s e') (t : Stops es e) (t' : Stops es e') : e = e' := by
  have l := d.le hs
  have l' := d'.le hs'
  rcases Nat.lt_trichotomy e e' with q | q | q
  · rcases t with t | ⟨ev, g, f⟩
    · omega
    · obtain ⟨ev', g', f'⟩ := d' e (by omega) q
      rw [g] at g'
      cases g'
      rw [f] at f'; cases f'
  · exact q
  · rcases t' with t | ⟨ev, g, f⟩
    · omega
    · obtain ⟨ev', g', f'⟩ := d e' (by omega) q
      rw [g] at g'
      cases g'
      rw [f] at f'; cases f'
theorem Due.uniq {es : List Ev} {cbs : List Cmb} {s : Nat} {r : List (List Int)} (h : Due es cbs s r) : ∀ {r' : List (List Int)}, Due es cbs s r' → r = r' := by
  induction h with
  | fin hl =>
    intro r' h'
    cases h' with
    | fin _ => rfl
    | up g _ _ => have := (List.getElem?_eq_some_iff.mp g).1; omega
    | down hs d _ _ => have := d.le hs; omega
  | up g f _ ih =>
    intro r' h'
    cases h' with
    | fin hl => have := (List.getElem?_eq_some_iff.mp g).1; omega
    | up g' f' h' => exact ih h'
    | down hs d _ _ =>
      obtain ⟨ev', g', f'⟩ := d _ (Nat.le_refl _) hs
      rw [g] at g'
      cases g'
      rw [f] at f'; cases f'
  | down hs d t _ ih =>
    intro r' h'
    cases h' with
    | fin hl => have := d.le hs; omega
    | up g f h' =>
      obtain ⟨ev', g', f'⟩ := d _ (Nat.le_refl _) hs
      rw [g] at g'
      cases g'
      rw [f] at f'; cases f'
    | down hs' d' t' h' =>
      have e := stop_uniq hs hs' d d' t t'
      subst e
      rw [ih h']
theorem cut_due {es : List Ev} {cbs : List Cmb} {e : Nat} (t : Stops es e) {r : List (List Int)} (hr : Due es cbs e r) {s : Nat} {r1 : List (List Int)} (h : Cut es cbs e s r1) : Downs es s e → s ≤ e → Due es cbs s (r1 ++ r) := by
  induction h with
  | nil => intro _ _; exact hr
  | @cons s r1 hs _ ih =>
    intro d _
    have hl := prt_len (s := s) (d.le hs)
    have ne : prt es s e ≠ [] := fun z => by rw [z] at hl; simp at hl; omega
    have f := fp_le cbs ne
    rw [hl] at f
    exact Due.down hs d t (ih (fun i a b => d i (by omega) b) (by omega))
end Cb

set_option Elab.async false
set_option linter.all false
set_option maxRecDepth 100000
set_option maxHeartbeats 4000000
namespace Tx
open PySem PySem.Spec PyProof.Rows L2 Gd Rm La

/-! ### signs and numbers -/
theorem empty_app (x : Str) : Str.empty ++ x = x := TL.ext_tl (by rw [TL.tl_append]; rfl)
def numS (i : Int) : Str := Str.ofString (toString i)
theorem numS_tl {i : Int} (h : 0 ≤ i) : TL.tl (numS i) = TL.numL i.toNat := by
  have e : i = ((i.toNat : Nat) : Int) := by omega
  unfold numS
  rw [e]
  exact TL.tl_num _
theorem numL_head : ∀ n : Nat, 1 ≤ n → ∃ c r, TL.numL n = c :: r ∧ c ≠ 48 := by
  intro n
  induction n using Nat.strongRecOn with
  | _ n ih =>
    intro h
    by_cases z : n < 10
    · exact ⟨48 + n, [], TL.numL_lt z, by omega⟩
    · obtain ⟨c, r, e, hc⟩ := ih (n / 10) (by omega) (by omega)
      refine ⟨c, r ++ [48 + n % 10], ?_, hc⟩
      rw [TL.numL_step (by omega), e]
      rfl
theorem numL_low {n c : Nat} (h : c ∈ TL.numL n) : 48 ≤ c ∧ c ≤ 57 := TL.numL_digits n c h
theorem numS_len {i : Int} (h0 : 0 ≤ i) (h : i ≤ 1000000000) : (numS i).length ≤ 10 := by
  rw [TL.len_tl, numS_tl h0]
  refine TL.numL_len (by decide) ?_
  have : (10 : Nat) ^ 10 = 10000000000 := by decide
  omega
theorem numS_int {i : Int} (h0 : 0 ≤ i) (h : i ≤ 1000000000) : intText? (numS i) = some i := by
  have e : i = ((i.toNat : Nat) : Int) := by omega
  have l := numS_len h0 h
  rw [TL.len_tl, numS_tl h0] at l
  have := TL.int_num (n := i.toNat) (by omega)
  unfold numS
  rw [e]
  exact this
def sgn (w : Str) : Str := if w = ("layer" : String) then "@" else if w = ("lock" : String) then "!" else "^"
def rsg (r : Str) : Str := if r = ("time" : String) then "t" else if r = ("other" : String) then "o" else "w"
theorem signs_cases : ∀ c ∈ signs.cps.toList, (48 ≤ c ∧ c ≤ 57) ∨ (97 ≤ c ∧ c ≤ 122) := by decide +kernel
theorem code_low {c : Str} (h : CodeOk c) : ∀ x ∈ TL.tl c, (48 ≤ x ∧ x ≤ 57) ∨ (97 ≤ x ∧ x ≤ 122) := fun x hx => signs_cases x (h.2.2 x hx)
theorem code_len {c : Str} (h : CodeOk c) : c.length ≤ 8 := h.2.1
theorem sgn_tl {w : Str} (h : w ∈ layWords) : ∃ c, TL.tl (sgn w) = [c] ∧ (c = 64 ∨ c = 33 ∨ c = 94) ∧ sgn w = ⟨#[c]⟩ := by
  unfold layWords at h
  simp only [List.mem_cons, List.mem_nil_iff, or_false] at h
  rcases h with rfl | rfl | rfl
  · exact ⟨64, by decide +kernel, .inl rfl, by decide +kernel⟩
  · exact ⟨33, by decide +kernel, .inr (.inl rfl), by decide +kernel⟩
  · exact ⟨94, by decide +kernel, .inr (.inr rfl), by decide +kernel⟩
theorem rsg_tl {r : Str} (h : r ∈ rules) : ∃ c, TL.tl (rsg r) = [c] ∧ 97 ≤ c ∧ c ≤ 122 ∧ rsg r = ⟨#[c]⟩ := by
  unfold rules at h
  simp only [List.mem_cons, List.mem_nil_iff, or_false] at h
  rcases h with rfl | rfl | rfl
  · exact ⟨116, by decide +kernel, by decide, by decide, by decide +kernel⟩
  · exact ⟨111, by decide +kernel, by decide, by decide, by decide +kernel⟩
  · exact ⟨119, by decide +kernel, by decide, by decide, by decide +kernel⟩
/-- the word of an action -/
def wtx : Actn → Str
  | .none => "."
  | .thr => "-"
  | .code c => c
  | .lay w j => sgn w ++ numS j
  | .dualC c d t r => c ++ "/" ++ d ++ ":" ++ numS t ++ rsg r
  | .dualL c j t r => c ++ "/" ++ (sgn "layer" ++ numS j) ++ ":" ++ numS t ++ rsg r
theorem tl_s1 : TL.tl (("/" : String) : Str) = [47] := by decide +kernel
theorem tl_s2 : TL.tl (((":" : String)) : Str) = [58] := by decide +kernel
theorem tl_s3 : TL.tl (((" " : String)) : Str) = [32] := by decide +kernel
theorem tl_s4 : TL.tl (((  "\n" : String)) : Str) = [10] := by decide +kernel
theorem lay_in : (("layer" : String) : Str) ∈ layWords := by decide +kernel
theorem low33 {n i : Int} {x : Actn} (h : ActOk n i x) : ∀ c ∈ TL.tl (wtx x), 33 ≤ c := by
  have code : ∀ {c : Str}, CodeOk c → ∀ x ∈ TL.tl c, 33 ≤ x := fun hc x hx => by
    rcases code_low hc x hx with z | z <;> omega
  have num : ∀ {j : Int}, 0 ≤ j → ∀ x ∈ TL.tl (numS j), 33 ≤ x := fun hj x hx => by
    rw [numS_tl hj] at hx
    have := numL_low hx
    omega
  cases x with
  | none => decide +kernel
  | thr => decide +kernel
  | code c => exact code h
  | lay w j =>
    obtain ⟨h1, h2, h3⟩ := h
    intro c hc
    obtain ⟨d, e, hd, _⟩ := sgn_tl h1
    rw [wtx, TL.tl_append, e] at hc
    rcases List.mem_append.mp hc with z | z
    · rw [List.mem_singleton.mp z]; omega
    · exact num (by omega) c z
  | dualC c d t r =>
    obtain ⟨h1, h2, ⟨h3, h4⟩, h5⟩ := h
    obtain ⟨k, e, k1, k2, _⟩ := rsg_tl h5
    intro x hx
    simp only [wtx, TL.tl_append, tl_s1, tl_s2, e, List.mem_append, List.mem_singleton] at hx
    rcases hx with ((((z | z) | z) | z) | z) | z
    · exact code h1 x z
    · omega
    · exact code h2 x z
    · omega
    · exact num (by omega) x z
    · omega
  | dualL c j t r =>
    obtain ⟨h1, ⟨h2, h2'⟩, ⟨h3, h4⟩, h5⟩ := h
    obtain ⟨k, e, k1, k2, _⟩ := rsg_tl h5
    obtain ⟨g, eg, hg, _⟩ := sgn_tl lay_in
    intro x hx
    simp only [wtx, TL.tl_append, tl_s1, tl_s2, e, eg, List.mem_append, List.mem_singleton] at hx
    rcases hx with ((((z | z) | z) | z) | z) | z
    · exact code h1 x z
    · omega
    · rcases z with z | z
      · omega
      · exact num (by omega) x z
    · omega
    · exact num (by omega) x z
    · omega
theorem len_app (x y : Str) : (x ++ y).length = x.length + y.length := by
  rw [TL.len_tl, TL.tl_append, List.length_append, ← TL.len_tl, ← TL.len_tl]
theorem sgn_len {w : Str} (h : w ∈ layWords) : (sgn w).length = 1 := by
  obtain ⟨c, e, _⟩ := sgn_tl h
  rw [TL.len_tl, e]; rfl
theorem rsg_len {r : Str} (h : r ∈ rules) : (rsg r).length = 1 := by
  obtain ⟨c, e, _⟩ := rsg_tl h
  rw [TL.len_tl, e]; rfl
theorem wtx_len {n i : Int} {x : Actn} (h : ActOk n i x) (hn : n ≤ 1000) : (wtx x).length ≤ 40 := by
  have l1 : ((("/" : String) : Str)).length = 1 := by rw [TL.len_tl, tl_s1]; rfl
  have l2 : (((":" : String) : Str)).length = 1 := by rw [TL.len_tl, tl_s2]; rfl
  cases x with
  | none => decide +kernel
  | thr => decide +kernel
  | code c => have := code_len h; show c.length ≤ 40; omega
  | lay w j =>
    obtain ⟨h1, h2, h3⟩ := h
    have := numS_len (i := j) (by omega) (by omega)
    rw [wtx, len_app, sgn_len h1]; omega
  | dualC c d t r =>
    obtain ⟨h1, h2, ⟨h3, h4⟩, h5⟩ := h
    have a1 := numS_len (i := t) (by omega) (by omega)
    have a2 := code_len h1
    have a3 := code_len h2
    simp only [wtx, len_app, l1, l2, rsg_len h5]; omega
  | dualL c j t r =>
    obtain ⟨h1, ⟨h2, h2'⟩, ⟨h3, h4⟩, h5⟩ := h
    have a1 := numS_len (i := t) (by omega) (by omega)
    have a2 := code_len h1
    have a3 := numS_len (i := j) (by omega) (by omega)
    simp only [wtx, len_app, l1, l2, rsg_len h5, sgn_len lay_in]; omega

/-! ### joined, split -/
theorem joinL_len (S : List Nat) : ∀ ps : List (List Nat), (TL.joinL S ps).length ≤ (ps.map (·.length)).sum + ps.length * S.length
  | [] => Nat.zero_le _
  | [p] => by simp [TL.joinL]
  | p :: q :: r => by
    have ih := joinL_len S (q :: r)
    simp only [TL.joinL, List.length_append, List.map_cons, List.sum_cons, List.length_cons, Nat.add_mul] at ih ⊢
    omega
theorem joinL_mem (S : List Nat) (c : Nat) : ∀ ps : List (List Nat), c ∈ TL.joinL S ps → c ∈ S ∨ ∃ p ∈ ps, c ∈ p
  | [], h => by cases h
  | [p], h => .inr ⟨p, List.mem_singleton.mpr rfl, h⟩
  | p :: q :: r, h => by
    simp only [TL.joinL, List.mem_append] at h
    rcases h with z | z | z
    · exact .inr ⟨p, List.mem_cons_self .., z⟩
    · exact .inl z
    · rcases joinL_mem S c (q :: r) z with y | ⟨p', a, b⟩
      · exact .inl y
      · exact .inr ⟨p', List.mem_cons_of_mem _ a, b⟩
theorem join_tl (y : Str) (ps : List Str) : TL.tl (Txt.join y ps) = TL.joinL (TL.tl y) (ps.map TL.tl) := by rw [TL.join_eq, TL.tl_join]
theorem sum_le {k : Nat} : ∀ {ps : List Str}, (∀ p ∈ ps, p.length ≤ k) → (ps.map (·.length)).sum ≤ ps.length * k
  | [], _ => Nat.zero_le _
  | p :: r, h => by
    have ih := sum_le (fun q hq => h q (List.mem_cons_of_mem _ hq))
    have := h p (List.mem_cons_self ..)
    simp only [List.map_cons, List.sum_cons, List.length_cons, Nat.add_mul]
    omega
theorem join_len {y : Str} {ps : List Str} {k : Nat} (h : ∀ p ∈ ps, p.length ≤ k) (hy : y.length = 1) : (Txt.join y ps).length ≤ ps.length * (k + 1) := by
  rw [TL.len_tl, join_tl]
  have a := joinL_len (TL.tl y) (ps.map TL.tl)
  have b := sum_le h
  rw [List.length_map, ← TL.len_tl, hy, List.map_map] at a
  have e : (ps.map ((fun x : List Nat => x.length) ∘ TL.tl)) = ps.map (·.length) := List.map_congr_left fun p _ => (TL.len_tl p).symm
  rw [e] at a
  rw [Nat.mul_add]
  omega
def rowT (xs : List Actn) : Str := Txt.join ((" " : String) : Str) (xs.map wtx)
def layT (L : List (List Actn)) : Str := Txt.join (("\n" : String) : Str) (L.map rowT)
theorem sp_len : ((" " : String) : Str).length = 1 := by rw [TL.len_tl, tl_s3]; rfl
theorem nl_len : (("\n" : String) : Str).length = 1 := by rw [TL.len_tl, tl_s4]; rfl
def RowsOk (n : Int) (xs : List Actn) : Prop := xs ≠ [] ∧ xs.length ≤ 16 ∧ ∀ x ∈ xs, ∃ i, ActOk n i x
theorem words_len {n : Int} {xs : List Actn} (h : RowsOk n xs) (hn : n ≤ 1000) : ∀ p ∈ xs.map wtx, p.length ≤ 40 := fun p hp => by
  obtain ⟨x, hx, rfl⟩ := List.mem_map.mp hp
  obtain ⟨i, hi⟩ := h.2.2 x hx
  exact wtx_len hi hn
theorem rowT_len {n : Int} {xs : List Actn} (h : RowsOk n xs) (hn : n ≤ 1000) : (rowT xs).length ≤ 700 := by
  have a := join_len (words_len h hn) sp_len
  have := h.2.1
  rw [List.length_map] at a
  unfold rowT
  omega
theorem split_row {n : Int} {xs : List Actn} (h : RowsOk n xs) : Txt.split (rowT xs) ((" " : String) : Str) = xs.map wtx :=
  TL.split_join tl_s3 (by decide +kernel) (fun z => h.1 (List.map_eq_nil_iff.mp z)) fun p hp hm => by
    obtain ⟨x, hx, rfl⟩ := List.mem_map.mp hp
    obtain ⟨i, hi⟩ := h.2.2 x hx
    have := low33 hi 32 hm
    omega
theorem split_lay {n : Int} {L : List (List Actn)} (hL : L ≠ []) (h : ∀ xs ∈ L, RowsOk n xs) : Txt.split (layT L) (("\n" : String) : Str) = L.map rowT :=
  TL.split_join tl_s4 (by decide +kernel) (fun z => hL (List.map_eq_nil_iff.mp z)) fun p hp hm => by
    obtain ⟨xs, hx, rfl⟩ := List.mem_map.mp hp
    unfold rowT at hm
    rw [join_tl, tl_s3] at hm
    rcases joinL_mem _ _ _ hm with z | ⟨q, hq, z⟩
    · exact absurd (List.mem_singleton.mp z) (by decide)
    · rw [List.map_map] at hq
      obtain ⟨x, hx', rfl⟩ := List.mem_map.mp hq
      obtain ⟨i, hi⟩ := (h xs hx).2.2 x hx'
      have := low33 hi 10 z
      omega
theorem layT_len {n : Int} {L : List (List Actn)} (h6 : L.length ≤ 6) (h : ∀ xs ∈ L, RowsOk n xs) (hn : n ≤ 1000) : (layT L).length ≤ 5000 := by
  have a := join_len (y := (("\n" : String) : Str)) (ps := L.map rowT) (k := 700) (fun p hp => by
    obtain ⟨xs, hx, rfl⟩ := List.mem_map.mp hp
    exact rowT_len (h xs hx) hn) nl_len
  rw [List.length_map] at a
  unfold layT
  omega

/-! ### pieces of texts -/
theorem cut_last (a : Str) (c : Nat) : cutS (a ++ ⟨#[c]⟩) none (some (-1)) = a := by
  refine TL.ext_tl ?_
  unfold cutS
  rw [TL.tl_mk]
  have hl : (a ++ (⟨#[c]⟩ : Str)).length = a.length + 1 := by rw [len_app]; rfl
  rw [hl]
  have e1 : HT.sIx (a.length + 1) 0 none = 0 := rfl
  have e2 : HT.sIx (a.length + 1) (a.length + 1) (some (-1)) = a.length := by
    show (if (-1 : Int) < 0 then ((-1 : Int) + ((a.length + 1 : Nat) : Int)).toNat else min ((-1 : Int).toNat) (a.length + 1)) = _
    rw [if_pos (by decide)]
    omega
  rw [e1, e2, List.drop_zero, Nat.sub_zero]
  show ((TL.tl (a ++ (⟨#[c]⟩ : Str))).take a.length) = _
  rw [TL.tl_append, TL.len_tl, List.take_left]
theorem cut_end (a : Str) (c : Nat) : cutS (a ++ ⟨#[c]⟩) (some (-1)) none = ⟨#[c]⟩ := by
  refine TL.ext_tl ?_
  unfold cutS
  rw [TL.tl_mk]
  have hl : (a ++ (⟨#[c]⟩ : Str)).length = a.length + 1 := by rw [len_app]; rfl
  rw [hl]
  have e1 : HT.sIx (a.length + 1) (a.length + 1) none = a.length + 1 := rfl
  have e2 : HT.sIx (a.length + 1) 0 (some (-1)) = a.length := by
    show (if (-1 : Int) < 0 then ((-1 : Int) + ((a.length + 1 : Nat) : Int)).toNat else min ((-1 : Int).toNat) (a.length + 1)) = _
    rw [if_pos (by decide)]
    omega
  rw [e1, e2]
  show (((TL.tl (a ++ (⟨#[c]⟩ : Str))).drop a.length).take _) = _
  rw [TL.tl_append, TL.len_tl, List.drop_left, Nat.add_sub_cancel_left]
  rfl
theorem cut_head (a : Str) (c : Nat) : cutS (⟨#[c]⟩ ++ a) none (some 1) = ⟨#[c]⟩ := by
  refine TL.ext_tl ?_
  unfold cutS
  rw [TL.tl_mk]
  have hl : ((⟨#[c]⟩ : Str) ++ a).length = a.length + 1 := by rw [len_app, Nat.add_comm]; rfl
  rw [hl]
  have e1 : HT.sIx (a.length + 1) 0 none = 0 := rfl
  have e2 : HT.sIx (a.length + 1) (a.length + 1) (some 1) = 1 := by
    show (if (1 : Int) < 0 then ((1 : Int) + ((a.length + 1 : Nat) : Int)).toNat else min ((1 : Int).toNat) (a.length + 1)) = _
    rw [if_neg (by decide)]
    show min 1 (a.length + 1) = 1
    omega
  rw [e1, e2, List.drop_zero]
  show ((TL.tl ((⟨#[c]⟩ : Str) ++ a)).take 1) = _
  rw [TL.tl_append]
  rfl
theorem cut_tail (a : Str) (c : Nat) : cutS (⟨#[c]⟩ ++ a) (some 1) none = a := by
  refine TL.ext_tl ?_
  unfold cutS
  rw [TL.tl_mk]
  have hl : ((⟨#[c]⟩ : Str) ++ a).length = a.length + 1 := by rw [len_app, Nat.add_comm]; rfl
  rw [hl]
  have e1 : HT.sIx (a.length + 1) (a.length + 1) none = a.length + 1 := rfl
  have e2 : HT.sIx (a.length + 1) 0 (some 1) = 1 := by
    show (if (1 : Int) < 0 then ((1 : Int) + ((a.length + 1 : Nat) : Int)).toNat else min ((1 : Int).toNat) (a.length + 1)) = _
    rw [if_neg (by decide)]
    show min 1 (a.length + 1) = 1
    omega
  rw [e1, e2]
  show (((TL.tl ((⟨#[c]⟩ : Str) ++ a)).drop 1).take _) = _
  rw [TL.tl_append]
  show ((TL.tl a).take (a.length + 1 - 1)) = _
  rw [Nat.add_sub_cancel, TL.len_tl, List.take_length]
/-- the text of a hold -/
def HoldT (h : Str) : Prop := 47 ∉ TL.tl h ∧ 58 ∉ TL.tl h ∧ h.length ≤ 20
theorem hold_code {d : Str} (h : CodeOk d) : HoldT d := by
  refine ⟨fun z => ?_, fun z => ?_, by have := code_len h; omega⟩
  · rcases code_low h _ z with q | q <;> omega
  · rcases code_low h _ z with q | q <;> omega
theorem hold_lay {j : Int} (h : 1 ≤ j) (h2 : j ≤ 1000000000) : HoldT (sgn "layer" ++ numS j) := by
  obtain ⟨g, eg, hg, _⟩ := sgn_tl lay_in
  refine ⟨fun z => ?_, fun z => ?_, ?_⟩
  · rw [TL.tl_append, eg] at z
    rcases List.mem_append.mp z with q | q
    · have := List.mem_singleton.mp q; omega
    · rw [numS_tl (by omega)] at q
      have := numL_low q; omega
  · rw [TL.tl_append, eg] at z
    rcases List.mem_append.mp z with q | q
    · have := List.mem_singleton.mp q; omega
    · rw [numS_tl (by omega)] at q
      have := numL_low q; omega
  · have := numS_len (i := j) (by omega) h2
    rw [len_app, sgn_len lay_in]; omega
theorem part1 {c h : Str} {t : Int} {r : Str} (hc : CodeOk c) : Txt.partition (c ++ "/" ++ h ++ ":" ++ numS t ++ rsg r) (("/" : String) : Str) = (c, (("/" : String) : Str), h ++ ":" ++ (numS t ++ rsg r)) := by
  have e : c ++ "/" ++ h ++ ":" ++ numS t ++ rsg r = c ++ (("/" : String) : Str) ++ (h ++ ":" ++ (numS t ++ rsg r)) := TL.ext_tl (by simp only [TL.tl_append, List.append_assoc])
  rw [e]
  exact TL.partition_app tl_s1 (hold_code hc).1
theorem part2 {h : Str} {t : Int} {r : Str} (hh : HoldT h) : Txt.partition (h ++ ":" ++ (numS t ++ rsg r)) ((":" : String) : Str) = (h, ((":" : String) : Str), numS t ++ rsg r) :=
  TL.partition_app tl_s2 hh.2.1
theorem no_slash_code {c : Str} (h : CodeOk c) : 47 ∉ TL.tl c := (hold_code h).1
theorem no_slash_lay {w : Str} {j : Int} (h : w ∈ layWords) (hj : 1 ≤ j) : 47 ∉ TL.tl (sgn w ++ numS j) := fun z => by
  obtain ⟨g, eg, hg, _⟩ := sgn_tl h
  rw [TL.tl_append, eg] at z
  rcases List.mem_append.mp z with q | q
  · have := List.mem_singleton.mp q; omega
  · rw [numS_tl (by omega)] at q
    have := numL_low q; omega
theorem slash_in {c h : Str} {t : Int} {r : Str} : 47 ∈ TL.tl (c ++ "/" ++ h ++ ":" ++ numS t ++ rsg r) := by
  simp only [TL.tl_append, tl_s1, List.mem_append, List.mem_singleton]
  exact .inl (.inl (.inl (.inl (.inr trivial))))

/-! ### rules: index of a sign, of a word -/
section
variable {X : Cx}
def rSIndex : V → List V → Hp → VK → Prop := fun x xs H Q => ∃ (a b : Str) (i : Nat) (rest : List Nat), x = .str a ∧ xs = [.str b] ∧ Builtin.Str.occurrences a b 0 a.length 1 = i :: rest ∧ Q (.int (i : Nat)) H
theorem mt_sindex : MtR X "str.index" rSIndex := by
  intro pins s σ H x xs v us Q I rx rs h
  obtain ⟨a, b, i, rest, rfl, rfl, ho, q⟩ := h
  obtain ⟨t, rfl⟩ := rx
  cases rs with
  | cons r1 rs =>
    cases rs
    obtain ⟨u, rfl⟩ := r1
    exact PySem.SC.index ho ⟨.int (i : Nat), H, I.tok _, ⟨_, rfl⟩, q⟩
def rTIndex (K : PySem.W.Frag) : V → List V → Hp → VK → Prop := fun x xs H Q => ∃ (a : Addr) (ys : List Str) (y : Str), x = .ref a ∧ xs = [.str y] ∧ SqT K H a (ys.map V.str) ∧ y ∈ ys ∧ Q (.int (ys.idxOf y : Nat)) H
theorem mt_tindex : MtR X "tuple.index" (rTIndex X.K) := by
  intro pins s σ H x xs v us Q I rx rs h
  obtain ⟨a, ys, y, rfl, rfl, hs, hy, q⟩ := h
  cases rx
  cases rs with
  | cons r1 rs =>
    cases rs
    obtain ⟨u, rfl⟩ := r1
    obtain ⟨its, r, ht, _⟩ := I.tuple hs
    exact PySem.SeqAt.tuple_index_strs ht (L2.strs_of_vals r) hy ⟨.int _, H, I.tok _, ⟨_, rfl⟩, q⟩
theorem call_strB : CallR X (.type "str") (fun xs H Q => (∃ a, xs = [.str a] ∧ Q (.str a) H) ∨ (∃ i : Int, xs = [.int i] ∧ i.natAbs.log2 < 1920 ∧ Q (.str (numS i)) H)) := by
  intro pins s σ H xs us Q I r h
  rcases h with h | ⟨i, e, a, q⟩
  · exact SkE.call_str_str pins s σ H xs us Q I r h
  · exact call_str_int pins s σ H xs us Q I r ⟨i, e, a, q⟩
end
end Tx
namespace Tx
open PySem PySem.Spec PyProof.Rows L2 Gd Rm La
def rJoin (K : PySem.W.Frag) : V → List V → Hp → VK → Prop := fun x xs H Q => ∃ a p, ∃ ys : List Str, x = .str a ∧ xs = [.ref p] ∧ (SqL K H p (ys.map V.str) ∨ SqT K H p (ys.map V.str)) ∧
    (ys.map (·.length)).sum + ys.length * a.length ≤ 16777216 ∧ Q (.str (Txt.join a ys)) H
end Tx

set_option Elab.async false
set_option linter.all false
set_option maxRecDepth 100000
set_option maxHeartbeats 4000000
/-! the law's own call, the modules' dict told -/
namespace Gd
open PySem PySem.Spec PyProof.Rows L2
section
variable {P : Program} {w : World} {K : PySem.W.Frag} {mg mb : Str → Option Value} {k : Nat} {fa a : Addr} {fd : FuncData} {x : Str} {sp : Sp} {s₁ : Shared} {vs : List Value} {ns : List Int}
/-- the heap as the caller has it, H what is tracked of it: at most the script -/
theorem top_runS (KX : K.In s₁.heap) (gl : s₁.heap.Ns mainGlobals mg) (bl : s₁.heap.Ns builtinsNs mb) (bb : ∀ y : Str, y ≠ "__name__" → mb y = bootBuiltins y)
    (nol : s₁.heap.NoLimit) (ng : s₁.gens = #[]) (oa : s₁.heap.get? a = some { cls := .type "list", data := .seq vs.toArray }) (hr : Room k callerA)
    (ss : SysAt s₁.heap) (F : ∀ base : Heap, K.In base → base.Ns mainGlobals mg → SysAt base → FnG P w K mg base k fa fd [x] sp)
    (bt : ∀ (s : Shared) (u : Value), BindsTo s fd ⟨[u], []⟩ [(x, u)]) {H : Hp} (only : Only H) (hok : HOk P w H s₁.heap)
    (at_a : ∀ b, H b ≠ none → b = a ∧ K.lookup a = none) (h : sp [.ref a] H (fun v _ => v = .bl true) E0) :
    codeAny (model P w) callerA (.call (.ref fa) ⟨[.ref a], []⟩)
      (fun r s' => r = .ok (.ret (.bool true)) ∧ OldK s₁.heap s'.heap ∧ s'.os = s₁.os ∧ AllBare s'.gens) s₁ := by
  have free : ∀ {b : Addr} {o : Obj}, s₁.heap.get? b = some o → (b = a → ∃ es ep, o.data = .dict es ep) → H b = none := by
    intro b o e d
    rcases Classical.em (H b = none) with z | z
    · exact z
    · obtain ⟨rfl, _⟩ := at_a b z
      obtain ⟨es, ep, hd⟩ := d rfl
      rw [oa] at e
      cases e
      cases hd
  have nsAt : ∀ {b : Addr} {m : Str → Option Value}, s₁.heap.Ns b m → (hidT s₁.heap H).Ns b m := by
    intro b m z
    obtain ⟨o, es, ep, e, d, r⟩ := z
    exact ⟨o, es, ep, hidT_get e (free e fun _ => ⟨es, ep, d⟩), d, r⟩
  have KB : K.In (hidT s₁.heap H) := by
    intro b o e
    refine hidT_get (KX b o e) ?_
    rcases Classical.em (H b = none) with z | z
    · exact z
    · obtain ⟨rfl, q⟩ := at_a b z
      rw [q] at e
      cases e
  obtain ⟨ml, l1, l2⟩ := nol
  have M : Mod K mg (hidT s₁.heap H) := ⟨KB, nsAt gl, ⟨mb, nsAt bl, bb⟩, ⟨ml, nsAt l1, l2⟩⟩
  have E : Env0 P w K mg (hidT s₁.heap H) callerA [] s₁ H := by
    refine ⟨rfl, M, fun b o e => of_hidT e, Nat.le_of_eq (hidT_size _ _), True.intro, fun b hb => ?_, hok, .of_eq ng⟩
    exact nomatch (show b ∈ ([] : List Addr) from hb)
  refine codeAny_mono ((F _ KB (nsAt gl) (by
    obtain ⟨o, es, ep, e, d⟩ := ss
    exact ⟨o, es, ep, hidT_get e (free e fun _ => ⟨es, ep, d⟩), d⟩)).go callerA [] s₁ H ⟨[.ref a], []⟩ [.ref a] [.ref a] _ rfl hr E (bt s₁ (.ref a)) (.cons rfl .nil) h) ?_
  intro r s' z
  match r, z with
  | .ok .next, z => exact False.elim z
  | .ok .brk, z => exact False.elim z
  | .ok .cont, z => exact False.elim z
  | .error _, z => exact False.elim z
  | .ok (.ret u), ⟨v, H', os, bare, un, hok', rv, q⟩ =>
    have q : v = .bl true := q
    subst q
    have ru : u = Value.bool true := rv
    subst ru
    refine ⟨rfl, OldK.of_keep fun b o e => ?_, os, bare⟩
    rcases only b with n | ⟨ob, xs, n⟩
    · exact un.keep b o e n (fun m => nomatch (show b ∈ ([] : List Addr) from m)) (fun m => nomatch m)
    · have f1 := hok b _ n
      have f2 := hok' b _ (un.frzs b ob _ n)
      have g1 : s₁.heap.get? b = some ob := f1.1
      have g2 : s'.heap.get? b = some ob := f2.1
      rw [e] at g1
      cases g1
      exact g2
theorem law_callGS (KX : K.In s₁.heap) (gl : s₁.heap.Ns mainGlobals mg) (bl : s₁.heap.Ns builtinsNs mb) (bb : ∀ y : Str, y ≠ "__name__" → mb y = bootBuiltins y)
    (nol : s₁.heap.NoLimit) (ng : s₁.gens = #[]) (oa : s₁.heap.get? a = some { cls := .type "list", data := .seq vs.toArray }) (hi : IntsAre vs ns) (hl : ns.length ≤ sizeLine) (hr : Room k callerA)
    (ss : SysAt s₁.heap) (F : ∀ base : Heap, K.In base → base.Ns mainGlobals mg → SysAt base → FnG P w K mg base k fa fd [x] sp)
    (bt : ∀ (s : Shared) (u : Value), BindsTo s fd ⟨[u], []⟩ [(x, u)])
    (hsp : ∀ H : Hp, Only H → SqL K H a (ns.map V.int) → sp [.ref a] H (fun v _ => v = .bl true) E0) :
    codeAny (model P w) callerA (.call (.ref fa) ⟨[.ref a], []⟩)
      (fun r s' => r = .ok (.ret (.bool true)) ∧ OldK s₁.heap s'.heap ∧ s'.os = s₁.os ∧ AllBare s'.gens) s₁ := by
  have rv := vals_ints hi
  have lenV := hi.length
  by_cases hk : K.lookup a = none
  · let H : Hp := fun b => if b = a then some (.frz { cls := .type "list", data := .seq vs.toArray } (.lst (ns.map V.int))) else none
    have Ha : H a = some (.frz { cls := .type "list", data := .seq vs.toArray } (.lst (ns.map V.int))) := if_pos rfl
    have Hn : ∀ {b : Addr}, b ≠ a → H b = none := fun h => if_neg h
    have only : Only H := by
      intro b
      by_cases e : b = a
      · subst e; exact .inr ⟨_, _, Ha⟩
      · exact .inl (Hn e)
    refine top_runS KX gl bl bb nol ng oa hr ss F bt (H := H) only ?_ ?_ (hsp H only (.inl (.inr ⟨_, Ha⟩)))
    · intro b u z
      by_cases e : b = a
      · subst e
        rw [Ha] at z
        cases z
        exact ⟨oa, by rw [List.length_map]; exact hl, vs, _, rv, oa⟩
      · rw [Hn e] at z; cases z
    · intro b z
      by_cases e : b = a
      · exact ⟨e, hk⟩
      · exact absurd (Hn e) z
  · obtain ⟨o, ho⟩ := Option.ne_none_iff_exists'.mp hk
    have e := KX a o ho
    rw [oa] at e
    cases e
    have only : Only (fun _ => none) := fun _ => .inl rfl
    refine top_runS KX gl bl bb nol ng oa hr ss F bt (H := fun _ => none) only (fun b u z => nomatch z) (fun b z => absurd rfl z) (hsp _ only (.inr ?_))
    exact ⟨_, vs.toArray, _, ho, rfl, rfl, rfl, by rw [List.size_toArray, lenV]; exact hl, by simpa using rv⟩
end
/-- what k_head leaves, from the promise of the law's def -/
theorem walkGS {l : PySem.W.OpenLaw} {n k : Nat} {q : Program} {loose : List Str} {XP : (Str → Option Value) → Heap → Prop} {YP : World → Heap → Prop} {d : DefRec} {K : Params → PySem.W.Frag} {sp : PySem.W.Frag → Sp} {x : Str}
    (hi0 : importsNone q = true) (hn : l.most = some n) (hn2 : n ≤ sizeLine) (hdf : d.params.defaults = []) (hr : Room k callerA)
    (hY : ∀ (w : World) (h : Heap), YP w h → (K w.params).In h)
    (F : ∀ (w : World) (mg : Str → Option Value) (fa : Addr) (h : Heap), (K w.params).In h → h.Ns mainGlobals mg → mg d.name = some (.ref fa) →
      ∃ fd : FuncData, (∀ (s : Shared) (u : Value), BindsTo s fd ⟨[u], []⟩ [(x, u)]) ∧
        ∀ base : Heap, (K w.params).In base → base.Ns mainGlobals mg → SysAt base → FnG l.prog w (K w.params) mg base k fa fd [x] (sp (K w.params)))
    (hsp : ∀ (K : PySem.W.Frag) (H : Hp) (a : Addr) (ns : List Int), ns.length ≤ n → SqL K H a (ns.map V.int) →
      sp K [.ref a] H (fun v _ => v = .bl true) E0) :
    PySem.W.WalkO q loose XP YP l.row.toRowW d [] (fun f vs => PySem.call f vs) := by
  refine Att.attach_call hn hdf ?_
  intro w s₀ s₁ mg mb fa o pm cd doc a vs ns G Y ho hd hcd hmg oa hi hlen ng
  have KX := hY w _ Y
  obtain ⟨fd, bt, hF⟩ := F w mg fa _ KX G.T.g hmg
  exact law_callGS KX G.T.g G.T.b G.T.builtins G.T.nolimit ng oa hi (Nat.le_trans hlen hn2) hr (by
    obtain ⟨mm, ⟨o, es, ep, e, d, _⟩, _⟩ := (G.T.seer hi0).mods
    exact ⟨o, es, ep, e, d⟩) hF bt (fun H _ hS => hsp _ H a ns hlen hS)
end Gd

set_option Elab.async false
set_option linter.all false
set_option maxRecDepth 100000
set_option maxHeartbeats 4000000
/-! own exceptions whose __init__ calls super().__init__(f'..') and keeps the index -/
/-! own exceptions with two fields -/
namespace PySem
namespace Oxi
open PySem.W PySem.Calls PyProof.Rows PySem.HandSPX
def jA (p1 p2 p3 : Pos) : Arguments := { posonlyargs := [], args := [{ arg := "self", annotation := none, pos := p1 }, { arg := "layer", annotation := none, pos := p2 }, { arg := "key", annotation := none, pos := p3 }], vararg := none, kwonlyargs := [], kw_defaults := [], kwarg := none, defaults := [] }
def jB (pre mid : Str) (q : Nat → Pos) : List Stmt :=
  [.Expr (.Call (.Attribute (.Call (.Name "super" (q 0)) [] [] (q 1)) "__init__" (q 2)) [.JoinedStr [.Constant (.str pre) 0 (q 3), .FormattedValue (.Name "layer" (q 4)) (-1) none (q 5), .Constant (.str mid) 0 (q 6), .FormattedValue (.Name "key" (q 7)) (-1) none (q 8)] (q 9)] [] (q 10)) (q 11),
   .Assign [.Attribute (.Name "self" (q 12)) "layer" (q 13)] (.Name "layer" (q 14)) (q 15),
   .Assign [.Attribute (.Name "self" (q 16)) "key" (q 17)] (.Name "key" (q 18)) (q 19)]
def jS : Scope := { kind := .function, names := [(PySem.Str.ofString "self", .local), (PySem.Str.ofString "layer", .local), (PySem.Str.ofString "key", .local), (PySem.Str.ofString "__class__", .free), (PySem.Str.ofString "super", .globalImplicit)], isGenerator := false, isCoroutine := false, more := [] }
/-- what the written part says of the class at C, and of its __init__, at fI -/
structure ExcTxt2 (prog : Program) (K : Frag) (x : Str) (C fI : Addr) : Prop where
  cls : ∃ nm q N bs bm sn sub ab col dd k0 k1 k2 k3 k5, K.lookup C = some (excClassObj nm q C N bs bm true sn sub ab col dd k0 k1 k2 k3 k5 "ValueError.__new__") ∧ refsVE bm = true
  sa : findIn K (.ref C) "__setattr__" = some (some (.builtin "object.__setattr__"))
  noL : findIn K (.ref C) "layer" = some none
  noK : findIn K (.ref C) "key" = some none
  iC : findIn K (.ref C) "__init__" = some (some (.ref fI))
  tC : typeIn K (.ref fI) = some (.type "function")
  kC : keepIn K (.ref C) = true
  exC : subIn K (.ref C) (.type "BaseException") = some true
  veC : subIn K (.ref C) (.type "ValueError") = some true
  ccC : mroIn K C (.ref C) = some true
  tyC : typeIn K (.ref C) = some (.type "type")
  su : ks_superIn K C C "__init__" = some (some (.builtin "ValueError.__init__"))
  any : nsIn K cStatics "thirdparty.any" = some none
  ei : excInitIn K C [.type "ValueError", .type "Exception", .type "BaseException", .type "object"] "ValueError.__new__" = true
  sup : nsIn K mainGlobals "super" = some none
  top : (prog.main.scope.names.lookup ("super" : Str)).isSome = false
  fn : ∃ (oc : Value) (od : Option Addr) (doc pm : Value) (an : Option Addr) (cda cc : Addr) (ct : Value) (osl : Array (Option Value)) (p1 p2 p3 : Pos) (pre mid qual : Str) (q : Nat → Pos),
    pre.length ≤ 1000 ∧ mid.length ≤ 1000 ∧ ((q 2).endLine == (q 10).line) = true ∧
    K.lookup fI = some ⟨oc, od, .func (ksFn "__init__" qual (jA p1 p2 p3) (jB pre mid q) jS .none .none doc pm an (.ref cda) ct cc), osl⟩ ∧ codeIn K (.ref cda) qual = true ∧
    (∃ cl cld csl, K.lookup cc = some ⟨cl, cld, .cell (some (.ref C)), csl⟩) ∧
    (∃ ccl cdd vs ccs file tf, K.lookup cda = some ⟨ccl, cdd, .fields vs, ccs⟩ ∧ vs[2]? = some (.str file tf) ∧ ((prog.main.file : Str) == file) = true)
structure InitEnd2 (h h' : Heap) (x C dx t1 : Addr) (v v2 : Value) : Prop where
  keep : ∀ b o, b ≠ x → h.get? b = some o → h'.get? b = some o
  obj : h'.get? x = some { cls := .ref C, dict := some dx, data := .fields #[.ref t1, .none, .none, .none, .bool false, .none] }
  dbig : h.objs.size ≤ dx
  dne : dx ≠ x
  ns : h'.Ns1 dx (fun y => if y = "key" then some v2 else if y = "layer" then some v else none)
section
variable {prog : Program} {w : World} {A : Around} {E : Value → Shared → Prop} {R : Result → Shared → Prop} {s : Shared} {K : Frag} {mg mb : Str → Option Value} {C fI : Addr} {xn : Str}
theorem fmt_ix {s : Shared} {v : Value} {Q : Value → Shared → Prop} (hv : Ix v) (h : ∀ (y : Str) (tk : Tok) (n : Nat), y.length ≤ 210 → Q (.str y tk) { s with toks := n }) : wpAny (model prog w) A (formatField v Str.empty) Q E s := by
  rcases hv with rfl | ⟨i, tk, rfl, hi⟩
  · exact wpAny_formatField_none (h _ _ _ (by decide +kernel))
  · have hlog : i.natAbs.log2 < 1920 := by
      have := PySem.Flt.log2_lt_of (n := i.natAbs) (k := 200) (by decide) hi
      omega
    exact wpAny_formatField_int hlog (h _ _ _ (Rm.fit_int hi).ln)
theorem ini_ok2 (T : ExcTxt2 prog K xn C fI) {x t0 : Addr} {v v2 : Value} (hv : Ix v) (hv2 : Ix v2) (X : K.In s.heap) (G : s.heap.Ns mainGlobals mg) (GN : ∀ y, nsIn K mainGlobals y = some none → mg y = none) (B : s.heap.Ns builtinsNs mb) (hB : ∀ y : Str, y ≠ "__name__" → mb y = bootBuiltins y)
    (hlim : s.heap.NoLimit) (hx : s.heap.get? x = some (excO C t0)) (hnx : K.lookup x = none) (hroom : A.depth < recursionLimit)
    (hq : ∀ h' tk dx t1, InitEnd2 s.heap h' x C dx t1 v v2 → R (.ok (.ret .none)) { s with heap := h', toks := tk }) :
    codeAny (model prog w) A (.call (.ref fI) ⟨[.ref x, v, v2], []⟩) R s := by
  obtain ⟨oc, od, doc, pm, an, cda, cc, ct, osl, p1, p2, p3, pre, mid, qual, q, hpre, hmid, hline, ho, hcd, ⟨cl, cld, csl, hcell⟩, ⟨ccl, cdd, vs, ccs, file, tf, hcda, hvs, hfile⟩⟩ := T.fn
  obtain ⟨nm, qn, N, bs, bm, sn, sub, ab, col, dd, k0, k1, k2, k3, k5, hC, hbm⟩ := T.cls
  have hcl : clsIn K C = some { name := nm, bases := bs, mro := .ref C :: bm, ns := N, qualname := qn, hasDict := true, slotNames := sn, subclasses := sub, abstract := ab, collection := col, hasDel := false } := by unfold clsIn; rw [hC] <;> rfl
  refine ks_codeAny_call_defAt (fd := ksFn "__init__" qual (jA p1 p2 p3) (jB pre mid q) jS .none .none doc pm an (.ref cda) ct cc) (body := jB pre mid q) (binds := [("self", .ref x), ("layer", v), ("key", v2)]) hroom (X _ _ ho) rfl hlim (codeRec_of X hcd) rfl (BindsTo.of_eq (by first | rfl | with_unfolding_all rfl)) (show ∀ y ∈ jS.names, y.2 ≠ .cell by decide) (fun y hy => ?_) (fun h₁ hns hk => ?_) rfl rfl rfl
  · rcases List.mem_cons.mp hy with rfl | hy
    · rfl
    · rcases List.mem_cons.mp hy with rfl | hy
      · rfl
      · rw [List.mem_singleton.mp hy]; rfl
  have X1 : K.In h₁ := X.keeps hk
  have hx1 := hk _ _ hx
  have hxL : x ≠ s.heap.objs.size := Nat.ne_of_lt (Heap.lt_size hx)
  -- the ground: without the exception
  have FG : Fr (hideAll s.heap [x]) s.heap.objs.size h₁ (fun y => [((Str.ofString "self"), Value.ref x), (Str.ofString "layer", v), (Str.ofString "key", v2)].reverse.lookup y) := ⟨hns, fun b o e => hk b o (of_hideAll _ e), Nat.le_of_eq (hideAll_size _ _)⟩
  have N0 : News (hideAll s.heap [x]) s.heap.objs.size h₁ [(x, excObj C t0 none .none)] := fun p hp => by
    rw [List.mem_singleton.mp hp]
    exact ⟨hx1, hxL, hideAll_none _ List.mem_cons_self⟩
  have XG : K.In (hideAll s.heap [x]) := fun b o e => hideAll_get _ (X b o e) (fun hm => by
    rw [List.mem_singleton.mp hm, hnx] at e
    cases e)
  show wpAt (model prog w) (A.deeper (ksEnv qual jS s.heap.objs.size fI (.ref cda) cc)) (.func (jB pre mid q) (ksEnv qual jS s.heap.objs.size fI (.ref cda) cc)) (execs (jB pre mid q) (ksEnv qual jS s.heap.objs.size fI (.ref cda) cc)) _ _ _
  refine ks_wpAt_execs_cons (ks_wpAt_Expr_any (ks_wpAt_MethodCall (pl := do return (← importBound (.Call (.Name "super" (q 0)) [] [] (q 1)) (ksEnv qual jS s.heap.objs.size fI (.ref cda) cc)).getD true) ?_ ?he))
  case he =>
    rw [arm_eval_Call]
    unfold methodCall methodCallPos
    simp only [hline, Bool.or_true, if_true]
    rfl
  -- super()
  have G1 : h₁.Ns mainGlobals mg := G.keeps hk
  have B1 : h₁.Ns builtinsNs mb := B.keeps hk
  have IA1 : InstAt h₁ x (excObj C t0 none .none) C none := ⟨hx1, rfl, rfl, trivial⟩
  obtain ⟨oD, hD1, hD2⟩ : ∃ oD, h₁.get? C = some oD ∧ ∃ cd, oD.data = .cls cd := ⟨_, X1 _ _ hC, _, rfl⟩
  obtain ⟨cdD, hD2⟩ := hD2
  refine ks_wpAt_super_base (env := ksEnv qual jS s.heap.objs.size fI (.ref cda) cc) rfl rfl (by decide) rfl (X1 _ _ ho) rfl rfl rfl (X1 _ _ hcda) rfl hvs hfile T.top ?_
  refine ks_loadName_global rfl rfl (loadGlobal_builtin (env := ksEnv qual jS s.heap.objs.size fI (.ref cda) cc) G1 (GN _ T.sup) B1 ((hB _ (by decide +kernel)).trans (by decide +kernel : bootBuiltins "super" = some (.type "super"))) ⟨rfl, ?_⟩)
  refine wpAny_loadName_free rfl rfl rfl ⟨_, X1 _ _ hcell, rfl⟩ ?_
  refine wpAny_loadName_local rfl rfl FG.ns rfl ?_
  refine ks_wpAny_isType_cls hD1 hD2 ⟨rfl, ?_⟩
  refine ks_wpAny_call_super hD1 hD2 IA1.at_ IA1.cls (fun c e => by cases e) (looks_mroIn X1 T.ccC) (fun h' e k => ?_)
  obtain ⟨F2, N2, l2⟩ := ks_newsPush (s := ⟨h₁, s.gens, s.drawn, s.toks + 2, s.os⟩) FG N0 rfl e k
  have IA2 : InstAt h' x (excObj C t0 none .none) C none := ⟨k _ _ hx1, rfl, rfl, trivial⟩
  refine kxs_method kxs_ValueError F2 XG N2 List.mem_cons_self IA2 T.any T.su T.veC (by decide) (fun u h2 F3 N3 l3 => ?_)
  refine kxs_callWith1 N3 List.mem_cons_self ?_
  refine spliced_more ?_
  refine wpAny_JoinedStr ?_
  -- after the text: any text will do
  have call : ∀ (y : Str) (tk : Tok) (n : Nat), wpAny (model prog w) (A.deeper (ksEnv qual jS s.heap.objs.size fI (.ref cda) cc)) (call (.ref u) [.str y tk]) (fun _ s' => wpAt (model prog w) (A.deeper (ksEnv qual jS s.heap.objs.size fI (.ref cda) cc)) (.func (jB pre mid q) (ksEnv qual jS s.heap.objs.size fI (.ref cda) cc)) (execs [.Assign [.Attribute (.Name "self" (q 12)) "layer" (q 13)] (.Name "layer" (q 14)) (q 15), .Assign [.Attribute (.Name "self" (q 16)) "key" (q 17)] (.Name "key" (q 18)) (q 19)] (ksEnv qual jS s.heap.objs.size fI (.ref cda) cc))
      (fun f s' => R (.ok (.ret (match f with | .ret v => v | _ => .none))) s') (fun e s' => wpAny (model prog w) (A.deeper (ksEnv qual jS s.heap.objs.size fI (.ref cda) cc)) (leaving (ksEnv qual jS s.heap.objs.size fI (.ref cda) cc) e) (fun _ s'' => R (.error e) s'') (fun e' s'' => R (.error e') s'') s') s') (fun e s' => wpAny (model prog w) (A.deeper (ksEnv qual jS s.heap.objs.size fI (.ref cda) cc)) (leaving (ksEnv qual jS s.heap.objs.size fI (.ref cda) cc) e) (fun _ s'' => R (.error e) s'') (fun e' s'' => R (.error e') s'') s') ⟨h2, s.gens, s.drawn, n, s.os⟩ := fun y tk n => by
    have U : UpdF x (excObj C t0 none .none) [(u, kxs_mw "ValueError.__init__" x), (h₁.objs.size, ks_superObj C x C), (x, excObj C t0 none .none)] (fun o' => [(u, kxs_mw "ValueError.__init__" x), (h₁.objs.size, ks_superObj C x C), (x, o')]) :=
      .tail (Nat.ne_of_gt (l3 (x, excObj C t0 none .none) (List.mem_cons_of_mem _ List.mem_cons_self))) (.tail (Nat.ne_of_gt (l2 (x, excObj C t0 none .none) List.mem_cons_self)) (.head (fun p hp => (nomatch hp))))
    refine kxs_call (s := ⟨h2, s.gens, s.drawn, n, s.os⟩) F3 XG N3 PySem.F.excBase_ValueError T.ei List.mem_cons_self U (by rw [sizeLine_eq]; show 1 ≤ _; decide) (fun t1 h3 F4 N4 l4 => ?_)
    have hx4 : h3.get? x = some (excObj C t1 none .none) := (N4 (x, excObj C t1 none .none) (List.mem_cons_of_mem _ (List.mem_cons_of_mem _ (List.mem_cons_of_mem _ List.mem_cons_self)))).1
    have X4 : K.In h3 := XG.keeps F4.keep
    refine wpAt_of_wpAny (wpAny_execs_cons (plainObj_wpAny_Assign_Attribute ?_))
    refine ldC rfl F4.ns rfl (ldC rfl F4.ns rfl ?_)
    refine set_plain X4 (ox := excObj C t1 none .none) (od := none) ⟨hx4, rfl, rfl, trivial⟩ T.sa ?_
    refine exc_osa X4 hx4 hcl (show refsVE (.ref C :: bm) = true from hbm) rfl T.noL (fun h4 tk4 dx k4 dn dne hx5 hn5 => ?_)
    have F5 := F4.ns
    have hL4 : s.heap.objs.size ≠ x := hxL.symm
    have zz : s.heap.objs.size < h3.objs.size := F4.ns.lt
    have dL : dx ≠ s.heap.objs.size := Nat.ne_of_gt (Nat.lt_of_lt_of_le zz dn)
    have ns4 : h4.Ns s.heap.objs.size (fun y => [((Str.ofString "self"), Value.ref x), (Str.ofString "layer", v), (Str.ofString "key", v2)].reverse.lookup y) := by
      obtain ⟨o, es, ep, e1, e2⟩ := F5
      exact ⟨o, es, ep, k4 _ _ hL4 e1, e2⟩
    have X5 : K.In h4 := fun b o e => by
      have hb : b ≠ x := fun z => by rw [z, hnx] at e; cases e
      exact k4 b o hb (X4 b o e)
    obtain ⟨oD, esD, epD, hoD, hdD, _⟩ := hn5.count (Within.cons "layer" v Within.nil)
    show wpAny _ _ (execs _ _) _ _ _
    refine wpAny_execs_cons (plainObj_wpAny_Assign_Attribute ?_)
    refine ldC rfl ns4 rfl (ldC rfl ns4 rfl ?_)
    refine set_plain X5 (ox := { cls := .ref C, dict := some dx, data := .fields #[.ref t1, .none, .none, .none, .bool false, .none] }) (od := some oD) ⟨hx5, rfl, rfl, hoD⟩ T.sa ?_
    refine PySem.OEX.osa_old X5 hx5 hn5 (Within.cons "layer" v Within.nil) (by decide) hcl (show refsVE (.ref C :: bm) = true from hbm) rfl T.noK (fun h5 tk5 k5 hn6 => ?_)
    show wpAny _ _ (execs _ _) _ _ _
    exact wpAny_execs_nil (hq h5 tk5 dx t1 ⟨fun b o hb e => k5 b o (fun z => by
        have hl := Heap.lt_size e
        rw [z] at hl
        exact absurd hl (Nat.not_lt.mpr (Nat.le_trans (Nat.le_of_lt zz) dn))) (k4 b o hb (F4.keep b o (hideAll_get _ e (fun hm => hb (List.mem_singleton.mp hm))))), k5 _ _ dne.symm hx5, Nat.le_of_lt (Nat.lt_of_lt_of_le zz dn), dne, hn6⟩)
  have z0 : (Str.empty ++ pre).length = pre.length := by rw [strLen_append]; exact Nat.zero_add _
  refine (show wpAny _ _ (eval (.Constant (.str pre) 0 (q 3)) _) _ _ _ from wpAny_Constant_str ⟨pre, _, rfl, by rw [z0, sizeLine_eq]; omega, ?_⟩)
  refine (show wpAny _ _ (eval (.FormattedValue (.Name "layer" (q 4)) (-1) none (q 5)) _) _ _ _ from wpAny_FormattedValue_plain (ldC rfl F3.ns rfl (fmt_ix hv fun y1 tk1 n1 l1 => ⟨y1, _, rfl, by rw [strLen_append, z0, sizeLine_eq]; omega, ?_⟩)))
  refine (show wpAny _ _ (eval (.Constant (.str mid) 0 (q 6)) _) _ _ _ from wpAny_Constant_str ⟨mid, _, rfl, by rw [strLen_append, strLen_append, z0, sizeLine_eq]; omega, ?_⟩)
  refine (show wpAny _ _ (eval (.FormattedValue (.Name "key" (q 7)) (-1) none (q 8)) _) _ _ _ from wpAny_FormattedValue_plain (ldC rfl F3.ns rfl (fmt_ix hv2 fun y2 tk2 n2 l2' => ⟨y2, _, rfl, by rw [strLen_append, strLen_append, strLen_append, z0, sizeLine_eq]; omega, ?_⟩)))
  exact ⟨by rw [strLen_append, strLen_append, strLen_append, z0, sizeLine_eq]; omega, spliced_none ⟨kxs_at N3 List.mem_cons_self, call _ _ _⟩⟩
theorem two_size (v v2 : Value) : [v, v2].length ≤ sizeLine := by
  rw [sizeLine_eq]
  exact (by decide : 2 ≤ 16777216)
/-- a made exception -/
structure OwnMade2 (h h' : Heap) (e C d : Addr) (v v2 : Value) : Prop where
  keep : ∀ b o, h.get? b = some o → h'.get? b = some o
  new : h.objs.size ≤ e
  obj : ∃ oe vs, h'.get? e = some oe ∧ oe.cls = .ref C ∧ oe.dict = some d ∧ oe.data = .fields vs ∧ vs[1]? = some .none
  dbig : h.objs.size ≤ d
  dne : d ≠ e
  ns : h'.Ns1 d (fun y => if y = "key" then some v2 else if y = "layer" then some v else none)
theorem made2 (T : ExcTxt2 prog K xn C fI) {v v2 : Value} (hv : Ix v) (hv2 : Ix v2) (X : K.In s.heap) (G : s.heap.Ns mainGlobals mg) (GN : ∀ y, nsIn K mainGlobals y = some none → mg y = none) (B : s.heap.Ns builtinsNs mb) (hB : ∀ y : Str, y ≠ "__name__" → mb y = bootBuiltins y) (hlim : s.heap.NoLimit) (hroom : A.depth + 1 < recursionLimit)
    (hq : ∀ h' tk e d, OwnMade2 s.heap h' e C d v v2 → R (.ok (.ret (.ref e))) { s with heap := h', toks := tk }) :
    codeAny (model prog w) A (.call (.ref C) ⟨[v, v2], []⟩) R s := by
  obtain ⟨nm, q, N, bs, bm, sn, sub, ab, col, dd, k0, k1, k2, k3, k5, hC, hbm⟩ := T.cls
  obtain ⟨hp, g, dr, tk, os⟩ := s
  have k : ∀ b o, hp.get? b = some o → ((hp.push (kdv_tup [v, v2])).push (excO C hp.objs.size)).get? b = some o := fun b o e => Heap.get?_push_of_some _ (Heap.get?_push_of_some _ e)
  have hget : ((hp.push (kdv_tup [v, v2])).push (excO C hp.objs.size)).get? (hp.objs.size + 1) = some (excO C hp.objs.size) := by heap_get
  have hnx : K.lookup (hp.objs.size + 1) = none := by
    cases e : K.lookup (hp.objs.size + 1) with
    | none => rfl
    | some o =>
      have z : hp.get? (hp.objs.size + 1) = some o := X _ _ e
      exact absurd (Nat.lt_of_succ_lt (Heap.lt_size z)) (Nat.lt_irrefl _)
  refine call_own PySem.F.excBase_ValueError (fun X => refsVE_contains X bm hbm) (X _ _ hC) (looks_findIn X T.iC) (fun self => bind_fn X self T.tC) (two_size v v2) ?_
  refine ini_ok2 (s := ⟨(hp.push (kdv_tup [v, v2])).push (excO C hp.objs.size), g, dr, tk, os⟩) T hv hv2 (X.keeps k) (G.keeps k) GN (B.keeps k) hB (hlim.keeps k) hget hnx ?_ fun h' tk' dx t1 M => ?_
  · show A.depth + 1 < recursionLimit
    exact hroom
  · obtain ⟨k', hx, dn, dne, hns⟩ := M
    have old : ∀ b o, hp.get? b = some o → h'.get? b = some o := fun b o e => k' b o (Nat.ne_of_lt (Nat.lt_succ_of_lt (Heap.lt_size e))) (k b o e)
    have z : hp.objs.size + 1 + 1 ≤ dx := by
      first
        | (simpa only [Heap.size_push] using dn)
        | exact dn
        | (have q := dn; rw [Heap.size_push, Heap.size_push] at q; exact q)
    exact ⟨rfl, hq h' tk' (hp.objs.size + 1) dx ⟨old, Nat.le_succ _, ⟨_, _, hx, rfl, rfl, rfl, rfl⟩, Nat.le_trans (Nat.le_trans (Nat.le_succ _) (Nat.le_succ _)) z, dne, hns⟩⟩
end
end Oxi
end PySem
namespace L2
open PySem PySem.Spec PyProof.Rows
def lkF (v v2 : V) : List (Str × V) := [(("layer" : Str), v), (("key" : Str), v2)]
theorem relO_ix2 {v v2 : V} {u u2 : Value} (r : RelV v u) (r2 : RelV v2 u2) (f : Str) : RelO (List.lookup f (lkF v v2)) (if f = "key" then some u2 else if f = "layer" then some u else none) := by
  by_cases hk : f = "key"
  · subst hk
    rw [if_pos rfl]
    have q : List.lookup ("key" : Str) (lkF v v2) = some v2 := by
      have h : (("key" : Str) == ("layer" : Str)) = false := by decide +kernel
      simp [lkF, List.lookup, h]
    rw [q]
    exact r2
  · rw [if_neg hk]
    by_cases hw : f = "layer"
    · subst hw
      rw [if_pos rfl]
      have q : List.lookup ("layer" : Str) (lkF v v2) = some v := by simp [lkF, List.lookup]
      rw [q]
      exact r
    · rw [if_neg hw]
      have qw : (f == ("layer" : Str)) = false := by simpa using hw
      have qk : (f == ("key" : Str)) = false := by simpa using hk
      have q2 : List.lookup f (lkF v v2) = none := by simp [lkF, List.lookup, qw, qk]
      rw [q2]
      trivial
section
variable {X : Cx} {C fI : Addr} {xn : Str}
/-- InvalidX(e) -/
def tMkX2 (C : Addr) (ta : TA) : St → Hp → XK → Prop := fun σ H Q => ta σ H fun vs H1 => ∃ v v2, vs = [v, v2] ∧ IxV v ∧ IxV v2 ∧ ∀ d, H1 d = none → Q (.ref C) (some d) (upd H1 d (.xd (lkF v v2)))
theorem pmk_x2 {a a2 : Expr} {ta : TA} {p pos : Pos} {k : Nat} (T : PySem.Oxi.ExcTxt2 X.prog X.K xn C fI) (hm : X.mg xn = some (.ref C)) (hr : Room k X.A) (ha : PA X [a, a2] ta) (hg : Gl X xn) (hd : (xn == ("__debug__" : Str)) = false := by decide)
    (he : starEach (a :: a2 :: []) X.env = (false, eval a X.env) :: starEach (a2 :: []) X.env := by rfl) (hpl : (backTo pos (starEach (a2 :: []) X.env)).any (·.1) = false := by rfl) :
    PMk X (.Call (.Name xn p) [a, a2] [] pos) (tMkX2 C ta) := by
  intro pins s σ H Q I h
  refine wpAny_Call_Name_kw (ld_glob I hg hm ?_ hd)
  refine PySem.W.callWith_K (h₀ := X.base) I.ok.mod.kin T.kC (thn (ha.run pos pins s σ H _ I h) fun us s1 hh => ?_) he hpl
  obtain ⟨vs, H1, I1, r1, v, v2, ev, hix, hix2, q1⟩ := hh
  subst ev
  refine ⟨I1.kIn, ?_⟩
  cases r1 with
  | cons rv rn =>
    rename_i v' us'
    cases rn with
    | cons rv2 rn =>
    rename_i v2' us2
    cases rn
    show wpAny _ _ (call (.ref C) [v', v2']) _ _ _
    have hlim := I1.nolimit
    have kb : ∀ b o, X.base.get? b = some o → s1.heap.get? b = some o := fun b o e => (I1.bs b o e).1
    have G := I1.ok.mod.glob.keeps kb
    obtain ⟨mb, B0, hB⟩ := I1.ok.mod.blt
    have B := B0.keeps kb
    have kin := I1.kIn
    have GN : ∀ y, PySem.W.nsIn X.K mainGlobals y = some none → X.mg y = none := fun y z => PySem.W.mg_none_of I1.ok.mod.kin I1.ok.mod.glob z
    obtain ⟨hp, g, dr, tk, os⟩ := s1
    refine wpAny_call (PySem.Oxi.made2 T (hix.rel rv) (hix2.rel rv2) kin G GN B hB hlim (by have := hr.dp; omega) fun h' tk' e d M => ?_)
    show MkP X pins σ Q (.ref e) ⟨h', g, dr, tk', os⟩
    obtain ⟨oe, fv, hoe, hc, hdd, hdat, h1⟩ := M.obj
    have hns := M.ns
    obtain ⟨G', g1, g2⟩ := restrict h' fun b => decide (b ≠ e)
    have gk : ∀ b, b ≠ e → G'.get? b = h'.get? b := fun b hb => g1 b (decide_eq_true hb)
    have ge : G'.get? e = none := g2 e (by simp)
    have old : ∀ b o, hp.get? b = some o → G'.get? b = some o := fun b o q => (gk b (Nat.ne_of_lt (Nat.lt_of_lt_of_le (Heap.lt_size q) M.new))).trans (M.keep b o q)
    have ob : ObjOk X.prog X.w (upd H1 d (.xd (lkF v v2))) G' d (.xd (lkF v v2)) :=
      ⟨_, hns.at (fun o q => (gk d M.dne).trans q), fun f => relO_ix2 rv rv2 f⟩
    have J : Inv X pins σ (upd H1 d (.xd (lkF v v2))) ⟨G', g, dr, tk', os⟩ := I1.laid (t' := tk') old M.dbig ob
    refine ⟨e, oe, fv, ⟨G', g, dr, tk', os⟩, _, .ref C, some d, rfl, J, fun b o q => ?_, ge, hoe, ⟨hc, hdd⟩, hdat, h1, ?_, rfl, I1.bare, raises_own T.exC T.tyC, q1 d (I1.hok.fresh M.dbig)⟩
    · by_cases hb : b = e
      · have q' : G'.get? b = some o := q
        rw [hb, ge] at q'; cases q'
      · exact (gk b hb).symm.trans q
    · rw [upd_ne (Ne.symm M.dne)]
      exact I1.hok.fresh M.new
/-- raise InvalidX(e) -/
def tRaiseX2 (C : Addr) (W : WX) (ta : TA) : TS := fun _ σ H => tMkX2 C ta σ H fun cls d H' => W cls d σ H'
theorem ps_raiseX2 {a a2 : Expr} {ta : TA} {W : WX} {p pos pos2 : Pos} {k : Nat} (hc : X.calm = true) (T : PySem.Oxi.ExcTxt2 X.prog X.K xn C fI) (hm : X.mg xn = some (.ref C)) (hr : Room k X.A) (tk : Takes X W) (ha : PA X [a, a2] ta) (hg : Gl X xn) (hd : (xn == ("__debug__" : Str)) = false := by decide)
    (he : starEach (a :: a2 :: []) X.env = (false, eval a X.env) :: starEach (a2 :: []) X.env := by rfl) (hpl : (backTo pos (starEach (a2 :: []) X.env)).any (·.1) = false := by rfl) :
    PS X (.Raise (some (.Call (.Name xn p) [a, a2] [] pos)) none pos2) (tRaiseX2 C W ta) := ps_raise hc tk (pmk_x2 T hm hr ha hg hd he hpl)
end
end L2

set_option Elab.async false
set_option linter.all false
set_option maxRecDepth 100000
set_option maxHeartbeats 4000000
/-! x in t, t a tuple of data of any depth -/
namespace Gd
open PySem PySem.Spec PyProof.Rows L2
def rInDT (K : PySem.W.Frag) : R2 := fun x y H Q => ∃ d ds, Dp K H x d ∧ Dp K H y (.tuple ds) ∧ SeqAt.shaped d = true ∧ PyData.canLayAll0 ds = true ∧ Q (.bl (ds.any fun z => PyData.eqv z d)) H
theorem op_inDT {X : Cx} (hu : X.A.units + 65 < cLine) : OpR X (compareOp .In) (rInDT X.K) := by
  intro pins s σ H x y v u Q I rx ry h
  obtain ⟨d, ds, hd, he, sd, se, q⟩ := h
  obtain ⟨as, r1⟩ := Dp.reads I d x v hd rx
  obtain ⟨bs, r2⟩ := Dp.reads I (.tuple ds) y u he ry
  exact SeqAt.in_tuple_reads r2 r1 se (SeqAt.canLay_of_shaped sd) (room_in_shaped sd hu) ⟨.bl _, H, I, rfl, q⟩
end Gd

set_option Elab.async false
set_option linter.all false
set_option maxRecDepth 100000
set_option maxHeartbeats 4000000
/-! a text times a number -/
namespace Gd
open PySem PySem.Spec PyProof.Rows L2
theorem op_mulS {X : Cx} : OpR X (binaryOp .Mult) (fun x y H Q => ∃ z k, x = .str z ∧ y = .int k ∧ MulOk z k ∧ Q (.str (Txt.mul z k)) H) := by
  intro pins s σ H x y v u Q I rx ry h
  obtain ⟨z, k, rfl, rfl, hz, q⟩ := h
  obtain ⟨t, rfl⟩ := rx
  obtain ⟨t', rfl⟩ := ry
  exact SB.mul hz fun t' tk => ⟨.str (Txt.mul z k), H, I.tok _, ⟨_, rfl⟩, q⟩
end Gd

set_option Elab.async false
set_option linter.all false
set_option maxRecDepth 100000
set_option maxHeartbeats 4000000
namespace K01
open PySem PySem.Spec PyProof.Rows L2 Gd Rm La
def topS (i : Nat) : Stmt := PySem.Challenge.pw_holdtap_k01_layouts_recognized.main.body.getD i (.Pass ⟨0, 0, 0, 0⟩)
abbrev s_is_an_integer : Stmt := topS 4
abbrev n_is_an_integer : List Str := ["value"]
theorem sc_is_an_integer : FnScope n_is_an_integer ["value"] (defScope s_is_an_integer) := ⟨rfl, rfl, rfl, by decide +kernel, rfl, by decide +kernel, by decide +kernel⟩
-- 0 value
abbrev s_is_between : Stmt := topS 5
abbrev n_is_between : List Str := ["value", "low", "high"]
theorem sc_is_between : FnScope n_is_between ["value", "low", "high"] (defScope s_is_between) := ⟨rfl, rfl, rfl, by decide +kernel, rfl, by decide +kernel, by decide +kernel⟩
-- 0 value, 1 low, 2 high
abbrev s_is_layout : Stmt := topS 14
abbrev n_is_layout : List Str := ["value"]
theorem sc_is_layout : FnScope n_is_layout ["value"] (defScope s_is_layout) := ⟨rfl, rfl, rfl, by decide +kernel, rfl, by decide +kernel, by decide +kernel⟩
-- 0 value
abbrev s_check_layout : Stmt := topS 15
abbrev n_check_layout : List Str := ["value", "layer", "actions", "key", "action"]
theorem sc_check_layout : FnScope n_check_layout ["value"] (defScope s_check_layout) := ⟨rfl, rfl, rfl, by decide +kernel, rfl, by decide +kernel, by decide +kernel⟩
-- 0 value, 1 layer, 2 actions, 3 key, 4 action
abbrev s_has_layout_form : Stmt := topS 16
abbrev n_has_layout_form : List Str := ["value", "many", "actions"]
theorem sc_has_layout_form : FnScope n_has_layout_form ["value"] (defScope s_has_layout_form) := ⟨rfl, rfl, rfl, by decide +kernel, rfl, by decide +kernel, by decide +kernel⟩
-- 0 value, 1 many*, 2 actions*
abbrev s_can_stand : Stmt := topS 17
abbrev n_can_stand : List Str := ["action", "layer", "layer_count"]
theorem sc_can_stand : FnScope n_can_stand ["action", "layer", "layer_count"] (defScope s_can_stand) := ⟨rfl, rfl, rfl, by decide +kernel, rfl, by decide +kernel, by decide +kernel⟩
-- 0 action, 1 layer, 2 layer_count
abbrev s_is_code_action : Stmt := topS 18
abbrev n_is_code_action : List Str := ["action", "word", "code"]
theorem sc_is_code_action : FnScope n_is_code_action ["action"] (defScope s_is_code_action) := ⟨rfl, rfl, rfl, by decide +kernel, rfl, by decide +kernel, by decide +kernel⟩
-- 0 action, 1 word, 2 code
abbrev s_is_layer_action : Stmt := topS 19
abbrev n_is_layer_action : List Str := ["action", "words", "layer_count", "word", "layer"]
theorem sc_is_layer_action : FnScope n_is_layer_action ["action", "words", "layer_count"] (defScope s_is_layer_action) := ⟨rfl, rfl, rfl, by decide +kernel, rfl, by decide +kernel, by decide +kernel⟩
-- 0 action, 1 words, 2 layer_count, 3 word, 4 layer
abbrev s_is_dual_action : Stmt := topS 20
abbrev n_is_dual_action : List Str := ["action", "layer_count", "word", "tap", "hold", "time", "rule"]
theorem sc_is_dual_action : FnScope n_is_dual_action ["action", "layer_count"] (defScope s_is_dual_action) := ⟨rfl, rfl, rfl, by decide +kernel, rfl, by decide +kernel, by decide +kernel⟩
-- 0 action, 1 layer_count, 2 word, 3 tap, 4 hold, 5 time, 6 rule
abbrev s_is_hold : Stmt := topS 21
abbrev n_is_hold : List Str := ["value", "layer_count"]
theorem sc_is_hold : FnScope n_is_hold ["value", "layer_count"] (defScope s_is_hold) := ⟨rfl, rfl, rfl, by decide +kernel, rfl, by decide +kernel, by decide +kernel⟩
-- 0 value, 1 layer_count
abbrev s_is_code : Stmt := topS 22
abbrev n_is_code : List Str := ["value", "sign"]
theorem sc_is_code : FnScope n_is_code ["value"] (defScope s_is_code) := ⟨rfl, rfl, rfl, by decide +kernel, rfl, by decide +kernel, by decide +kernel⟩
-- 0 value, 1 sign*
abbrev s__law_reel : Stmt := topS 24
abbrev n__law_reel : List Str := ["_law_script", "_law_index", "_law_mixed", "_law_cell"]
theorem sc__law_reel : FnScope n__law_reel ["_law_script", "_law_index"] (defScope s__law_reel) := ⟨rfl, rfl, rfl, by decide +kernel, rfl, by decide +kernel, by decide +kernel⟩
-- 0 _law_script, 1 _law_index, 2 _law_mixed, 3 _law_cell
abbrev s__law_spin : Stmt := topS 25
abbrev n__law_spin : List Str := ["_law_reel_here", "_law_size", "_law_digit", "_law_wide"]
theorem sc__law_spin : FnScope n__law_spin ["_law_reel_here", "_law_size"] (defScope s__law_spin) := ⟨rfl, rfl, rfl, by decide +kernel, rfl, by decide +kernel, by decide +kernel⟩
-- 0 _law_reel_here, 1 _law_size, 2 _law_digit, 3 _law_wide
abbrev s__law_code : Stmt := topS 26
abbrev n__law_code : List Str := ["_law_reel_here", "_law_some", "_law_way", "_law_many", "_law_letters", "_law_turn"]
theorem sc__law_code : FnScope n__law_code ["_law_reel_here"] (defScope s__law_code) := ⟨rfl, rfl, rfl, by decide +kernel, rfl, by decide +kernel, by decide +kernel⟩
-- 0 _law_reel_here*, 1 _law_some, 2 _law_way, 3 _law_many, 4 _law_letters*, 5 _law_turn*
abbrev s__law_action : Stmt := topS 27
abbrev n__law_action : List Str := ["_law_reel_here", "_law_layer", "_law_layers", "_law_longest", "_law_way", "_law_hold_here", "_law_time_here"]
theorem sc__law_action : FnScope n__law_action ["_law_reel_here", "_law_layer", "_law_layers", "_law_longest"] (defScope s__law_action) := ⟨rfl, rfl, rfl, by decide +kernel, rfl, by decide +kernel, by decide +kernel⟩
-- 0 _law_reel_here, 1 _law_layer, 2 _law_layers, 3 _law_longest, 4 _law_way, 5 _law_hold_here, 6 _law_time_here
abbrev s__law_layout : Stmt := topS 28
abbrev n__law_layout : List Str := ["_law_reel_here", "_law_layers", "_law_keys", "_law_longest", "_law_found", "_law_layer", "_law_key"]
theorem sc__law_layout : FnScope n__law_layout ["_law_reel_here", "_law_layers", "_law_keys", "_law_longest"] (defScope s__law_layout) := ⟨rfl, rfl, rfl, by decide +kernel, rfl, by decide +kernel, by decide +kernel⟩
-- 0 _law_reel_here*, 1 _law_layers*, 2 _law_keys, 3 _law_longest*, 4 _law_found, 5 _law_layer*, 6 _law_key*
abbrev s__law_is_code : Stmt := topS 29
abbrev n__law_is_code : List Str := ["_law_value", "_law_sign"]
theorem sc__law_is_code : FnScope n__law_is_code ["_law_value"] (defScope s__law_is_code) := ⟨rfl, rfl, rfl, by decide +kernel, rfl, by decide +kernel, by decide +kernel⟩
-- 0 _law_value, 1 _law_sign*
abbrev s__law_is_number : Stmt := topS 30
abbrev n__law_is_number : List Str := ["_law_value", "_law_least", "_law_most"]
theorem sc__law_is_number : FnScope n__law_is_number ["_law_value", "_law_least", "_law_most"] (defScope s__law_is_number) := ⟨rfl, rfl, rfl, by decide +kernel, rfl, by decide +kernel, by decide +kernel⟩
-- 0 _law_value, 1 _law_least, 2 _law_most
abbrev s__law_is_hold : Stmt := topS 31
abbrev n__law_is_hold : List Str := ["_law_value", "_law_layers"]
theorem sc__law_is_hold : FnScope n__law_is_hold ["_law_value", "_law_layers"] (defScope s__law_is_hold) := ⟨rfl, rfl, rfl, by decide +kernel, rfl, by decide +kernel, by decide +kernel⟩
-- 0 _law_value, 1 _law_layers
abbrev s__law_is_right : Stmt := topS 32
abbrev n__law_is_right : List Str := ["_law_value", "_law_layer", "_law_layers", "_law_word", "_law_code_here", "_law_hold_here", "_law_time_here", "_law_rule"]
theorem sc__law_is_right : FnScope n__law_is_right ["_law_value", "_law_layer", "_law_layers"] (defScope s__law_is_right) := ⟨rfl, rfl, rfl, by decide +kernel, rfl, by decide +kernel, by decide +kernel⟩
-- 0 _law_value, 1 _law_layer, 2 _law_layers, 3 _law_word, 4 _law_code_here, 5 _law_hold_here, 6 _law_time_here, 7 _law_rule
abbrev s__law_fault : Stmt := topS 33
abbrev n__law_fault : List Str := ["_law_value", "_law_row", "_law_layer", "_law_key", "_law_action_here"]
theorem sc__law_fault : FnScope n__law_fault ["_law_value"] (defScope s__law_fault) := ⟨rfl, rfl, rfl, by decide +kernel, rfl, by decide +kernel, by decide +kernel⟩
-- 0 _law_value*, 1 _law_row, 2 _law_layer, 3 _law_key, 4 _law_action_here
abbrev s__law_with : Stmt := topS 34
abbrev n__law_with : List Str := ["_law_layout_here", "_law_layer", "_law_key", "_law_action_here", "_law_row", "_law_found"]
theorem sc__law_with : FnScope n__law_with ["_law_layout_here", "_law_layer", "_law_key", "_law_action_here"] (defScope s__law_with) := ⟨rfl, rfl, rfl, by decide +kernel, rfl, by decide +kernel, by decide +kernel⟩
-- 0 _law_layout_here, 1 _law_layer, 2 _law_key, 3 _law_action_here, 4 _law_row, 5 _law_found
abbrev s__law_odd_actions : Stmt := topS 35
abbrev n__law_odd_actions : List Str := ["_law_layers", "_law_some", "_law_one", "_law_word", "_law_held", "_law_times", "_law_rules"]
theorem sc__law_odd_actions : FnScope n__law_odd_actions ["_law_layers"] (defScope s__law_odd_actions) := ⟨rfl, rfl, rfl, by decide +kernel, rfl, by decide +kernel, by decide +kernel⟩
-- 0 _law_layers, 1 _law_some, 2 _law_one, 3 _law_word*, 4 _law_held, 5 _law_times, 6 _law_rules
abbrev s__law_odd_tables : Stmt := topS 36
abbrev n__law_odd_tables : List Str := ["_law_layout_here", "_law_row", "_law_some"]
theorem sc__law_odd_tables : FnScope n__law_odd_tables ["_law_layout_here"] (defScope s__law_odd_tables) := ⟨rfl, rfl, rfl, by decide +kernel, rfl, by decide +kernel, by decide +kernel⟩
-- 0 _law_layout_here, 1 _law_row, 2 _law_some
abbrev s__law_told_right : Stmt := topS 37
abbrev n__law_told_right : List Str := ["_law_value", "_law_kept", "_law_due"]
theorem sc__law_told_right : FnScope n__law_told_right ["_law_value"] (defScope s__law_told_right) := ⟨rfl, rfl, rfl, by decide +kernel, rfl, by decide +kernel, by decide +kernel⟩
-- 0 _law_value, 1 _law_kept, 2 _law_due
abbrev s_law : Stmt := topS 38
abbrev n_law : List Str := ["_law_script", "_law_index", "_law_reel_here", "_law_layers", "_law_keys", "_law_layout_here", "_law_layer", "_law_key", "_law_odd", "_law_sign", "_law_row", "_law_value"]
theorem sc_law : FnScope n_law ["_law_script"] (defScope s_law) := ⟨rfl, rfl, rfl, by decide +kernel, rfl, by decide +kernel, by decide +kernel⟩
-- 0 _law_script, 1 _law_index, 2 _law_reel_here, 3 _law_layers, 4 _law_keys, 5 _law_layout_here, 6 _law_layer, 7 _law_key, 8 _law_odd, 9 _law_sign, 10 _law_row, 11 _law_value*


theorem small400 {n : Nat} (h : n ≤ 1000) : n ≤ sizeLine := Nat.le_of_lt (small1000 h)
theorem get_map_ref {as : List Addr} {i : Nat} {b : Addr} (h : as[i]? = some b) : (as.map V.ref)[i]? = some (.ref b) := by rw [List.getElem?_map, h]; rfl
theorem get_map_int {ns : List Int} {i : Nat} {b : Int} (h : ns[i]? = some b) : (ns.map V.int)[i]? = some (.int b) := by rw [List.getElem?_map, h]; rfl
theorem atI_end {xs : List V} {v : V} (h : xs[xs.length - 1]? = some v) : atI xs (-1) = some v := by
  have hn : xs ≠ [] := by
    intro e
    subst e
    simp at h
  have e := List.getLast?_eq_getElem? (l := xs)
  rw [h] at e
  have hz : xs.dropLast ++ [v] = xs := by
    have := List.dropLast_concat_getLast hn
    rw [List.getLast?_eq_some_getLast hn] at e
    rw [← Option.some.inj e]
    exact this
  rw [← hz]
  exact atI_last _ _
/-- a new list of new tuples, one more -/
structure Grown {α : Type} (f : α → List V) (H0 : Hp) (L : Addr) (es : List α) (H : Hp) : Prop where
  same : Same H0 H
  ls : Lst f H L es
theorem Grown.start {α : Type} {f : α → List V} {H0 : Hp} {L : Addr} (n : H0 L = none) : Grown f H0 L [] (upd H0 L (.lst [])) := ⟨same_upd n, [], upd_same, Tups.nil⟩
theorem Grown.more {α : Type} {f : α → List V} {H0 H : Hp} {L p : Addr} {es : List α} {e : α} (g : Grown f H0 L es H) (n : H0 L = none) (np : H p = none) :
    ∃ acc : List V, upd H p (.tup (f e)) L = some (.lst acc) ∧ acc.length = es.length ∧ Grown f H0 L (es ++ [e]) (upd (upd H p (.tup (f e))) L (.lst (acc ++ [.ref p]))) := by
  obtain ⟨s, as, h, t⟩ := g
  have pl : L ≠ p := ne_of_none h np
  have h1 : upd H p (.tup (f e)) L = some (.lst (as.map V.ref)) := (same_upd np) _ _ h
  refine ⟨as.map V.ref, h1, by rw [List.length_map]; exact t.1, Same.off (s.trans (same_upd np)) n off_upd, as ++ [p], ?_, ?_⟩
  · rw [upd_same, List.map_append]; rfl
  · refine Tups.snoc ((t.same (same_upd np)).off h1 off_upd) ?_
    rw [upd_ne pl.symm]
    exact upd_same
def rLenB (K : PySem.W.Frag) : List V → Hp → VK → Prop := fun xs H Q => ∃ p ys, xs = [.ref p] ∧ (SqL K H p ys ∨ SqT K H p ys) ∧ Q (.int ys.length) H
def rListOf (K : PySem.W.Frag) : List V → Hp → VK → Prop := fun xs H Q => ∃ p ys, xs = [.ref p] ∧ (SqL K H p ys ∨ SqT K H p ys) ∧ ∀ l, H l = none → Q (.ref l) (upd H l (.lst ys))
theorem allTrue (n : Nat) : (List.replicate n true).all id = true := by simp
/-! ### the reel -/
def Reel (H : Hp) (r : Addr) (n : Nat) : Prop := ∃ x y z : Int, H r = some (.lst [.int x, .int y, .int z]) ∧ 0 ≤ x ∧ 0 ≤ y ∧ y < 10 ^ 42 ∧ 0 ≤ z ∧ z ≤ (n : Int)
theorem Reel.mono {H : Hp} {r : Addr} {n m : Nat} (h : Reel H r n) (l : n ≤ m) : Reel H r m := by
  obtain ⟨x, y, z, a, b, c, d, e, f⟩ := h
  exact ⟨x, y, z, a, b, c, d, e, by omega⟩
theorem Reel.same {H H' : Hp} {r : Addr} {n : Nat} (h : Reel H r n) (l : Same H H') : Reel H' r n := by
  obtain ⟨x, y, z, a, b⟩ := h
  exact ⟨x, y, z, l _ _ a, b⟩
/-- the draws so far are fewer than this -/
abbrev most : Nat := 1000000000
def spSpin : Sp := fun vs H Q _ => ∃ (r : Addr) (m : Int) (n : Nat), vs = [.ref r, .int m] ∧ 0 < m ∧ m < 10 ^ 40 ∧ n < most ∧ Reel H r n ∧
  ∀ d H', 0 ≤ d → d < m → Reel H' r (n + 1) → Off r H H' → Q (.int d) H'
structure Bt (mg : Str → Option Value) : Prop where
  m_len : mg "len" = none
  m_abs : mg "abs" = none
  m_max : mg "max" = none
  m_repr : mg "repr" = none
  m_isinstance : mg "isinstance" = none
  m_all : mg "all" = none
  m_list : mg "list" = none
  m_tuple : mg "tuple" = none
  m_int : mg "int" = none
  m_bool : mg "bool" = none
  m_str : mg "str" = none
  m_range : mg "range" = none
  m_enumerate : mg "enumerate" = none
  m_min : mg "min" = none
section
variable {P : Program} {w : World} {K : PySem.W.Frag} {mg : Str → Option Value} {base : Heap}
theorem p43 : (10 : Int) ^ (43 : Int).toNat + 57 = 10 ^ 43 + 57 := rfl
theorem ok__law_spin (a : At K mg "_law_spin" s__law_spin ["_law_reel_here", "_law_size"]) : Cl P w K mg base 1 "_law_spin" spSpin := by
  refine clG a sc__law_spin (fun vs H Q E h => ?_) (fun f cdv A outer s H vs Q hg hr h => ?_)
  · obtain ⟨r, m, n, rfl, _⟩ := h
    rfl
  · obtain ⟨r, m, n, rfl, hm, hm2, hn0, ⟨x, y, z, hR, hx, hy, hy2, hz, hz2⟩, q⟩ := h
    have hn : n < 1000000000 := hn0
    refine ⟨_, (pss_cons (ps_if (pt_cmpR op_gt (pe_ix ix_list (pv 0) pe_int (fun _ _ => rfl)) pe_int (nomark _)) (pss_cons (ps_set (i := 2) sc__law_spin.nd rfl (Or.inl rfl) (pe_op op_mod (pe_ix ix_list (pv 0) pe_int (fun _ _ => rfl)) (pv 1)))
      (pss_cons (ps_asg (pe_op op_fdivW (pe_ix ix_list (pv 0) pe_int (fun _ _ => rfl)) (pv 1)) (pg_sub (pv 0) pe_int set_list))
      (pss_one (ps_ret (pv 2))))) pss_nil)
      (pss_cons (ps_asg (pe_op op_add (pe_ix ix_list (pv 0) pe_int (fun _ _ => rfl)) pe_int) (pg_sub (pv 0) pe_int set_list))
      (pss_cons (ps_set (i := 3) sc__law_spin.nd rfl (Or.inl rfl) (pe_op op_mod (pe_op op_powW (pe_op op_add (pe_ix ix_list (pv 0) pe_int (fun _ _ => rfl)) (pe_op op_mulW pe_int (pe_ix ix_list (pv 0) pe_int (fun _ _ => rfl)))) pe_int) (pe_op op_add (pe_op op_powW pe_int pe_int) pe_int)))
      (pss_cons (ps_set (i := 3) sc__law_spin.nd rfl (Or.inl rfl) (pe_op op_mod (pe_op op_powW (pe_op op_add (pv 3) (pe_op op_mulW pe_int (pe_ix ix_list (pv 0) pe_int (fun _ _ => rfl)))) pe_int) (pe_op op_add (pe_op op_powW pe_int pe_int) pe_int)))
      (pss_one (ps_ret (pe_op op_mod (pe_op op_fdivW (pv 3) pe_int) (pv 1)))))))), ?_⟩
    refine ⟨_, rfl, r, _, 0, _, rfl, rfl, SqL.of hR, atI_nat (j := 0) rfl, ?_⟩
    refine ⟨_, _, rfl, rfl, _, rfl, ite2 (fun e => ?_) (fun e => ?_)⟩
    · -- a digit of the great number
      have e0 : 0 < x := of_decide_eq_true e
      refine ⟨_, rfl, r, _, 0, _, rfl, rfl, SqL.of hR, atI_nat (j := 0) rfl, _, rfl, _, _, rfl, rfl, hm, ?_⟩
      refine ⟨_, rfl, r, _, 0, _, rfl, rfl, SqL.of hR, atI_nat (j := 0) rfl, _, rfl, _, _, rfl, rfl, wide_div (b := 140) hm (by omega) (by decide) (by decide), ?_⟩
      refine ⟨_, rfl, r, _, 0, 0, rfl, rfl, hR, rfl, ?_⟩
      refine ⟨_, rfl, q _ _ (Int.emod_nonneg _ (by omega)) (Int.emod_lt_of_pos _ hm) ⟨x / m, y, z, upd_same, Int.ediv_nonneg hx (by omega), hy, hy2, hz, by omega⟩ off_upd⟩
    · refine ⟨_, rfl, r, _, 2, _, rfl, rfl, SqL.of hR, atI_nat (j := 2) rfl, _, _, rfl, rfl, ?_⟩
      refine ⟨_, rfl, r, _, 2, 2, rfl, rfl, hR, rfl, ?_⟩
      have hR1 : upd H r (.lst [.int x, .int y, .int (z + 1)]) r = some (.lst [.int x, .int y, .int (z + 1)]) := upd_same
      refine ⟨_, rfl, r, _, 1, _, rfl, rfl, SqL.of hR1, atI_nat (j := 1) rfl, ?_⟩
      refine ⟨_, rfl, r, _, 2, _, rfl, rfl, SqL.of hR1, atI_nat (j := 2) rfl, ?_⟩
      have b1 : (z + 1).natAbs < 2 ^ 40 := by omega
      have b2 : (49979687 * (z + 1)).natAbs < 2 ^ 80 := by omega
      refine ⟨_, _, rfl, rfl, wide_mul (a := 40) (b := 40) (by decide) b1 (by decide) (by decide) (by decide), ?_⟩
      refine ⟨_, _, rfl, rfl, ?_⟩
      have b3 : (y + 49979687 * (z + 1)).natAbs < 2 ^ 150 := by omega
      refine ⟨_, _, rfl, rfl, powW (n := 150) (k := 3) b3 (by decide), ?_⟩
      refine ⟨_, _, rfl, rfl, powW (n := 40) (k := 43) (by decide) (by decide), ?_⟩
      refine ⟨_, _, rfl, rfl, _, _, rfl, rfl, (show (0 : Int) < 10 ^ 43 + 57 by decide), ?_⟩
      have c1 : 0 ≤ (y + 49979687 * (z + 1)) ^ 3 % (10 ^ 43 + 57) := Int.emod_nonneg _ (by decide)
      have c2 : (y + 49979687 * (z + 1)) ^ 3 % (10 ^ 43 + 57) < 10 ^ 43 + 57 := Int.emod_lt_of_pos _ (by decide)
      generalize hu : (y + 49979687 * (z + 1)) ^ 3 % (10 ^ 43 + 57) = u at c1 c2
      refine ⟨.int u, congrArg (fun v => some (some (V.int v))) hu, ?_⟩
      refine ⟨_, rfl, r, _, 2, _, rfl, rfl, SqL.of hR1, atI_nat (j := 2) rfl, ?_⟩
      have b4 : (22801763 * (z + 1)).natAbs < 2 ^ 80 := by omega
      refine ⟨_, _, rfl, rfl, wide_mul (a := 40) (b := 40) (by decide) b1 (by decide) (by decide) (by decide), ?_⟩
      have b5 : (u + 22801763 * (z + 1)).natAbs < 2 ^ 150 := by omega
      refine ⟨_, _, rfl, rfl, _, _, rfl, rfl, powW (n := 150) (k := 5) b5 (by decide), ?_⟩
      refine ⟨_, _, rfl, rfl, powW (n := 40) (k := 40) (by decide) (by decide), ?_⟩
      refine ⟨_, _, rfl, rfl, _, _, rfl, rfl, (show (0 : Int) < 10 ^ 40 + 121 by decide), ?_⟩
      refine ⟨_, rfl, _, _, rfl, rfl, wide_div (b := 40) (by decide) (by decide) (by decide) (by decide), ?_⟩
      refine ⟨_, rfl, _, _, rfl, rfl, hm, ?_⟩
      exact q _ _ (Int.emod_nonneg _ (by omega)) (Int.emod_lt_of_pos _ hm) ⟨x, y, z + 1, upd_same, hx, hy, hy2, by omega, by omega⟩ off_upd
def spReel (K : PySem.W.Frag) : Sp := fun vs H Q _ => ∃ (s : Addr) (ns : List Int) (i : Nat), vs = [.ref s, .int (i : Int)] ∧ SqL K H s (ns.map V.int) ∧ ns.length ≤ 63 ∧ i < 100 ∧
  ∀ r H', Same H H' → H r = none → Reel H' r 0 → Q (.ref r) H'
theorem ok__law_reel (bt : Bt mg) (a : At K mg "_law_reel" s__law_reel ["_law_script", "_law_index"]) : Cl P w K mg base 1 "_law_reel" (spReel K) := by
  refine clG a sc__law_reel (fun vs H Q E h => ?_) (fun f cdv A outer s H vs Q hg hr h => ?_)
  · obtain ⟨r, m, n, rfl, _⟩ := h
    rfl
  · obtain ⟨sc, ns, i, rfl, hS, hl, hi, q⟩ := h
    refine ⟨_, (pss_cons (ps_set (i := 2) sc__law_reel.nd rfl (Or.inl rfl) (pe_op op_add pe_int (pe_op op_mulW pe_int (pv 1))))
      (pss_cons (ps_for PassesOwn.never rfl (pi_list (pv 0)) (pg_name (i := 3) sc__law_reel.nd rfl (Or.inl rfl)) (pss_one (ps_set (i := 2) sc__law_reel.nd rfl (Or.inl rfl) (pe_op op_mod (pe_op op_add (pe_op op_mulW (pv 2) pe_int) (pe_op op_mod (pv 3) (pe_op op_add (pe_op op_powW pe_int pe_int) pe_int))) (pe_op op_add (pe_op op_powW pe_int pe_int) pe_int)))))
      (pss_cons (ps_set (i := 3) sc__law_reel.nd rfl (Or.inl rfl) (pe_ifExp (pt_cmpR op_lt (pv 1) (pe_callB call_len_seq (by rfl) bt.m_len (by decide +kernel) (pa_cons (pv 0) pa_nil)) (nomark _)) (pe_callB call_abs (by rfl) bt.m_abs (by decide +kernel) (pa_cons (pe_ix ix_list (pv 0) (pv 1) (fun _ _ => rfl)) pa_nil)) pe_int))
      (pss_one (ps_ret (pe_lst (pa_cons (pe_callB (call_max2 rfl) (by rfl) bt.m_max (by decide +kernel) (pa_cons pe_int (pa_cons (pe_op op_sub (pv 3) (pe_op op_powW pe_int pe_int)) pa_nil))) (pa_cons (pv 2) (pa_cons pe_int pa_nil))))))))), ?_⟩
    -- mixed = 60013 + 53 * index
    refine ⟨_, rfl, _, _, rfl, rfl, wide_mul (a := 40) (b := 40) (by decide) (by omega) (by decide) (by decide) (by decide), _, _, rfl, rfl, ?_⟩
    refine ⟨_, rfl, sc, rfl, ⟨_, hS⟩, for_it (walk_list (xs := ns.map V.int)) (fun _ σ H' => H' = H ∧ ∃ m y3, σ = [some (.ref sc), some (.int (i : Int)), some (.int m), y3] ∧ 0 ≤ m ∧ m < 10 ^ 42)
      ⟨rfl, _, _, rfl, by omega, by omega⟩ (fun _ _ H' _ p => by obtain ⟨rfl, _⟩ := p; exact hS) (fun j x σ H1 H2 hj p y => ?_) (fun σ H1 p => ?_)⟩
    · obtain ⟨rfl, m, y3, rfl, m0, m1⟩ := p
      obtain ⟨rfl, hx⟩ := y
      obtain ⟨c, hc, rfl⟩ : ∃ c, ns[j]? = some c ∧ V.int c = x := by
        rw [List.getElem?_map] at hx
        cases e : ns[j]? with
        | none => rw [e] at hx; cases hx
        | some c => rw [e] at hx; exact ⟨c, rfl, Option.some.inj hx⟩
      have b1 : m.natAbs < 2 ^ 140 := by omega
      refine ⟨_, rfl, _, _, rfl, rfl, wide_mul (a := 140) (b := 40) b1 (by decide) (by decide) (by decide) (by decide), ?_⟩
      refine ⟨_, rfl, _, _, rfl, rfl, powW (n := 40) (k := 43) (by decide) (by decide), _, _, rfl, rfl, ?_⟩
      refine ⟨_, _, rfl, rfl, (show (0 : Int) < 10 ^ 43 + 57 by decide), _, _, rfl, rfl, _, _, rfl, rfl, powW (n := 40) (k := 41) (by decide) (by decide), ?_⟩
      refine ⟨_, _, rfl, rfl, _, _, rfl, rfl, (show (0 : Int) < 10 ^ 41 + 37 by decide), ?_⟩
      have c1 := Int.emod_nonneg (m * 8675311 + c % (10 ^ 43 + 57)) (b := 10 ^ 41 + 37) (by decide)
      have c2 := Int.emod_lt_of_pos (m * 8675311 + c % (10 ^ 43 + 57)) (b := 10 ^ 41 + 37) (by decide)
      refine ⟨rfl, _, _, rfl, c1, ?_⟩
      exact Int.lt_trans c2 (by decide)
    · obtain ⟨rfl, m, y3, rfl, m0, m1⟩ := p
      refine ⟨_, rfl, .ref sc, rfl, sc, _, rfl, .inl hS, _, _, rfl, rfl, _, rfl, ite2 (fun e => ?_) (fun e => ?_)⟩
      · have e0 : (i : Int) < ((ns.map V.int).length : Nat) := of_decide_eq_true e
        rw [List.length_map] at e0
        have hlt : i < ns.length := by omega
        have g : (ns.map V.int)[i]? = some (.int ns[i]) := by
          rw [List.getElem?_map, List.getElem?_eq_getElem hlt]; rfl
        refine ⟨_, rfl, _, rfl, sc, _, (i : Int), _, rfl, rfl, hS, atI_nat g, _, rfl, ?_⟩
        refine ⟨_, rfl, _, _, rfl, rfl, powW (n := 40) (k := 18) (by decide) (by decide), _, _, rfl, rfl, _, _, rfl, .int m, rfl, (by show 3 ≤ sizeLine; decide), fun p np => ?_⟩
        exact q p _ (same_upd np) np ⟨_, m, 0, upd_same, by split <;> omega, m0, m1, by decide, by decide⟩
      · refine ⟨_, rfl, _, _, rfl, rfl, powW (n := 40) (k := 18) (by decide) (by decide), _, _, rfl, rfl, _, _, rfl, .int m, rfl, (by show 3 ≤ sizeLine; decide), fun p np => ?_⟩
        exact q p _ (same_upd np) np ⟨_, m, 0, upd_same, by split <;> omega, m0, m1, by decide, by decide⟩
end
end K01

set_option Elab.async false
set_option linter.all false
set_option maxRecDepth 100000
set_option maxHeartbeats 8000000
namespace K01
open PySem PySem.Spec PyProof.Rows L2 Gd Rm La
theorem signs_len : signs.cps.toList.length = 36 := by decide +kernel
theorem getS {d : Int} (h0 : 0 ≤ d) (h1 : d < 36) : ∃ c, atI signs.cps.toList d = some c ∧ c ∈ signs.cps.toList := by
  have hl := signs_len
  obtain ⟨k, rfl⟩ : ∃ k : Nat, d = (k : Int) := ⟨d.toNat, by omega⟩
  have hd : k < signs.cps.toList.length := by omega
  exact ⟨signs.cps.toList[k], atI_nat (List.getElem?_eq_getElem hd), List.getElem_mem hd⟩
def codes14 : List Str := ["a", "b", "x", "1", "esc", "none", "through", "press", "tap", "hold", "code", "layer", "q9", "zzzzzzzz"]
def codes8 : List Str := ["00000000", "0", "lock", "once", "dual", "release", "down", "up"]
theorem codes_ok : ∀ c ∈ codes14 ++ codes8, CodeOk c := by decide +kernel
theorem codes_len : (codes14 ++ codes8).length = 22 := rfl
theorem getC {d : Int} (h0 : 0 ≤ d) (h1 : d < 22) : ∃ c, atI (codes14.map V.str ++ codes8.map V.str) d = some (.str c) ∧ CodeOk c := by
  have hl := codes_len
  have hd : d.toNat < (codes14 ++ codes8).length := by omega
  refine ⟨(codes14 ++ codes8)[d.toNat], ?_, codes_ok _ (List.getElem_mem hd)⟩
  rw [← List.map_append]
  refine at_of (j := d.toNat) (by omega) ?_
  rw [List.getElem?_map, List.getElem?_eq_getElem hd]
  rfl
theorem getW {ws : List Str} {d : Int} (h0 : 0 ≤ d) (h1 : d < (ws.length : Int)) : ∃ c, atI (ws.map V.str) d = some (.str c) ∧ c ∈ ws := by
  have hd : d.toNat < ws.length := by omega
  refine ⟨ws[d.toNat], ?_, List.getElem_mem hd⟩
  refine at_of (j := d.toNat) (by omega) ?_
  rw [List.getElem?_map, List.getElem?_eq_getElem hd]
  rfl
theorem sum_one : ∀ cs : List Nat, ((cs.map fun c => (⟨#[c]⟩ : Str)).map fun x => x.length).sum = cs.length
  | [] => rfl
  | c :: r => by
    have ih := sum_one r
    rw [List.map_cons, List.map_cons, List.sum_cons, ih, List.length_cons]
    show 1 + r.length = _
    omega
theorem Reel.tk {H H' : Hp} {r : Addr} {n : Nat} (h : Reel H r n) (o : Off r H H') : Tk H H' := fun b xs e => o _ _ e (by
  obtain ⟨x, y, z, hr, _⟩ := h
  exact ne_of e hr (by intro q; cases q))
section
variable {P : Program} {w : World} {K : PySem.W.Frag} {mg : Str → Option Value} {base : Heap}
def spLCode : Sp := fun vs H Q _ => ∃ (r : Addr) (n : Nat), vs = [.ref r] ∧ Reel H r n ∧ n + 100 < most ∧
  ∀ (H' : Hp) (c : Str), Off r H H' → Reel H' r (n + 20) → CodeOk c → Q (.str c) H'
theorem ok__law_code (bt : Bt mg) (a : At K mg "_law_code" s__law_code ["_law_reel_here"]) (c__law_spin : Cl P w K mg base 1 "_law_spin" spSpin) : Cl P w K mg base 2 "_law_code" spLCode := by
  refine clG a sc__law_code (fun vs H Q E h => ?_) (fun f cdv A outer s H vs Q hg hr h => ?_)
  · obtain ⟨r, n, rfl, _⟩ := h
    rfl
  · obtain ⟨r, n, rfl, hR, hn, q⟩ := h
    have hn : n + 100 < 1000000000 := hn
    refine ⟨_, (pss_cons (ps_set (i := 1) sc__law_code.nd rfl (Or.inl rfl) (pe_lst (pa_cons pe_str (pa_cons pe_str (pa_cons pe_str (pa_cons pe_str (pa_cons pe_str (pa_cons pe_str (pa_cons pe_str (pa_cons pe_str (pa_cons pe_str (pa_cons pe_str (pa_cons pe_str (pa_cons pe_str (pa_cons pe_str (pa_cons pe_str pa_nil))))))))))))))))
      (pss_cons (ps_set (i := 1) sc__law_code.nd rfl (Or.inl rfl) (pe_op op_cat (pv 1) (pe_lst (pa_cons pe_str (pa_cons pe_str (pa_cons pe_str (pa_cons pe_str (pa_cons pe_str (pa_cons pe_str (pa_cons pe_str (pa_cons pe_str pa_nil)))))))))))
      (pss_cons (ps_set (i := 2) sc__law_code.nd rfl (Or.inl rfl) (pe_cl c__law_spin hg hr (by decide) (by rfl) (pa_cons (pv 0) (pa_cons pe_int pa_nil))))
      (pss_cons (ps_if (pt_cmpR op_lt (pv 2) pe_int (nomark _)) (pss_one (ps_ret (pe_ix ix_list (pv 1) (pv 2) (fun _ _ => rfl)))) pss_nil)
      (pss_cons (ps_asg (pe_tup (pa_cons (pe_op op_add pe_int (pe_cl c__law_spin hg hr (by decide) (by rfl) (pa_cons (pv 0) (pa_cons pe_int pa_nil)))) (pa_cons pe_str pa_nil))) (pg_tup rfl (pgs_cons (pg_name (i := 3) sc__law_code.nd rfl (Or.inl rfl)) (pgs_cons (pg_name (i := 4) sc__law_code.nd rfl (Or.inr rfl)) pgs_nil))))
      (pss_one (ps_ret (pe_bm PySem.F.plainAttrs_str PySem.F.slot_str_join PySem.F.type_str_join mt_join pe_str (pa_cons (pe_lc (own := [("_law_turn", 5)]) (g := (gName 5)) (by rfl) sc__law_code.nd (pi_range1 (by rfl) bt.m_range (pa_cons (pv 3) pa_nil)) (blkOk_by (N := n__law_code) (sc := defScope s__law_code) (by decide +kernel)) (fun _ _ _ _ _ => (pg_name (i := 5) sc__law_code.nd rfl (Or.inl rfl))) (fun _ _ _ _ _ => pts_nil) (fun _ _ _ _ _ => (pe_ix ix_str (pv 4) (pe_cl c__law_spin hg hr (by decide) (by rfl) (pa_cons (pv 0) (pa_cons pe_int pa_nil))) (fun _ _ => rfl)))) pa_nil))))))))), ?_⟩
    refine ⟨(by show 14 ≤ sizeLine; decide), fun S nS => ⟨_, rfl, (by show 8 ≤ sizeLine; decide), fun T nT => ⟨S, T, _, _, rfl, rfl, (same_upd nT) _ _ upd_same, upd_same, (by show 14 + 8 ≤ sizeLine; decide), fun U nU => ?_⟩⟩⟩
    have s1 : Same H (upd (upd (upd H S (.lst (codes14.map V.str))) T (.lst (codes8.map V.str))) U (.lst (codes14.map V.str ++ codes8.map V.str))) := ((same_upd nS).trans (same_upd nT)).trans (same_upd nU)
    have hU : upd (upd (upd H S (.lst (codes14.map V.str))) T (.lst (codes8.map V.str))) U (.lst (codes14.map V.str ++ codes8.map V.str)) U = some (.lst (codes14.map V.str ++ codes8.map V.str)) := upd_same
    have hN : H U = none := ((same_upd nS).trans (same_upd nT)).free nU
    refine (fun (G : ∀ H1, Same H H1 → H1 U = some (.lst (codes14.map V.str ++ codes8.map V.str)) → _) => G _ s1 hU) (fun H1 s1 hU => ?_)
    have R1 := hR.same s1
    have Ur : U ≠ r := by
      obtain ⟨_, _, _, hr2, _⟩ := id hR
      exact (ne_of_none hr2 hN).symm
    refine ⟨_, rfl, r, 27, n, rfl, by decide, by decide, by show _ < 1000000000; omega, R1, fun d H2 d0 d1 R2 o2 => ?_⟩
    have hU2 := o2 _ _ hU Ur
    have oH2 : Off r H H2 := (Off.of s1).trans o2
    refine ⟨_, rfl, _, _, rfl, rfl, _, rfl, ite2 (fun e => ?_) (fun e => ?_)⟩
    · have e0 : d < 22 := of_decide_eq_true e
      obtain ⟨c, hc, ok⟩ := getC d0 e0
      exact ⟨_, rfl, _, rfl, U, _, d, .str c, rfl, rfl, SqL.of hU2, hc, q _ c oH2 (R2.mono (by omega)) ok⟩
    · refine ⟨_, rfl, r, 8, n + 1, rfl, by decide, by decide, by show _ < 1000000000; omega, R2, fun m H3 m0 m1 R3 o3 => ⟨_, _, rfl, rfl, (by show 2 ≤ sizeLine; decide), fun p np => ⟨p, _, rfl, SqT.of upd_same, rfl, _, _, rfl, _, _, rfl, rfl, ?_⟩⟩⟩
      have R4 : Reel (upd H3 p (.tup [.int (1 + m), .str signs])) r (n + 2) := R3.same (same_upd np)
      have o4 : Off r H (upd H3 p (.tup [.int (1 + m), .str signs])) := (oH2.trans o3).sameTrans (same_upd np)
      refine (fun (G : ∀ H4, Reel H4 r (n + 2) → Off r H H4 → _) => G _ R4 o4) (fun H4 R4 o4 => ?_)
      refine ⟨rfl, _, rfl, 1 + m, rfl, by omega, by omega, fun M nM => lc_it walk_range (fun i H' => Off r H4 H' ∧ Reel H' r (n + 2 + i) ∧ ∃ cs : List Nat, H' M = some (.lst ((cs.map fun c => (⟨#[c]⟩ : Str)).map V.str)) ∧ cs.length = i ∧ ∀ c ∈ cs, c ∈ signs.cps.toList) ?_ (fun _ _ _ _ => True.intro) (fun i x H5 H6 hi p y => ?_) (fun H5 p => ?_)⟩
      · exact ⟨Off.of (same_upd nM), R4.same (same_upd nM), [], upd_same, rfl, fun c h => by simp at h⟩
      · obtain ⟨rfl, rfl⟩ := y
        obtain ⟨o5, R5, cs, hM, hl, hcs⟩ := p
        have Mr : M ≠ r := by
          obtain ⟨_, _, _, hr2, _⟩ := id R4
          exact (ne_of_none hr2 nM).symm
        have hi8 : i < 8 := by omega
        refine ⟨rfl, ⟨_, rfl, _, rfl, r, 36, n + 2 + i, rfl, by decide, by decide, by show _ < 1000000000; omega, R5, fun d' H7 d0' d1' R7 o7 => ?_⟩⟩
        obtain ⟨c, hc, hm⟩ := getS d0' d1'
        refine ⟨signs, d', c, rfl, rfl, (by decide +kernel), hc, _, o7 _ _ hM Mr, ?_, ?_⟩
        · rw [List.length_map, List.length_map]; exact small1000 (by omega)
        · refine ⟨(o5.trans o7).new nM, ?_, cs ++ [c], ?_, by rw [List.length_append, hl]; rfl, fun x hx => ?_⟩
          · obtain ⟨x, y, z, g, g'⟩ := R7
            exact ⟨x, y, z, by rw [upd_ne Mr.symm]; exact g, g'⟩
          · rw [upd_same, List.map_append, List.map_append]; rfl
          · rcases List.mem_append.mp hx with z | z
            · exact hcs x z
            · rw [List.mem_singleton.mp z]; exact hm
      · obtain ⟨o5, R5, cs, hM, hl, hcs⟩ := p
        refine ⟨"", M, cs.map fun c => ⟨#[c]⟩, rfl, rfl, .inl (SqL.of hM), ?_, ?_⟩
        · rw [sum_one, List.length_map]
          show _ + _ * 0 ≤ 16777216
          omega
        · refine q _ _ (o4.trans o5) (R5.mono (by omega)) (code_join (by omega) (by omega) hcs)
end
end K01

set_option Elab.async false
set_option linter.all false
set_option maxRecDepth 100000
set_option maxHeartbeats 8000000
namespace K01
open PySem PySem.Spec PyProof.Rows L2 Gd Rm La
def holdOk (H : Hp) (n : Int) (b : Addr) : Prop := (∃ d, H b = some (.tup [.str "code", .str d]) ∧ CodeOk d) ∨ (∃ j, H b = some (.tup [.str "layer", .int j]) ∧ 1 ≤ j ∧ j ≤ n - 1)
theorem holdOk.keep {H H' : Hp} {n : Int} {b : Addr} (h : holdOk H n b) (t : Tk H H') : holdOk H' n b := by
  rcases h with ⟨d, a, c⟩ | ⟨j, a, c⟩
  · exact .inl ⟨d, t _ _ a, c⟩
  · exact .inr ⟨j, t _ _ a, c⟩
theorem small40 {n : Int} (h : n ≤ 1000000000) : n < 10 ^ 40 := Int.lt_of_le_of_lt h (by decide)
section
variable {P : Program} {w : World} {K : PySem.W.Frag} {mg : Str → Option Value} {base : Heap}
def spLAct : Sp := fun vs H Q _ => ∃ (r : Addr) (k : Nat) (i n g : Int), vs = [.ref r, .int i, .int n, .int g] ∧ Reel H r k ∧ k + 1000 < most ∧ 0 ≤ i ∧ 1 ≤ n ∧ n ≤ 1000 ∧ 1 ≤ g ∧ g ≤ 1000000000 ∧
  ∀ (H' : Hp) (v : V) (x : Actn), Off r H H' → Reel H' r (k + 100) → ActV H' x v → ActOk n i x → Q v H'
theorem ok__law_action (bt : Bt mg) (a : At K mg "_law_action" s__law_action ["_law_reel_here", "_law_layer", "_law_layers", "_law_longest"]) (c__law_spin : Cl P w K mg base 1 "_law_spin" spSpin) (c__law_code : Cl P w K mg base 2 "_law_code" spLCode) : Cl P w K mg base 3 "_law_action" spLAct := by
  refine clG a sc__law_action (fun vs H Q E h => ?_) (fun f cdv A outer s H vs Q hg hr h => ?_)
  · obtain ⟨r, k, i, n, g, rfl, _⟩ := h
    rfl
  · obtain ⟨r, k, i, n, g, rfl, hR, hk, hi, hn, hn2, hg1, hg2, q⟩ := h
    have hk : k + 1000 < 1000000000 := hk
    refine ⟨_, (pss_cons (ps_set (i := 4) sc__law_action.nd rfl (Or.inl rfl) (pe_cl c__law_spin hg hr (by decide) (by rfl) (pa_cons (pv 0) (pa_cons pe_int pa_nil))))
      (pss_cons (ps_if (pt_cmpR op_lt (pv 4) pe_int (nomark _)) (pss_one (ps_ret (pe_tup (pa_cons pe_str (pa_cons (pe_cl c__law_code hg hr (by decide) (by rfl) (pa_cons (pv 0) pa_nil)) pa_nil))))) pss_nil)
      (pss_cons (ps_if (pt_cmpR op_eq (pv 4) pe_int (nomark _)) (pss_one (ps_ret pe_str)) pss_nil)
      (C8.pss_cut (ps_if (PW.pt (pw_and (pt_cmpR op_lt (pv 4) pe_int (nomark _)) (pw_and1 (pt_cmpR op_gt (pv 1) pe_int (nomark _))))) (pss_one (ps_ret pe_str)) pss_nil)
      (C8.pss_cut (ps_if (PW.pt (pw_and (pt_cmpR op_lt (pv 4) pe_int (nomark _)) (pw_and1 (pt_cmpR op_gt (pv 2) pe_int (nomark _))))) (pss_one (ps_ret (pe_tup (pa_cons (pe_ix ix_list (pe_lst (pa_cons pe_str (pa_cons pe_str (pa_cons pe_str pa_nil)))) (pe_cl c__law_spin hg hr (by decide) (by rfl) (pa_cons (pv 0) (pa_cons pe_int pa_nil))) (fun _ _ => rfl)) (pa_cons (pe_op op_add pe_int (pe_cl c__law_spin hg hr (by decide) (by rfl) (pa_cons (pv 0) (pa_cons (pe_op op_sub (pv 2) pe_int) pa_nil)))) pa_nil))))) pss_nil)
      (pss_cons (ps_set (i := 5) sc__law_action.nd rfl (Or.inl rfl) (pe_tup (pa_cons pe_str (pa_cons (pe_cl c__law_code hg hr (by decide) (by rfl) (pa_cons (pv 0) pa_nil)) pa_nil))))
      (C8.pss_cut (ps_if (PW.pt (pw_and (pt_cmpR op_gt (pv 2) pe_int (nomark _)) (pw_and1 (pt_cmpR op_gt (pe_cl c__law_spin hg hr (by decide) (by rfl) (pa_cons (pv 0) (pa_cons pe_int pa_nil))) pe_int (nomark _))))) (pss_one (ps_set (i := 5) sc__law_action.nd rfl (Or.inl rfl) (pe_tup (pa_cons pe_str (pa_cons (pe_op op_add pe_int (pe_cl c__law_spin hg hr (by decide) (by rfl) (pa_cons (pv 0) (pa_cons (pe_op op_sub (pv 2) pe_int) pa_nil)))) pa_nil))))) pss_nil)
      (pss_cons (ps_set (i := 6) sc__law_action.nd rfl (Or.inl rfl) (pe_ix ix_list (pe_lst (pa_cons (pe_op op_add pe_int (pe_cl c__law_spin hg hr (by decide) (by rfl) (pa_cons (pv 0) (pa_cons (pe_callB (call_min2 rfl) (by rfl) bt.m_min (by decide +kernel) (pa_cons pe_int (pa_cons (pv 3) pa_nil))) pa_nil)))) (pa_cons (pe_op op_add pe_int (pe_cl c__law_spin hg hr (by decide) (by rfl) (pa_cons (pv 0) (pa_cons (pv 3) pa_nil)))) (pa_cons (pv 3) pa_nil)))) (pe_cl c__law_spin hg hr (by decide) (by rfl) (pa_cons (pv 0) (pa_cons pe_int pa_nil))) (fun _ _ => rfl)))
      (pss_one (ps_ret (pe_tup (pa_cons pe_str (pa_cons (pe_cl c__law_code hg hr (by decide) (by rfl) (pa_cons (pv 0) pa_nil)) (pa_cons (pv 5) (pa_cons (pv 6) (pa_cons (pe_ix ix_list (pe_lst (pa_cons pe_str (pa_cons pe_str (pa_cons pe_str pa_nil)))) (pe_cl c__law_spin hg hr (by decide) (by rfl) (pa_cons (pv 0) (pa_cons pe_int pa_nil))) (fun _ _ => rfl)) pa_nil)))))))))))))))), ?_⟩
    refine ⟨_, rfl, r, 12, k, rfl, by decide, by decide, by show _ < 1000000000; omega, hR, fun way H1 w0 w1 R1 o1 => ?_⟩
    refine ⟨_, rfl, _, _, rfl, rfl, _, rfl, ite2 (fun e => ?_) (fun e => ?_)⟩
    · refine ⟨_, rfl, r, k + 1, rfl, R1, by show _ < 1000000000; omega, fun H2 c o2 R2 ok => ⟨(by show 2 ≤ sizeLine; decide), fun p np => ?_⟩⟩
      exact q _ _ (.code c) ((o1.trans o2).sameTrans (same_upd np)) ((R2.same (same_upd np)).mono (by omega)) ⟨p, rfl, upd_same⟩ ok
    clear e
    refine ⟨_, rfl, rfl, _, rfl, ite2 (fun e => q _ _ .none o1 (R1.mono (by omega)) rfl True.intro) (fun e => ?_)⟩
    clear e
    refine ⟨fun σ' H' => σ' = [some (.ref r), some (.int i), some (.int n), some (.int g), some (.int way), none, none] ∧ H' = H1, ?_, ?_⟩
    · refine ⟨_, rfl, _, _, rfl, rfl, _, rfl, ite2 (fun e => ?_) (fun e => iteF ⟨rfl, rfl⟩)⟩
      refine ⟨_, rfl, _, _, rfl, rfl, _, rfl, ite2 (fun e => ?_) (fun e => ⟨rfl, rfl⟩)⟩
      have e0 : 0 < i := of_decide_eq_true e
      exact q _ _ .thr o1 (R1.mono (by omega)) rfl e0
    rintro σ' H1 ⟨rfl, rfl⟩
    refine ⟨fun σ' H' => σ' = [some (.ref r), some (.int i), some (.int n), some (.int g), some (.int way), none, none] ∧ H' = H1, ?_, ?_⟩
    · refine ⟨_, rfl, _, _, rfl, rfl, _, rfl, ite2 (fun e => ?_) (fun e => iteF ⟨rfl, rfl⟩)⟩
      refine ⟨_, rfl, _, _, rfl, rfl, _, rfl, ite2 (fun e => ?_) (fun e => ⟨rfl, rfl⟩)⟩
      have e0 : 1 < n := of_decide_eq_true e
      refine ⟨(by show 3 ≤ sizeLine; decide), fun M nM => ⟨_, rfl, r, 3, k + 1, rfl, by decide, by decide, by show _ < 1000000000; omega, R1.same (same_upd nM), fun d H2 d0 d1 R2 o2 => ?_⟩⟩
      have Mr : M ≠ r := by
        obtain ⟨_, _, _, hr2, _⟩ := id R1
        exact (ne_of_none hr2 nM).symm
      have hM := o2 _ _ (upd_same (H := H1) (a := M) (o := .lst (layWords.map V.str))) Mr
      obtain ⟨c, hc, hm⟩ := getW (ws := layWords) d0 d1
      refine ⟨M, _, d, .str c, rfl, rfl, SqL.of hM, hc, _, rfl, _, rfl, _, _, rfl, rfl, r, n - 1, k + 2, rfl, by omega, small40 (by omega), by show _ < 1000000000; omega, R2, fun j H3 j0 j1 R3 o3 => ⟨_, _, rfl, rfl, (by show 2 ≤ sizeLine; decide), fun p np => ?_⟩⟩
      exact q _ _ (.lay c (1 + j)) (((((o1.sameTrans (same_upd nM)).trans o2).trans o3)).sameTrans (same_upd np)) ((R3.same (same_upd np)).mono (by omega)) ⟨p, rfl, upd_same⟩ ⟨hm, by omega, by omega⟩
    rintro σ' H1 ⟨rfl, rfl⟩
    refine ⟨_, rfl, r, k + 1, rfl, R1, by show _ < 1000000000; omega, fun H2 c o2 R2 ok => ⟨(by show 2 ≤ sizeLine; decide), fun p np => ?_⟩⟩
    have h3 : holdOk (upd H2 p (.tup [.str "code", .str c])) n p := .inl ⟨c, upd_same, ok⟩
    have o3 : Off r H (upd H2 p (.tup [.str "code", .str c])) := (o1.trans o2).sameTrans (same_upd np)
    have R3 : Reel (upd H2 p (.tup [.str "code", .str c])) r (k + 1 + 20) := R2.same (same_upd np)
    refine (fun (G : ∀ H3, holdOk H3 n p → Off r H H3 → Reel H3 r (k + 1 + 20) → _) => G _ h3 o3 R3) (fun H3 h3 o3 R3 => ?_)
    refine ⟨fun σ' H' => ∃ b, σ' = [some (.ref r), some (.int i), some (.int n), some (.int g), some (.int way), some (.ref b), none] ∧ Off r H H' ∧ Reel H' r (k + 30) ∧ holdOk H' n b, ?_, ?_⟩
    · refine ⟨_, rfl, _, _, rfl, rfl, _, rfl, ite2 (fun e => ?_) (fun e => iteF ⟨p, rfl, o3, R3.mono (by omega), h3⟩)⟩
      have e0 : 1 < n := of_decide_eq_true e
      refine ⟨_, rfl, r, 3, k + 1 + 20, rfl, by decide, by decide, by show _ < 1000000000; omega, R3, fun d H4 d0 d1 R4 o4 => ⟨_, _, rfl, rfl, _, rfl, ite2 (fun e => ?_) (fun e => ⟨p, rfl, o3.trans o4, R4.mono (by omega), h3.keep (R3.tk o4)⟩)⟩⟩
      refine ⟨_, rfl, _, rfl, _, _, rfl, rfl, r, n - 1, k + 1 + 20 + 1, rfl, by omega, small40 (by omega), by show _ < 1000000000; omega, R4, fun j H5 j0 j1 R5 o5 => ⟨_, _, rfl, rfl, (by show 2 ≤ sizeLine; decide), fun p2 np2 => ?_⟩⟩
      exact ⟨p2, rfl, ((o3.trans o4).trans o5).sameTrans (same_upd np2), (R5.same (same_upd np2)).mono (by omega), .inr ⟨1 + j, upd_same, by omega, by omega⟩⟩
    rintro σ' H4 ⟨b, rfl, o4, R4, h4⟩
    have gm : ∀ x : Int, 0 < (if g < x then g else x) ∨ x ≤ 0 := fun x => by split <;> omega
    refine ⟨_, rfl, _, rfl, _, _, rfl, r, (if g < 4 then g else 4), k + 30, rfl, by split <;> omega, small40 (by split <;> omega), by show _ < 1000000000; omega, R4, fun t1 H5 a0 a1 R5 o5 => ⟨_, _, rfl, rfl, ?_⟩⟩
    refine ⟨_, rfl, _, rfl, r, g, k + 30 + 1, rfl, by omega, small40 hg2, by show _ < 1000000000; omega, R5, fun t2 H6 b0 b1 R6 o6 => ⟨_, _, rfl, rfl, _, rfl, (by show 3 ≤ sizeLine; decide), fun M nM => ?_⟩⟩
    refine ⟨_, rfl, r, 3, k + 30 + 1 + 1, rfl, by decide, by decide, by show _ < 1000000000; omega, R6.same (same_upd nM), fun d H7 d0 d1 R7 o7 => ?_⟩
    have Mr : M ≠ r := by
      obtain ⟨_, _, _, hr2, _⟩ := id R6
      exact (ne_of_none hr2 nM).symm
    have hM := o7 _ _ (upd_same (H := H6) (a := M) (o := .lst ([1 + t1, 1 + t2, g].map V.int))) Mr
    obtain ⟨t, ht, hm⟩ := getI (ns := [1 + t1, 1 + t2, g]) d0 d1
    have tb : 1 ≤ t ∧ t ≤ 1000000000 := by
      have hm' := List.mem_of_getElem? hm
      simp only [List.mem_cons, List.mem_nil_iff, or_false] at hm'
      have a1' : t1 < 4 := by
        revert a1
        split <;> omega
      have a2' : t1 < g := by
        revert a1
        split <;> omega
      omega
    refine ⟨M, _, d, .int t, rfl, rfl, SqL.of hM, ht, ?_⟩
    have o07 : Off r H H7 := (((o4.trans o5).trans o6).sameTrans (same_upd nM)).trans o7
    have h7 : holdOk H7 n b := (((h4.keep (R4.tk o5)).keep (R5.tk o6)).keep (Tk.of (same_upd nM))).keep ((R6.same (same_upd nM)).tk o7)
    refine ⟨_, rfl, r, k + 40, rfl, R7.mono (by omega), by show _ < 1000000000; omega, fun H8 c2 o8 R8 ok2 => ⟨_, rfl, _, rfl, (by show 3 ≤ sizeLine; decide), fun W nW => ?_⟩⟩
    refine ⟨_, rfl, r, 3, k + 40 + 20, rfl, by decide, by decide, by show _ < 1000000000; omega, R8.same (same_upd nW), fun d' H9 d0' d1' R9 o9 => ?_⟩
    have Wr : W ≠ r := by
      obtain ⟨_, _, _, hr2, _⟩ := id R8
      exact (ne_of_none hr2 nW).symm
    have hW := o9 _ _ (upd_same (H := H8) (a := W) (o := .lst (rules.map V.str))) Wr
    obtain ⟨u, hu, hmu⟩ := getW (ws := rules) d0' d1'
    refine ⟨W, _, d', .str u, rfl, rfl, SqL.of hW, hu, (by show 5 ≤ sizeLine; decide), fun z nz => ?_⟩
    have h9 : holdOk (upd H9 z (.tup [.str "dual", .str c2, .ref b, .int t, .str u])) n b := (((h7.keep (R7.tk o8)).keep (Tk.of (same_upd nW))).keep ((R8.same (same_upd nW)).tk o9)).keep (Tk.of (same_upd nz))
    have o10 : Off r H (upd H9 z (.tup [.str "dual", .str c2, .ref b, .int t, .str u])) := ((((o07.trans o8).sameTrans (same_upd nW)).trans o9)).sameTrans (same_upd nz)
    have R10 : Reel (upd H9 z (.tup [.str "dual", .str c2, .ref b, .int t, .str u])) r (k + 100) := (R9.same (same_upd nz)).mono (by omega)
    rcases h9 with ⟨y, hy, oky⟩ | ⟨y, hy, y1, y2⟩
    · exact q _ _ (.dualC c2 y t u) o10 R10 ⟨z, b, rfl, upd_same, hy⟩ ⟨ok2, oky, tb, hmu⟩
    · exact q _ _ (.dualL c2 y t u) o10 R10 ⟨z, b, rfl, upd_same, hy⟩ ⟨ok2, ⟨y1, y2⟩, tb, hmu⟩
end
end K01

set_option Elab.async false
set_option linter.all false
set_option maxRecDepth 100000
set_option maxHeartbeats 8000000
namespace K01
open PySem PySem.Spec PyProof.Rows L2 Gd Rm La
structure Fresh (H0 : Hp) (D : Addr) (L : List (List Actn)) (H : Hp) : Prop where
  same : Same H0 H
  ls : ∃ rs : List Addr, H D = some (.lst (rs.map V.ref)) ∧ Rows H rs L ∧ rs.Nodup ∧ ∀ r ∈ rs, H0 r = none ∧ r ≠ D
theorem Fresh.start {H0 : Hp} {D : Addr} (n : H0 D = none) : Fresh H0 D [] (upd H0 D (.lst [])) :=
  ⟨same_upd n, [], upd_same, ⟨rfl, fun i r row h _ => by simp at h⟩, List.nodup_nil, fun r h => by simp at h⟩
theorem row_upd {H : Hp} {r p : Addr} {xs : List Actn} {ys zs : List V} (h : Row H r xs) (hp : H p = some (.lst ys)) (n : r ≠ p) : Row (upd H p (.lst zs)) r xs := by
  obtain ⟨vs, a, b⟩ := h
  exact ⟨vs, by rw [upd_ne n]; exact a, b.keep (tk_upd hp)⟩
theorem Rows.snoc {H : Hp} {rs : List Addr} {L : List (List Actn)} {r : Addr} {row : List Actn} (h : Rows H rs L) (hr : Row H r row) : Rows H (rs ++ [r]) (L ++ [row]) := by
  refine ⟨by rw [List.length_append, List.length_append, h.1]; rfl, fun i u y a b => ?_⟩
  have hl := h.1
  rcases Nat.lt_or_ge i rs.length with q | q
  · rw [List.getElem?_append_left q] at a
    rw [List.getElem?_append_left (by omega)] at b
    exact h.2 i u y a b
  · have hi : i = rs.length := by
      have := (List.getElem?_eq_some_iff.mp a).1
      rw [List.length_append] at this
      simp at this
      omega
    subst hi
    rw [List.getElem?_append_right (Nat.le_refl _), Nat.sub_self] at a
    rw [List.getElem?_append_right (by omega), show rs.length - L.length = 0 by omega] at b
    have e1 : r = u := Option.some.inj a
    have e2 : row = y := Option.some.inj b
    subst e1 e2
    exact hr
def FL (H0 : Hp) (D : Addr) (L : List (List Actn)) (H : Hp) : Prop := ∃ rs : List Addr, H D = some (.lst (rs.map V.ref)) ∧ Rows H rs L ∧ rs.Nodup ∧ ∀ r ∈ rs, H0 r = none ∧ r ≠ D
theorem FL.lay {H0 H : Hp} {D : Addr} {L : List (List Actn)} (h : FL H0 D L H) : Lay H D L := by
  obtain ⟨rs, a, b, _⟩ := h
  exact ⟨rs, a, b⟩
theorem Fresh.lay {H0 H : Hp} {D : Addr} {L : List (List Actn)} (h : Fresh H0 D L H) : Lay H D L := by
  obtain ⟨_, rs, a, b, _⟩ := h
  exact ⟨rs, a, b⟩
theorem row_off {H H' : Hp} {r p : Addr} {xs : List Actn} (h : Row H p xs) (n : p ≠ r) (o : Off r H H') (t : Tk H H') : Row H' p xs := by
  obtain ⟨vs, a, b⟩ := h
  exact ⟨vs, o _ _ a n, b.keep t⟩
theorem FL.more {H0 H1 H5 : Hp} {F M r : Addr} {L : List (List Actn)} {row : List Actn} {vs : List V} {oo : HO} (g : FL H0 F L H1) (nF : H0 F = none) (hr0 : H0 r = some oo) (fM : H0 M = none) (nM : H1 M = none) (o : Off r H1 H5) (t : Tk H1 H5)
    (hM : H5 M = some (.lst vs)) (ha : Acts H5 vs row) : ∃ acc : List V, H5 F = some (.lst acc) ∧ acc.length = L.length ∧ FL H0 F (L ++ [row]) (upd H5 F (.lst (acc ++ [.ref M]))) := by
  obtain ⟨rs, h, hR, nd, hn⟩ := g
  have Fr : F ≠ r := (ne_of_none hr0 nF).symm
  have FM : F ≠ M := ne_of_none h nM
  have h5 : H5 F = some (.lst (rs.map V.ref)) := o _ _ h Fr
  refine ⟨rs.map V.ref, h5, by rw [List.length_map]; exact hR.1, rs ++ [M], by rw [upd_same, List.map_append]; rfl, ?_, ?_, fun q hq => ?_⟩
  · refine Rows.snoc ⟨hR.1, fun i r' row' a b => row_upd (row_off (hR.2 i r' row' a b) ?_ o t) h5 (hn r' (List.mem_of_getElem? a)).2⟩ ⟨vs, by rw [upd_ne FM.symm]; exact hM, ha.keep (tk_upd h5)⟩
    exact (ne_of_none hr0 (hn r' (List.mem_of_getElem? a)).1).symm
  · refine List.nodup_append.mpr ⟨nd, List.nodup_cons.mpr ⟨by simp, List.nodup_nil⟩, fun a ha' b hb e => ?_⟩
    have hb : b = M := List.mem_singleton.mp hb
    subst hb
    subst e
    obtain ⟨i, hi⟩ := List.getElem?_of_mem ha'
    have hil := (List.getElem?_eq_some_iff.mp hi).1
    obtain ⟨vs', hv, _⟩ := hR.2 i a _ hi (List.getElem?_eq_getElem (by rw [← hR.1]; exact hil))
    rw [nM] at hv
    cases hv
  · rcases List.mem_append.mp hq with z | z
    · exact hn q z
    · rw [List.mem_singleton.mp z]; exact ⟨fM, FM.symm⟩
section
variable {P : Program} {w : World} {K : PySem.W.Frag} {mg : Str → Option Value} {base : Heap}
def spLLay : Sp := fun vs H Q _ => ∃ (r : Addr) (k n m : Nat) (g : Int), vs = [.ref r, .int (n : Int), .int (m : Int), .int g] ∧ Reel H r k ∧ k + 20000 < most ∧ 1 ≤ n ∧ n ≤ 6 ∧ 1 ≤ m ∧ m ≤ 16 ∧ 1 ≤ g ∧ g ≤ 1000000000 ∧
  ∀ (H' : Hp) (p : Addr) (L : List (List Actn)), Off r H H' → H p = none → Reel H' r (k + 10000) → FL H p L H' → LayOk L m → L.length = n → Q (.ref p) H'
theorem ok__law_layout (bt : Bt mg) (a : At K mg "_law_layout" s__law_layout ["_law_reel_here", "_law_layers", "_law_keys", "_law_longest"]) (c__law_action : Cl P w K mg base 3 "_law_action" spLAct) : Cl P w K mg base 4 "_law_layout" spLLay := by
  refine clG a sc__law_layout (fun vs H Q E h => ?_) (fun f cdv A outer s H vs Q hg hr h => ?_)
  · obtain ⟨r, k, n, m, g, rfl, _⟩ := h
    rfl
  · obtain ⟨r, k, n, m, g, rfl, hR, hk, n1, n6, m1, m16, g1, g2, q⟩ := h
    have hk : k + 20000 < 1000000000 := hk
    obtain ⟨_, _, _, hr0, _⟩ := id hR
    refine ⟨_, (pss_cons (ps_set (i := 4) sc__law_layout.nd rfl (Or.inl rfl) (pe_lst pa_nil))
      (pss_cons (ps_for PassesOwn.never rfl (pi_range1 (by rfl) bt.m_range (pa_cons (pv 1) pa_nil)) (pg_name (i := 5) sc__law_layout.nd rfl (Or.inr rfl)) (pss_one (ps_expr (pe_bm PySem.F.plainAttrs_list PySem.F.slot_list_append PySem.F.type_list_append mt_append (pv 4) (pa_cons (pe_lc (own := [("_law_key", 6)]) (g := (gName 6)) (by rfl) sc__law_layout.nd (pi_range1 (by rfl) bt.m_range (pa_cons (pv 2) pa_nil)) (blkOk_by (N := n__law_layout) (sc := defScope s__law_layout) (by decide +kernel)) (fun _ _ _ _ _ => (pg_name (i := 6) sc__law_layout.nd rfl (Or.inl rfl))) (fun _ _ _ _ _ => pts_nil) (fun _ _ _ _ _ => (pe_cl c__law_action hg hr (by decide) (by rfl) (pa_cons (pv 0) (pa_cons (pv 5) (pa_cons (pv 1) (pa_cons (pv 3) pa_nil))))))) pa_nil)))))
      (pss_one (ps_ret (pv 4))))), ?_⟩
    refine ⟨Nat.zero_le _, fun F nF => ?_⟩
    have fl0 : FL H F [] (upd H F (.lst [])) := ⟨[], upd_same, ⟨rfl, fun i r row h _ => by simp at h⟩, List.nodup_nil, fun r h => by simp at h⟩
    have Fr : F ≠ r := (ne_of_none hr0 nF).symm
    refine ⟨_, rfl, (n : Int), rfl, by omega, by omega, for_it walk_range (fun i σ H' => (∃ y5 y6, σ = [some (.ref r), some (.int (n : Int)), some (.int (m : Int)), some (.int g), some (.ref F), y5, y6]) ∧ Off r H H' ∧ Reel H' r (k + 1600 * i) ∧ ∃ L, FL H F L H' ∧ L.length = i ∧ (∀ row ∈ L, row.length = m) ∧ ∀ (i' : Nat) row, L[i']? = some row → ∀ x ∈ row, ActOk n i' x)
      ⟨⟨_, _, rfl⟩, Off.of (same_upd nF), hR.same (same_upd nF), [], fl0, rfl, fun row h => by simp at h, fun i' row h => by simp at h⟩ (fun _ _ _ _ _ => True.intro) (fun i x σ Hx H1 hi p y => ?_) (fun σ H1 p => ?_)⟩
    · obtain ⟨⟨y5, y6, rfl⟩, o1, R1, L, fl, hL, hlen, hok⟩ := p
      obtain ⟨rfl, hx⟩ := y
      have hx : x = .int (0 + (i : Int)) := hx
      have e0 : (0 : Int) + (i : Int) = (i : Int) := Int.zero_add _
      rw [e0] at hx
      subst hx
      have hi6 : i < 6 := by omega
      obtain ⟨rs, hF, _⟩ := id fl
      refine ⟨_, rfl, .inl ⟨rfl, _, SqL.of hF⟩, _, rfl, (m : Int), rfl, by omega, by omega, fun M nM => lc_it walk_range (fun j H' => Off r H1 H' ∧ Reel H' r (k + 1600 * i + 100 * j) ∧ ∃ vs xs, H' M = some (.lst vs) ∧ Acts H' vs xs ∧ xs.length = j ∧ ∀ x ∈ xs, ActOk n i x) ?_ (fun _ _ _ _ => True.intro) (fun j x Hx H2 hj p y => ?_) (fun H2 p => ?_)⟩
      · exact ⟨Off.of (same_upd nM), R1.same (same_upd nM), [], [], upd_same, Acts.nil, rfl, fun x h => by simp at h⟩
      · obtain ⟨o2, R2, vs, xs, hM, hA, hxl, hxo⟩ := p
        obtain ⟨rfl, rfl⟩ := y
        obtain ⟨_, _, _, hr1, _⟩ := id R1
        have Mr : M ≠ r := (ne_of_none hr1 nM).symm
        have hj16 : j < 16 := by omega
        refine ⟨rfl, ⟨_, rfl, _, rfl, _, rfl, _, rfl, r, k + 1600 * i + 100 * j, i, n, g, rfl, R2, by show _ < 1000000000; omega, by omega, by omega, by omega, g1, g2, fun H3 v x o3 R3 hv ok => ?_⟩⟩
        have hM3 := o3 _ _ hM Mr
        have hvl := hA.1
        refine ⟨vs, hM3, small1000 (by omega), (o2.trans o3).new nM, ?_, vs ++ [v], xs ++ [x], upd_same, ?_, by rw [List.length_append, hxl]; rfl, fun z hz => ?_⟩
        · obtain ⟨x, y, z, g, g'⟩ := R3
          exact ⟨x, y, z, by rw [upd_ne Mr.symm]; exact g, by have := g'; omega⟩
        · exact ((hA.keep (R2.tk o3)).snoc hv).keep (tk_upd hM3)
        · rcases List.mem_append.mp hz with q | q
          · exact hxo z q
          · rw [List.mem_singleton.mp q]; exact ok
      · obtain ⟨o2, R2, vs, xs, hM, hA, hxl, hxo⟩ := p
        obtain ⟨_, _, _, hr1, _⟩ := id R1
        obtain ⟨acc, hF2, hal, fl2⟩ := fl.more nF hr0 (o1.free hr1 nM) nM o2 (R1.tk o2) hM hA
        refine ⟨F, acc, .ref M, rfl, rfl, hF2, small1000 (by omega), ⟨_, _, rfl⟩, (o1.trans o2).new nF, ?_, L ++ [xs], fl2, by rw [List.length_append, hL]; rfl, fun row hrow => ?_, fun i' row hrow => ?_⟩
        · obtain ⟨x, y, z, g, g'⟩ := R2
          exact ⟨x, y, z, by rw [upd_ne Fr.symm]; exact g, by have := g'; omega⟩
        · rcases List.mem_append.mp hrow with z | z
          · exact hlen row z
          · rw [List.mem_singleton.mp z, hxl]; omega
        · rcases Nat.lt_or_ge i' L.length with z | z
          · rw [List.getElem?_append_left z] at hrow
            exact hok i' row hrow
          · have hi' : i' = L.length := by
              have := (List.getElem?_eq_some_iff.mp hrow).1
              rw [List.length_append] at this
              simp at this
              omega
            subst hi'
            rw [List.getElem?_append_right (Nat.le_refl _), Nat.sub_self] at hrow
            have e : xs = row := Option.some.inj hrow
            subst e
            rw [hL]
            exact hxo
    · obtain ⟨⟨y5, y6, rfl⟩, o1, R1, L, fl, hL, hlen, hok⟩ := p
      have hL : L.length = n := by omega
      refine ⟨_, rfl, q _ F L o1 nF (R1.mono (by omega)) fl ⟨by omega, by omega, m1, m16, hlen, ?_⟩ hL⟩
      rw [hL]
      exact hok
end
end K01

set_option Elab.async false
set_option linter.all false
set_option maxRecDepth 100000
set_option maxHeartbeats 8000000
namespace K01
open PySem PySem.Spec PyProof.Rows L2 Gd Rm La
/-! ### what data is -/
def intB : PyData → Bool
  | .int _ => true
  | _ => false
def btwB (lo hi : Int) : PyData → Bool
  | .int i => decide (lo ≤ i) && decide (i ≤ hi)
  | _ => false
def codeB : PyData → Bool
  | .str c => decide (CodeOk c)
  | _ => false
def intsOf : List PyData → List Int
  | [] => []
  | .int i :: ds => i :: intsOf ds
  | _ :: ds => intsOf ds
def strIs (s : Str) : PyData → Bool
  | .str x => decide (x = s)
  | _ => false
def strIn (ws : List Str) : PyData → Bool
  | .str x => decide (x ∈ ws)
  | _ => false
def caB : PyData → Bool
  | .tuple [w, c] => strIs ("code" : Str) w && codeB c
  | _ => false
def laB (ws : List Str) (n : Int) : PyData → Bool
  | .tuple [w, l] => strIn ws w && btwB 1 (n - 1) l
  | _ => false
def holdB (n : Int) (d : PyData) : Bool := caB d || laB [("layer" : Str)] n d
def dualB (n : Int) : PyData → Bool
  | .tuple [w, t, h, m, r] => strIs ("dual" : Str) w && (codeB t && (holdB n h && (btwB 1 1000000000 m && strIn rules r)))
  | _ => false
def standB (i n : Int) : PyData → Bool
  | .str x => decide (x = ("none" : Str)) || (decide (x = ("through" : Str)) && decide (0 < i))
  | .tuple ds => if ds.length = 2 then caB (.tuple ds) || laB layWords n (.tuple ds) else dualB n (.tuple ds)
  | _ => false
theorem strIs_kind {s : Str} {d : PyData} (h : kindS d ≠ "str") : strIs s d = false := by
  cases d with
  | str x => exact absurd rfl h
  | _ => rfl
theorem strIn_kind {ws : List Str} {d : PyData} (h : kindS d ≠ "str") : strIn ws d = false := by
  cases d with
  | str x => exact absurd rfl h
  | _ => rfl
theorem dq_two {K : PySem.W.Frag} {H : Hp} {xs : List V} {ds : List PyData} (h : DqAll K H xs ds) (hl : ds.length = 2) : ∃ k t vk vt, ds = [k, t] ∧ xs = [vk, vt] ∧ Dq K H vk k ∧ Dq K H vt t := by
  cases h with
  | nil => cases hl
  | cons a h =>
    cases h with
    | nil => cases hl
    | cons b h =>
      cases h with
      | nil => exact ⟨_, _, _, _, rfl, rfl, a, b⟩
      | cons _ _ => simp at hl
theorem dq_five {K : PySem.W.Frag} {H : Hp} {xs : List V} {ds : List PyData} (h : DqAll K H xs ds) (hl : ds.length = 5) : ∃ a b c d e va vb vc vd ve, ds = [a, b, c, d, e] ∧ xs = [va, vb, vc, vd, ve] ∧ Dq K H va a ∧ Dq K H vb b ∧ Dq K H vc c ∧ Dq K H vd d ∧ Dq K H ve e := by
  cases h with
  | nil => cases hl
  | cons a h =>
    cases h with
    | nil => cases hl
    | cons b h =>
      cases h with
      | nil => cases hl
      | cons c h =>
        cases h with
        | nil => cases hl
        | cons d h =>
          cases h with
          | nil => cases hl
          | cons e h =>
            cases h with
            | nil => exact ⟨_, _, _, _, _, _, _, _, _, _, rfl, rfl, a, b, c, d, e⟩
            | cons _ _ => simp at hl
theorem ca_len {ds : List PyData} (h : ds.length ≠ 2) : caB (.tuple ds) = false := by
  match ds, h with
  | [], _ => rfl
  | [_], _ => rfl
  | [_, _], h => exact absurd rfl h
  | _ :: _ :: _ :: _, _ => rfl
theorem la_len {ws : List Str} {n : Int} {ds : List PyData} (h : ds.length ≠ 2) : laB ws n (.tuple ds) = false := by
  match ds, h with
  | [], _ => rfl
  | [_], _ => rfl
  | [_, _], h => exact absurd rfl h
  | _ :: _ :: _ :: _, _ => rfl
theorem du_len {n : Int} {ds : List PyData} (h : ds.length ≠ 5) : dualB n (.tuple ds) = false := by
  match ds, h with
  | [], _ => rfl
  | [_], _ => rfl
  | [_, _], _ => rfl
  | [_, _, _], _ => rfl
  | [_, _, _, _], _ => rfl
  | [_, _, _, _, _], h => exact absurd rfl h
  | _ :: _ :: _ :: _ :: _ :: _ :: _, _ => rfl
section
variable {P : Program} {w : World} {K : PySem.W.Frag} {mg : Str → Option Value} {base : Heap}
def spInt (K : PySem.W.Frag) : Sp := fun vs H Q _ => ∃ (v : V) (d : PyData), vs = [v] ∧ Dq K H v d ∧ Q (.bl (intB d)) H
theorem ok_is_an_integer (bt : Bt mg) (a : At K mg "is_an_integer" s_is_an_integer ["value"]) : Cl P w K mg base 1 "is_an_integer" (spInt K) := by
  refine clG a sc_is_an_integer (fun vs H Q E h => ?_) (fun f cdv A outer s H vs Q hg hr h => ?_)
  · obtain ⟨v, d, rfl, _⟩ := h
    rfl
  · obtain ⟨v, d, rfl, hd, q⟩ := h
    refine ⟨_, (pss_one (ps_ret (pe_and (pe_callB call_isi (by rfl) bt.m_isinstance (by decide +kernel) (pa_cons (pv 0) (pa_cons (pe_bltn (v := .ty "int") (by rfl) bt.m_int (by decide +kernel) rfl) pa_nil))) (pe_one (pe_not (pe_callB call_isi (by rfl) bt.m_isinstance (by decide +kernel) (pa_cons (pv 0) (pa_cons (pe_bltn (v := .ty "bool") (by rfl) bt.m_bool (by decide +kernel) rfl) pa_nil)))))))), ?_⟩
    have ty := hd.ty
    cases d with
    | int i =>
      refine ⟨_, rfl, _, _, _, _, true, rfl, .ty "int", ty, kit_ty (show kitB "int" "int" = some true by decide +kernel), _, rfl, iteT ?_⟩
      exact ⟨_, rfl, _, _, _, _, false, rfl, .ty "bool", ty, kit_ty (show kitB "int" "bool" = some false by decide +kernel), _, rfl, q⟩
    | bool b =>
      refine ⟨_, rfl, _, _, _, _, true, rfl, .ty "int", ty, kit_ty (show kitB "bool" "int" = some true by decide +kernel), _, rfl, iteT ?_⟩
      exact ⟨_, rfl, _, _, _, _, true, rfl, .ty "bool", ty, kit_ty (show kitB "bool" "bool" = some true by decide +kernel), _, rfl, q⟩
    | none => exact ⟨_, rfl, _, _, _, _, false, rfl, .ty "int", ty, kit_ty (show kitB "NoneType" "int" = some false by decide +kernel), _, rfl, iteF q⟩
    | str => exact ⟨_, rfl, _, _, _, _, false, rfl, .ty "int", ty, kit_ty (show kitB "str" "int" = some false by decide +kernel), _, rfl, iteF q⟩
    | list => exact ⟨_, rfl, _, _, _, _, false, rfl, .ty "int", ty, kit_ty (show kitB "list" "int" = some false by decide +kernel), _, rfl, iteF q⟩
    | tuple => exact ⟨_, rfl, _, _, _, _, false, rfl, .ty "int", ty, kit_ty (show kitB "tuple" "int" = some false by decide +kernel), _, rfl, iteF q⟩
    | dict => exact ⟨_, rfl, _, _, _, _, false, rfl, .ty "int", ty, kit_ty (show kitB "dict" "int" = some false by decide +kernel), _, rfl, iteF q⟩
def spBtw (K : PySem.W.Frag) : Sp := fun vs H Q _ => ∃ (v : V) (d : PyData) (lo hi : Int), vs = [v, .int lo, .int hi] ∧ Dq K H v d ∧ Q (.bl (btwB lo hi d)) H
theorem ok_is_between (a : At K mg "is_between" s_is_between ["value", "low", "high"]) (c_is_an_integer : Cl P w K mg base 1 "is_an_integer" (spInt K)) : Cl P w K mg base 2 "is_between" (spBtw K) := by
  refine clG a sc_is_between (fun vs H Q E h => ?_) (fun f cdv A outer s H vs Q hg hr h => ?_)
  · obtain ⟨v, d, lo, hi, rfl, _⟩ := h
    rfl
  · obtain ⟨v, d, lo, hi, rfl, hd, q⟩ := h
    refine ⟨_, (pss_one (ps_ret (pe_and (pe_cl c_is_an_integer hg hr (by decide) (by rfl) (pa_cons (pv 0) pa_nil)) (pe_one (pe_chain op_le op_le (pv 1) (pv 0) (pv 2)))))), ?_⟩
    refine ⟨_, rfl, v, d, rfl, hd, _, rfl, ?_⟩
    cases hd with
    | int i =>
      refine iteT ⟨_, rfl, _, rfl, _, _, rfl, rfl, ?_⟩
      by_cases h1 : lo ≤ i
      · refine ⟨true, congrArg V.bl (decide_eq_true h1), iteT ⟨_, rfl, _, _, rfl, rfl, ?_⟩⟩
        have q' : Q (.bl (decide (lo ≤ i) && decide (i ≤ hi))) H := q
        rw [decide_eq_true h1, Bool.true_and] at q'
        exact q'
      · refine ⟨false, congrArg V.bl (decide_eq_false h1), iteF ?_⟩
        have q' : Q (.bl (decide (lo ≤ i) && decide (i ≤ hi))) H := q
        rw [decide_eq_false h1, Bool.false_and] at q'
        exact q'
    | _ => exact iteF q
def spCode (K : PySem.W.Frag) : Sp := fun vs H Q _ => ∃ (v : V) (d : PyData), vs = [v] ∧ Dq K H v d ∧ szB d = true ∧ ∀ H', Same H H' → Q (.bl (codeB d)) H'
theorem ok_is_code (bt : Bt mg) {tk1 tk2 : Tok} (m_MOST_SIGNS : mg "MOST_SIGNS" = some (.int 8 tk1)) (m_CODE_SIGNS : mg "CODE_SIGNS" = some (.str "abcdefghijklmnopqrstuvwxyz0123456789" tk2)) (a : At K mg "is_code" s_is_code ["value"]) : Cl P w K mg base 1 "is_code" (spCode K) := by
  refine clG a sc_is_code (fun vs H Q E h => ?_) (fun f cdv A outer s H vs Q hg hr h => ?_)
  · obtain ⟨v, d, rfl, _⟩ := h
    rfl
  · obtain ⟨v, d, rfl, hd, sz, q⟩ := h
    refine ⟨_, (pss_cons (ps_if (PW.pt (pw_or (pt_not (pt_val (pe_callB call_isi (by rfl) bt.m_isinstance (by decide +kernel) (pa_cons (pv 0) (pa_cons (pe_bltn (v := .ty "str") (by rfl) bt.m_str (by decide +kernel) rfl) pa_nil))))) (pw_or1 (pt_not (pt_chain op_le op_le pe_int (pe_callB call_len_str (by rfl) bt.m_len (by decide +kernel) (pa_cons (pv 0) pa_nil)) (pe_glob (v := .int 8) (by rfl) m_MOST_SIGNS ⟨_, rfl⟩)))))) (pss_one (ps_ret pe_bl)) pss_nil)
      (pss_one (ps_ret (pe_callB (cr_all rfl) (by rfl) bt.m_all (by decide +kernel) (pa_cons (pe_lc (own := [("sign", 1)]) (g := (gName 1)) (by rfl) sc_is_code.nd (pi_str (pv 0)) (blkOk_by (N := n_is_code) (sc := defScope s_is_code) (by decide +kernel)) (fun _ _ _ _ _ => (pg_name (i := 1) sc_is_code.nd rfl (Or.inl rfl))) (fun _ _ _ _ _ => pts_nil) (fun _ _ _ _ _ => (pe_cmpR op_in_sign (pv 1) (pe_glob (v := .str "abcdefghijklmnopqrstuvwxyz0123456789") (by rfl) m_CODE_SIGNS ⟨_, rfl⟩) rfl))) pa_nil))))), ?_⟩
    by_cases hk : kindS d = "str"
    · obtain ⟨c, rfl, rfl⟩ := hd.strE hk
      have e1 : (c.length : Int) = (c.cps.size : Int) := rfl
      have e0 : c.length = c.cps.size := rfl
      have sz' : c.length ≤ 1000 := of_decide_eq_true sz
      refine ⟨_, rfl, _, _, _, _, true, rfl, .ty "str", hd.ty, kit_ty (kit_strT hk), _, rfl, iteF ?_⟩
      refine ⟨_, rfl, c, rfl, (by rw [sizeLine_eq]; omega), _, _, rfl, rfl, ?_⟩
      by_cases h1 : 1 ≤ c.cps.size
      · refine ⟨true, congrArg V.bl (decide_eq_true (by omega)), iteT ⟨_, _, rfl, rfl, ?_⟩⟩
        by_cases h8 : c.cps.size ≤ 8
        · refine ⟨true, congrArg V.bl (decide_eq_true (by omega)), ?_⟩
          refine iteF ⟨_, rfl, c, rfl, fun L nL => lc_it (walk_str (z := c)) (fun i H' => H' = upd H L (.lst (((c.cps.toList.take i).map fun x => decide (x ∈ signs.cps.toList)).map V.bl))) rfl (fun _ _ _ _ => True.intro) (fun i x H2 H3 hi p y => ?_) (fun H2 p => ?_)⟩
          · obtain ⟨rfl, d, hd, rfl⟩ := y
            subst p
            refine ⟨rfl, ⟨_, rfl, d, signs, rfl, rfl, _, upd_same, ?_, ?_⟩⟩
            · rw [List.length_map, List.length_map, List.length_take]; exact small1000 (by omega)
            · show upd (upd H L _) L (.lst (_ ++ [V.bl (decide (d ∈ signs.cps.toList))])) = _
              have hd' : c.cps.toList[i]? = some d := by rw [Array.getElem?_toList]; exact hd
              rw [upd_upd, List.take_add_one, hd', List.map_append, List.map_append]; rfl
          · subst p
            refine ⟨L, _, rfl, SqL.of upd_same, ?_⟩
            have e : ((c.cps.toList.take c.cps.size).map fun x => decide (x ∈ signs.cps.toList)).all id = codeB (.str c) := by
              rw [List.take_of_length_le (by rw [Array.length_toList]; exact Nat.le_refl _), List.all_map]
              show _ = decide (CodeOk c)
              rw [Bool.eq_iff_iff, decide_eq_true_eq, List.all_eq_true]
              constructor
              · intro h
                exact ⟨h1, h8, fun x hx => of_decide_eq_true (h x hx)⟩
              · intro h x hx
                exact decide_eq_true (h.2.2 x hx)
            rw [e]
            exact q _ (same_upd nL)
        · refine ⟨false, congrArg V.bl (decide_eq_false (by omega)), iteT ?_⟩
          have e : codeB (.str c) = false := decide_eq_false fun h => h8 h.2.1
          have q' := q _ (Same.refl _)
          rw [e] at q'
          exact q'
      · refine ⟨false, congrArg V.bl (decide_eq_false (by omega)), iteF ⟨_, rfl, iteT ?_⟩⟩
        have e : codeB (.str c) = false := decide_eq_false fun h => h1 h.1
        have q' := q _ (Same.refl _)
        rw [e] at q'
        exact q'
    · refine ⟨_, rfl, _, _, _, _, false, rfl, .ty "str", hd.ty, kit_ty (kit_strF hk), _, rfl, iteT ?_⟩
      have e : codeB d = false := by
        cases d with
        | str c => exact absurd rfl hk
        | _ => rfl
      have q' := q _ (Same.refl _)
      rw [e] at q'
      exact q'
/-- an action's word and its thing -/
def spCA (K : PySem.W.Frag) : Sp := fun vs H Q _ => ∃ (v : V) (a b : PyData), vs = [v] ∧ Dq K H v (.tuple [a, b]) ∧ szB b = true ∧ ∀ H', Same H H' → Q (.bl (caB (.tuple [a, b]))) H'
theorem eqS {x s : Str} : V.bl (decide (V.str x = V.str s)) = V.bl (decide (x = s)) := congrArg V.bl (decide_eq_decide.mpr ⟨fun h => V.str.inj h, fun h => congrArg V.str h⟩)
theorem ok_is_code_action (bt : Bt mg) (a : At K mg "is_code_action" s_is_code_action ["action"]) (c_is_code : Cl P w K mg base 1 "is_code" (spCode K)) : Cl P w K mg base 2 "is_code_action" (spCA K) := by
  refine clG a sc_is_code_action (fun vs H Q E h => ?_) (fun f cdv A outer s H vs Q hg hr h => ?_)
  · obtain ⟨v, a, b, rfl, _⟩ := h
    rfl
  · obtain ⟨v, a, b, rfl, hd, sz, q⟩ := h
    refine ⟨_, (pss_cons (ps_asg (pv 0) (pg_tup rfl (pgs_cons (pg_name (i := 1) sc_is_code_action.nd rfl (Or.inl rfl)) (pgs_cons (pg_name (i := 2) sc_is_code_action.nd rfl (Or.inl rfl)) pgs_nil))))
      (pss_one (ps_ret (pe_and (pe_callB call_isi (by rfl) bt.m_isinstance (by decide +kernel) (pa_cons (pv 1) (pa_cons (pe_bltn (v := .ty "str") (by rfl) bt.m_str (by decide +kernel) rfl) pa_nil))) (pe_and (pe_cmpR op_eq (pv 1) pe_str (nomark _)) (pe_one (pe_cl c_is_code hg hr (by decide) (by rfl) (pa_cons (pv 2) pa_nil)))))))), ?_⟩
    obtain ⟨p, xs, ds, rfl, ed, hs, hD⟩ := hd.tupE rfl
    cases ed
    obtain ⟨_, _, va, vb, ee, rfl, hda, hdb⟩ := dq_two hD rfl
    cases ee
    refine ⟨_, rfl, p, _, rfl, hs, rfl, _, _, rfl, _, _, rfl, rfl, ?_⟩
    by_cases hk : kindS a = "str"
    · obtain ⟨x, rfl, rfl⟩ := hda.strE hk
      refine ⟨_, rfl, _, _, _, _, true, rfl, .ty "str", hda.ty, kit_ty (kit_strT hk), _, rfl, iteT ?_⟩
      refine ⟨_, rfl, rfl, ?_⟩
      by_cases hx : x = ("code" : Str)
      · refine ⟨true, eqS.trans (congrArg V.bl (decide_eq_true hx)), iteT ?_⟩
        refine ⟨_, rfl, vb, b, rfl, hdb, sz, fun H' s' => ?_⟩
        have q' := q _ s'
        have e : caB (.tuple [.str x, b]) = codeB b := by
          show (decide (x = ("code" : Str)) && codeB b) = _
          rw [decide_eq_true hx]; rfl
        rw [e] at q'
        exact q'
      · refine ⟨false, eqS.trans (congrArg V.bl (decide_eq_false hx)), iteF ?_⟩
        have q' := q _ (Same.refl _)
        have e : caB (.tuple [.str x, b]) = false := by
          show (decide (x = ("code" : Str)) && codeB b) = _
          rw [decide_eq_false hx]; rfl
        rw [e] at q'
        exact q'
    · refine ⟨_, rfl, _, _, _, _, false, rfl, .ty "str", hda.ty, kit_ty (kit_strF hk), _, rfl, iteF ?_⟩
      have q' := q _ (Same.refl _)
      have e : caB (.tuple [a, b]) = false := by
        show (strIs _ a && codeB b) = _
        rw [strIs_kind hk]; rfl
      rw [e] at q'
      exact q'
def spLA (K : PySem.W.Frag) : Sp := fun vs H Q _ => ∃ (v : V) (a b : PyData) (ws : List Str) (g : Addr) (n : Int), vs = [v, .ref g, .int n] ∧ Dq K H v (.tuple [a, b]) ∧ SqT K H g (ws.map V.str) ∧ Q (.bl (laB ws n (.tuple [a, b]))) H
theorem flat_strs : ∀ ws : List Str, (ws.map V.str).all flatV = true
  | [] => rfl
  | w :: ws => by
    show (flatV (.str w) && (ws.map V.str).all flatV) = true
    rw [flat_strs ws]; rfl
theorem ok_is_layer_action (bt : Bt mg) (a : At K mg "is_layer_action" s_is_layer_action ["action", "words", "layer_count"]) (c_is_between : Cl P w K mg base 2 "is_between" (spBtw K)) : Cl P w K mg base 3 "is_layer_action" (spLA K) := by
  refine clG a sc_is_layer_action (fun vs H Q E h => ?_) (fun f cdv A outer s H vs Q hg hr h => ?_)
  · obtain ⟨v, a, b, ws, g, n, rfl, _⟩ := h
    rfl
  · obtain ⟨v, a, b, ws, g, n, rfl, hd, hg2, q⟩ := h
    refine ⟨_, (pss_cons (ps_asg (pv 0) (pg_tup rfl (pgs_cons (pg_name (i := 3) sc_is_layer_action.nd rfl (Or.inl rfl)) (pgs_cons (pg_name (i := 4) sc_is_layer_action.nd rfl (Or.inl rfl)) pgs_nil))))
      (pss_one (ps_ret (pe_and (pe_callB call_isi (by rfl) bt.m_isinstance (by decide +kernel) (pa_cons (pv 3) (pa_cons (pe_bltn (v := .ty "str") (by rfl) bt.m_str (by decide +kernel) rfl) pa_nil))) (pe_and (pe_cmpR op_in_seq (pv 3) (pv 1) (by rfl)) (pe_one (pe_cl c_is_between hg hr (by decide) (by rfl) (pa_cons (pv 4) (pa_cons pe_int (pa_cons (pe_op op_sub (pv 2) pe_int) pa_nil)))))))))), ?_⟩
    obtain ⟨p, xs, ds, rfl, ed, hs, hD⟩ := hd.tupE rfl
    cases ed
    obtain ⟨_, _, va, vb, ee, rfl, hda, hdb⟩ := dq_two hD rfl
    cases ee
    refine ⟨_, rfl, p, _, rfl, hs, rfl, _, _, rfl, _, _, rfl, rfl, ?_⟩
    by_cases hk : kindS a = "str"
    · obtain ⟨x, rfl, rfl⟩ := hda.strE hk
      refine ⟨_, rfl, _, _, _, _, true, rfl, .ty "str", hda.ty, kit_ty (kit_strT hk), _, rfl, iteT ?_⟩
      refine ⟨_, rfl, _, rfl, g, _, rfl, .inr hg2, rfl, flat_strs ws, ?_⟩
      by_cases hx : x ∈ ws
      · refine ⟨true, congrArg V.bl ((inv_str _ _).trans (decide_eq_true hx)), iteT ?_⟩
        refine ⟨_, rfl, _, rfl, _, _, rfl, rfl, vb, b, 1, n - 1, rfl, hdb, ?_⟩
        have e : laB ws n (.tuple [.str x, b]) = btwB 1 (n - 1) b := by
          show (decide (x ∈ ws) && btwB 1 (n - 1) b) = _
          rw [decide_eq_true hx]; rfl
        rw [e] at q
        exact q
      · refine ⟨false, congrArg V.bl ((inv_str _ _).trans (decide_eq_false hx)), iteF ?_⟩
        have e : laB ws n (.tuple [.str x, b]) = false := by
          show (decide (x ∈ ws) && btwB 1 (n - 1) b) = _
          rw [decide_eq_false hx]; rfl
        rw [e] at q
        exact q
    · refine ⟨_, rfl, _, _, _, _, false, rfl, .ty "str", hda.ty, kit_ty (kit_strF hk), _, rfl, iteF ?_⟩
      have e : laB ws n (.tuple [a, b]) = false := by
        show (strIn ws a && _) = _
        rw [strIn_kind hk]; rfl
      rw [e] at q
      exact q
def spHold (K : PySem.W.Frag) : Sp := fun vs H Q _ => ∃ (v : V) (d : PyData) (n : Int), vs = [v, .int n] ∧ Dq K H v d ∧ szB d = true ∧ ∀ H', Same H H' → Q (.bl (holdB n d)) H'
theorem ok_is_hold (bt : Bt mg) (a : At K mg "is_hold" s_is_hold ["value", "layer_count"]) (c_is_code_action : Cl P w K mg base 2 "is_code_action" (spCA K)) (c_is_layer_action : Cl P w K mg base 3 "is_layer_action" (spLA K)) : Cl P w K mg base 4 "is_hold" (spHold K) := by
  refine clG a sc_is_hold (fun vs H Q E h => ?_) (fun f cdv A outer s H vs Q hg hr h => ?_)
  · obtain ⟨v, d, n, rfl, _⟩ := h
    rfl
  · obtain ⟨v, d, n, rfl, hd, sz, q⟩ := h
    refine ⟨_, (pss_cons (ps_if (PW.pt (pw_or (pt_not (pt_val (pe_callB call_isi (by rfl) bt.m_isinstance (by decide +kernel) (pa_cons (pv 0) (pa_cons (pe_bltn (v := .ty "tuple") (by rfl) bt.m_tuple (by decide +kernel) rfl) pa_nil))))) (pw_or1 (pt_cmpR op_ne (pe_callB call_len_seq (by rfl) bt.m_len (by decide +kernel) (pa_cons (pv 0) pa_nil)) pe_int (nomark _))))) (pss_one (ps_ret pe_bl)) pss_nil)
      (pss_one (ps_ret (pe_or (pe_cl c_is_code_action hg hr (by decide) (by rfl) (pa_cons (pv 0) pa_nil)) (pe_one (pe_cl c_is_layer_action hg hr (by decide) (by rfl) (pa_cons (pv 0) (pa_cons (pe_tup (pa_cons pe_str pa_nil)) (pa_cons (pv 1) pa_nil))))))))), ?_⟩
    by_cases hk : kindS d = "tuple"
    · obtain ⟨b, xs, ds, rfl, rfl, hs, hD⟩ := hd.tupE hk
      have hl : xs.length = ds.length := hD.length
      refine ⟨_, rfl, _, _, _, _, true, rfl, .ty "tuple", hd.ty, kit_ty (kit_tupT hk), _, rfl, iteF ?_⟩
      refine ⟨_, rfl, b, _, rfl, .inr hs, rfl, ?_⟩
      by_cases h2 : ds.length = 2
      · refine ⟨false, congrArg V.bl (show (!decide (V.int (xs.length : Nat) = V.int 2)) = false by rw [decide_eq_true (by rw [hl, h2]; rfl)]; rfl), iteF ?_⟩
        obtain ⟨x, y, _, _, rfl, _, _, _⟩ := dq_two hD h2
        have szy : szB y = true := szAll_mem sz y (by simp)
        refine ⟨_, rfl, .ref b, x, y, rfl, hd, szy, fun H1 s1 => ⟨_, rfl, ?_⟩⟩
        cases hc : caB (.tuple [x, y]) with
        | true =>
          have q' := q _ s1
          rw [show holdB n (.tuple [x, y]) = true by unfold holdB; rw [hc]; rfl] at q'
          exact iteT q'
        | false =>
          refine iteF ⟨_, rfl, (by show 1 ≤ sizeLine; decide), fun p np => ?_⟩
          have sp := same_upd (o := .tup [.str ("layer" : String)]) np
          refine ⟨_, rfl, .ref b, x, y, [("layer" : Str)], p, n, rfl, hd.same (s1.trans sp), SqT.of upd_same, ?_⟩
          have q' := q _ (s1.trans sp)
          rw [show holdB n (.tuple [x, y]) = laB [("layer" : Str)] n (.tuple [x, y]) by unfold holdB; rw [hc]; rfl] at q'
          exact q'
      · have q' := q _ (Same.refl _)
        rw [show holdB n (.tuple ds) = false by unfold holdB; rw [ca_len h2, la_len h2]; rfl] at q'
        exact ⟨true, congrArg V.bl (show (!decide (V.int (xs.length : Nat) = V.int 2)) = true by rw [decide_eq_false fun z => h2 (by have := V.int.inj z; omega)]; rfl), iteT q'⟩
    · have e : holdB n d = false := by
        cases d with
        | tuple ds => exact absurd rfl hk
        | _ => rfl
      have q' := q _ (Same.refl _)
      rw [e] at q'
      exact ⟨_, rfl, _, _, _, _, false, rfl, .ty "tuple", hd.ty, kit_ty (kit_tupF hk), _, rfl, iteT q'⟩
end
end K01

set_option Elab.async false
set_option linter.all false
set_option maxRecDepth 100000
set_option maxHeartbeats 8000000
namespace K01
open PySem PySem.Spec PyProof.Rows L2 Gd Rm La
theorem eqv_str (a b : Str) : PyData.eqv (.str a) (.str b) = decide (a = b) := by by_cases z : a = b <;> simp [PyData.eqv, z]
theorem du_eq {n : Int} {w t h m r : PyData} : dualB n (.tuple [w, t, h, m, r]) = (strIs ("dual" : Str) w && (codeB t && (holdB n h && (btwB 1 1000000000 m && strIn rules r)))) := rfl
/-! ### tables -/
def lenOf : PyData → Nat
  | .list r => r.length
  | _ => 0
def isL : PyData → Bool
  | .list _ => true
  | _ => false
def formB : PyData → Bool
  | .list ds => decide (1 ≤ ds.length ∧ ds.length ≤ 6) && (ds.all isL && (decide (1 ≤ lenOf (ds.getD 0 .none) ∧ lenOf (ds.getD 0 .none) ≤ 16) && ds.all fun r => decide (lenOf r = lenOf (ds.getD 0 .none))))
  | _ => false
def rowsOk (n : Int) : Nat → List PyData → Bool
  | _, [] => true
  | i, .list r :: rs => r.all (standB (i : Int) n) && rowsOk n (i + 1) rs
  | _, _ :: _ => false
def layB : PyData → Bool
  | .list ds => formB (.list ds) && rowsOk (ds.length : Nat) 0 ds
  | _ => false
theorem isL_kind (d : PyData) : isL d = decide (kindS d = "list") := by cases d <;> simp [isL, kindS]
theorem isL_eq {d : PyData} (h : isL d = true) : kindS d = "list" := by rw [isL_kind] at h; exact of_decide_eq_true h
theorem form_list {ds : List PyData} (h : formB (.list ds) = true) : (1 ≤ ds.length ∧ ds.length ≤ 6) ∧ ds.all isL = true ∧ (1 ≤ lenOf (ds.getD 0 .none) ∧ lenOf (ds.getD 0 .none) ≤ 16) ∧ ∀ r ∈ ds, lenOf r = lenOf (ds.getD 0 .none) := by
  have h' : (decide (1 ≤ ds.length ∧ ds.length ≤ 6) && (ds.all isL && (decide (1 ≤ lenOf (ds.getD 0 .none) ∧ lenOf (ds.getD 0 .none) ≤ 16) && ds.all fun r => decide (lenOf r = lenOf (ds.getD 0 .none))))) = true := h
  rw [Bool.and_eq_true, Bool.and_eq_true, Bool.and_eq_true, decide_eq_true_eq, decide_eq_true_eq] at h'
  exact ⟨h'.1, h'.2.1, h'.2.2.1, fun r hr => of_decide_eq_true (List.all_eq_true.mp h'.2.2.2 r hr)⟩
/-- what may stand as an action, or not -/
def actG (d : PyData) : Prop := szB d = true ∧ (kindS d = "str" → SeqAt.shaped d = true)
def rowG : PyData → Prop
  | .list r => ∀ d ∈ r, actG d
  | _ => True
def layG : PyData → Prop
  | .list ds => (∀ r ∈ ds, rowG r) ∧ ∀ r ∈ ds, lenOf r ≤ 400
  | _ => True
section
variable {P : Program} {w : World} {K : PySem.W.Frag} {mg : Str → Option Value} {base : Heap}
def spDual (K : PySem.W.Frag) : Sp := fun vs H Q _ => ∃ (v : V) (ds : List PyData) (n : Int), vs = [v, .int n] ∧ Dq K H v (.tuple ds) ∧ ds.length = 5 ∧ szB (.tuple ds) = true ∧ ∀ H', Same H H' → Q (.bl (dualB n (.tuple ds))) H'
theorem ok_is_dual_action (bt : Bt mg) {tk : Tok} (m_GREATEST_TIME : mg "GREATEST_TIME" = some (.int 1000000000 tk)) {g_RULES : Addr} (m_RULES : mg "RULES" = some (.ref g_RULES)) (t_RULES : ∀ H, SqT K H g_RULES (rules.map V.str)) (a : At K mg "is_dual_action" s_is_dual_action ["action", "layer_count"]) (c_is_code : Cl P w K mg base 1 "is_code" (spCode K)) (c_is_hold : Cl P w K mg base 4 "is_hold" (spHold K)) (c_is_between : Cl P w K mg base 2 "is_between" (spBtw K)) : Cl P w K mg base 5 "is_dual_action" (spDual K) := by
  refine clG a sc_is_dual_action (fun vs H Q E h => ?_) (fun f cdv A outer s H vs Q hg hr h => ?_)
  · obtain ⟨v, ds, n, rfl, _⟩ := h
    rfl
  · obtain ⟨v, ds, n, rfl, hd, h5, sz, q⟩ := h
    refine ⟨_, (pss_cons (ps_asg (pv 0) (pg_tup rfl (pgs_cons (pg_name (i := 2) sc_is_dual_action.nd rfl (Or.inl rfl)) (pgs_cons (pg_name (i := 3) sc_is_dual_action.nd rfl (Or.inl rfl)) (pgs_cons (pg_name (i := 4) sc_is_dual_action.nd rfl (Or.inl rfl)) (pgs_cons (pg_name (i := 5) sc_is_dual_action.nd rfl (Or.inl rfl)) (pgs_cons (pg_name (i := 6) sc_is_dual_action.nd rfl (Or.inl rfl)) pgs_nil)))))))
      (pss_cons (ps_if (PW.pt (pw_or (pt_not (pt_val (pe_callB call_isi (by rfl) bt.m_isinstance (by decide +kernel) (pa_cons (pv 2) (pa_cons (pe_bltn (v := .ty "str") (by rfl) bt.m_str (by decide +kernel) rfl) pa_nil))))) (pw_or1 (pt_cmpR op_ne (pv 2) pe_str (nomark _))))) (pss_one (ps_ret pe_bl)) pss_nil)
      (pss_cons (ps_if (PW.pt (pw_or (pt_not (pt_val (pe_cl c_is_code hg hr (by decide) (by rfl) (pa_cons (pv 3) pa_nil)))) (pw_or1 (pt_not (pt_val (pe_cl c_is_hold hg hr (by decide) (by rfl) (pa_cons (pv 4) (pa_cons (pv 1) pa_nil)))))))) (pss_one (ps_ret pe_bl)) pss_nil)
      (pss_one (ps_ret (pe_and (pe_cl c_is_between hg hr (by decide) (by rfl) (pa_cons (pv 5) (pa_cons pe_int (pa_cons (pe_glob (v := .int 1000000000) (by rfl) m_GREATEST_TIME ⟨_, rfl⟩) pa_nil)))) (pe_and (pe_callB call_isi (by rfl) bt.m_isinstance (by decide +kernel) (pa_cons (pv 6) (pa_cons (pe_bltn (v := .ty "str") (by rfl) bt.m_str (by decide +kernel) rfl) pa_nil))) (pe_one (pe_cmpR op_in_seq (pv 6) (pe_glob (v := .ref g_RULES) (by rfl) m_RULES rfl) (by rfl)))))))))), ?_⟩
    obtain ⟨p, xs, ds', rfl, ed, hs, hD⟩ := hd.tupE rfl
    cases ed
    obtain ⟨da, db, dc, dd, de, va, vb, vc, vd, ve, rfl, rfl, ha, hb, hc, hdd, he⟩ := dq_five hD h5
    have szm := szAll_mem (ds := [da, db, dc, dd, de]) sz
    have bad : ∀ H', Same H H' → dualB n (.tuple [da, db, dc, dd, de]) = false → Q (.bl false) H' := fun H' s e => by
      have q' := q _ s
      rw [e] at q'
      exact q'
    refine ⟨_, rfl, p, _, rfl, hs, rfl, _, _, rfl, _, _, rfl, _, _, rfl, _, _, rfl, _, _, rfl, rfl, ?_⟩
    by_cases hk : kindS da = "str"
    · obtain ⟨x, rfl, rfl⟩ := ha.strE hk
      refine ⟨_, rfl, _, _, _, _, true, rfl, .ty "str", ha.ty, kit_ty (kit_strT hk), _, rfl, iteF ?_⟩
      refine ⟨_, rfl, rfl, ?_⟩
      by_cases hx : x = ("dual" : Str)
      · refine ⟨false, congrArg V.bl (by rw [hx]; simp), iteF ?_⟩
        have e1 : strIs ("dual" : Str) (.str x) = true := decide_eq_true hx
        refine ⟨_, rfl, vb, db, rfl, hb, szm db (by simp), fun H1 s1 => ⟨_, rfl, ?_⟩⟩
        cases hcd : codeB db with
        | false => exact iteT (bad _ s1 (by rw [du_eq, e1, hcd]; rfl))
        | true =>
          refine iteF ⟨_, rfl, _, rfl, vc, dc, n, rfl, hc.same s1, szm dc (by simp), fun H2 s2 => ⟨_, rfl, ?_⟩⟩
          have s12 := s1.trans s2
          cases hh : holdB n dc with
          | false => exact iteT (bad _ s12 (by rw [du_eq, e1, hcd, hh]; rfl))
          | true =>
            refine iteF ⟨_, rfl, vd, dd, 1, 1000000000, rfl, hdd.same s12, _, rfl, ?_⟩
            have eq : dualB n (.tuple [.str x, db, dc, dd, de]) = (btwB 1 1000000000 dd && strIn rules de) := by rw [du_eq, e1, hcd, hh]; rfl
            cases hb1 : btwB 1 1000000000 dd with
            | false => exact iteF (bad _ s12 (by rw [eq, hb1]; rfl))
            | true =>
              refine iteT ?_
              by_cases hr' : kindS de = "str"
              · obtain ⟨y, rfl, rfl⟩ := (he.same s12).strE hr'
                refine ⟨_, rfl, _, _, _, _, true, rfl, .ty "str", (he.same s12).ty, kit_ty (kit_strT hr'), _, rfl, iteT ?_⟩
                refine ⟨_, rfl, g_RULES, _, rfl, .inr (t_RULES _), rfl, flat_strs rules, ?_⟩
                have q' := q _ s12
                rw [eq, hb1] at q'
                have e2 : (true && strIn rules (.str y)) = inV (.str y) (rules.map V.str) := by rw [inv_str]; rfl
                rw [e2] at q'
                exact q'
              · refine ⟨_, rfl, _, _, _, _, false, rfl, .ty "str", (he.same s12).ty, kit_ty (kit_strF hr'), _, rfl, iteF (bad _ s12 ?_)⟩
                rw [eq, strIn_kind hr', Bool.and_false]
      · refine ⟨true, congrArg V.bl (by simp [hx]), iteT (bad _ (Same.refl _) ?_)⟩
        rw [du_eq, show strIs ("dual" : Str) (.str x) = false from decide_eq_false hx]; rfl
    · refine ⟨_, rfl, _, _, _, _, false, rfl, .ty "str", ha.ty, kit_ty (kit_strF hk), _, rfl, iteT (bad _ (Same.refl _) ?_)⟩
      rw [du_eq, strIs_kind hk]; rfl
def spStand (K : PySem.W.Frag) : Sp := fun vs H Q _ => ∃ (v : V) (d : PyData) (i n : Int), vs = [v, .int i, .int n] ∧ Dq K H v d ∧ actG d ∧ ∀ H', Same H H' → Q (.bl (standB i n d)) H'
theorem ok_can_stand (bt : Bt mg) {g_LAYER_WORDS : Addr} (m_LAYER_WORDS : mg "LAYER_WORDS" = some (.ref g_LAYER_WORDS)) (t_LAYER_WORDS : ∀ H, SqT K H g_LAYER_WORDS (layWords.map V.str)) (a : At K mg "can_stand" s_can_stand ["action", "layer", "layer_count"]) (c_is_code_action : Cl P w K mg base 2 "is_code_action" (spCA K)) (c_is_layer_action : Cl P w K mg base 3 "is_layer_action" (spLA K)) (c_is_dual_action : Cl P w K mg base 5 "is_dual_action" (spDual K)) : Cl P w K mg base 6 "can_stand" (spStand K) := by
  refine clG a sc_can_stand (fun vs H Q E h => ?_) (fun f cdv A outer s H vs Q hg hr h => ?_)
  · obtain ⟨v, d, i, n, rfl, _⟩ := h
    rfl
  · obtain ⟨v, d, i, n, rfl, hd, ⟨sz, sh⟩, q⟩ := h
    refine ⟨_, (pss_cons (ps_if (pt_val (pe_callB call_isi (by rfl) bt.m_isinstance (by decide +kernel) (pa_cons (pv 0) (pa_cons (pe_bltn (v := .ty "str") (by rfl) bt.m_str (by decide +kernel) rfl) pa_nil)))) (pss_one (ps_ret (pe_or (pe_cmpR op_eq (pv 0) pe_str (nomark _)) (pe_one (pe_and (pe_cmpR op_eq (pv 0) pe_str (nomark _)) (pe_one (pe_cmpR op_gt (pv 1) pe_int (nomark _)))))))) pss_nil)
      (pss_cons (ps_if (pt_not (pt_val (pe_callB call_isi (by rfl) bt.m_isinstance (by decide +kernel) (pa_cons (pv 0) (pa_cons (pe_bltn (v := .ty "tuple") (by rfl) bt.m_tuple (by decide +kernel) rfl) pa_nil))))) (pss_one (ps_ret pe_bl)) pss_nil)
      (pss_cons (ps_if (pt_cmpR op_eq (pe_callB call_len_seq (by rfl) bt.m_len (by decide +kernel) (pa_cons (pv 0) pa_nil)) pe_int (nomark _)) (pss_one (ps_ret (pe_or (pe_cl c_is_code_action hg hr (by decide) (by rfl) (pa_cons (pv 0) pa_nil)) (pe_one (pe_cl c_is_layer_action hg hr (by decide) (by rfl) (pa_cons (pv 0) (pa_cons (pe_glob (v := .ref g_LAYER_WORDS) (by rfl) m_LAYER_WORDS rfl) (pa_cons (pv 2) pa_nil)))))))) pss_nil)
      (pss_one (ps_ret (pe_and (pe_cmpR op_eq (pe_callB call_len_seq (by rfl) bt.m_len (by decide +kernel) (pa_cons (pv 0) pa_nil)) pe_int (nomark _)) (pe_one (pe_cl c_is_dual_action hg hr (by decide) (by rfl) (pa_cons (pv 0) (pa_cons (pv 2) pa_nil)))))))))), ?_⟩
    by_cases hk : kindS d = "str"
    · obtain ⟨x, rfl, rfl⟩ := hd.strE hk
      have sx := sh hk
      refine ⟨_, rfl, _, _, _, _, true, rfl, .ty "str", hd.ty, kit_ty (kit_strT hk), _, rfl, iteT ?_⟩
      have q' : Q (.bl (decide (x = ("none" : Str)) || (decide (x = ("through" : Str)) && decide (0 < i)))) H := q _ (Same.refl _)
      refine ⟨_, rfl, rfl, ?_⟩
      by_cases h1 : x = ("none" : Str)
      · rw [decide_eq_true h1, Bool.true_or] at q'
        exact ⟨true, eqS.trans (congrArg V.bl (decide_eq_true h1)), iteT q'⟩
      · rw [decide_eq_false h1, Bool.false_or] at q'
        refine ⟨false, eqS.trans (congrArg V.bl (decide_eq_false h1)), iteF ?_⟩
        refine ⟨_, rfl, rfl, ?_⟩
        by_cases h2 : x = ("through" : Str)
        · rw [decide_eq_true h2, Bool.true_and] at q'
          exact ⟨true, eqS.trans (congrArg V.bl (decide_eq_true h2)), iteT ⟨_, rfl, _, _, rfl, rfl, q'⟩⟩
        · rw [decide_eq_false h2, Bool.false_and] at q'
          exact ⟨false, eqS.trans (congrArg V.bl (decide_eq_false h2)), iteF q'⟩
    · refine ⟨_, rfl, _, _, _, _, false, rfl, .ty "str", hd.ty, kit_ty (kit_strF hk), _, rfl, iteF ?_⟩
      by_cases ht : kindS d = "tuple"
      · obtain ⟨b, xs, ds, rfl, rfl, hs, hD⟩ := hd.tupE ht
        have hl : xs.length = ds.length := hD.length
        refine ⟨_, rfl, _, _, _, _, true, rfl, .ty "tuple", hd.ty, kit_ty (kit_tupT ht), _, rfl, iteF ?_⟩
        refine ⟨_, rfl, b, _, rfl, .inr hs, rfl, ?_⟩
        by_cases h2 : ds.length = 2
        · refine ⟨true, congrArg V.bl (decide_eq_true (by rw [hl, h2]; rfl)), iteT ?_⟩
          obtain ⟨x, y, _, _, rfl, _, _, _⟩ := dq_two hD h2
          have szy : szB y = true := szAll_mem sz y (by simp)
          have eq : standB i n (.tuple [x, y]) = (caB (.tuple [x, y]) || laB layWords n (.tuple [x, y])) := rfl
          refine ⟨_, rfl, .ref b, x, y, rfl, hd, szy, fun H1 s1 => ⟨_, rfl, ?_⟩⟩
          have q' := q _ s1
          rw [eq] at q'
          cases hc : caB (.tuple [x, y]) with
          | true =>
            rw [hc, Bool.true_or] at q'
            exact iteT q'
          | false =>
            rw [hc, Bool.false_or] at q'
            exact iteF ⟨_, rfl, _, rfl, .ref b, x, y, layWords, g_LAYER_WORDS, n, rfl, hd.same s1, t_LAYER_WORDS _, q'⟩
        · refine ⟨false, congrArg V.bl (decide_eq_false fun z => h2 (by have := V.int.inj z; omega)), iteF ?_⟩
          have eq : standB i n (.tuple ds) = dualB n (.tuple ds) := if_neg h2
          refine ⟨_, rfl, b, _, rfl, .inr hs, rfl, ?_⟩
          by_cases h5 : ds.length = 5
          · refine ⟨true, congrArg V.bl (decide_eq_true (by rw [hl, h5]; rfl)), iteT ?_⟩
            refine ⟨_, rfl, _, rfl, .ref b, ds, n, rfl, hd, h5, sz, fun H1 s1 => ?_⟩
            have q' := q _ s1
            rw [eq] at q'
            exact q'
          · refine ⟨false, congrArg V.bl (decide_eq_false fun z => h5 (by have := V.int.inj z; omega)), iteF ?_⟩
            have q' := q _ (Same.refl _)
            rw [eq, du_len h5] at q'
            exact q'
      · refine ⟨_, rfl, _, _, _, _, false, rfl, .ty "tuple", hd.ty, kit_ty (kit_tupF ht), _, rfl, iteT ?_⟩
        have e : standB i n d = false := by
          cases d with
          | tuple ds => exact absurd rfl ht
          | str x => exact absurd rfl hk
          | _ => rfl
        have q' := q _ (Same.refl _)
        rw [e] at q'
        exact q'
def spForm (K : PySem.W.Frag) : Sp := fun vs H Q _ => ∃ (v : V) (d : PyData), vs = [v] ∧ Dq K H v d ∧ layG d ∧ ∀ H', Same H H' → Q (.bl (formB d)) H'
theorem allT : ∀ {bs : List Bool}, bs.all id = true ↔ ∀ b ∈ bs, b = true := fun {bs} => by rw [List.all_eq_true]; rfl
theorem ok_has_layout_form (bt : Bt mg) {tk1 tk2 : Tok} (m_MOST_LAYERS : mg "MOST_LAYERS" = some (.int 6 tk1)) (m_MOST_KEYS : mg "MOST_KEYS" = some (.int 16 tk2)) (a : At K mg "has_layout_form" s_has_layout_form ["value"]) : Cl P w K mg base 1 "has_layout_form" (spForm K) := by
  refine clG a sc_has_layout_form (fun vs H Q E h => ?_) (fun f cdv A outer s H vs Q hg hr h => ?_)
  · obtain ⟨v, d, rfl, _⟩ := h
    rfl
  · obtain ⟨v, d, rfl, hd, hG, q⟩ := h
    refine ⟨_, (pss_cons (ps_if (PW.pt (pw_or (pt_not (pt_val (pe_callB call_isi (by rfl) bt.m_isinstance (by decide +kernel) (pa_cons (pv 0) (pa_cons (pe_bltn (v := .ty "list") (by rfl) bt.m_list (by decide +kernel) rfl) pa_nil))))) (pw_or1 (pt_not (pt_chain op_le op_le pe_int (pe_callB call_len_seq (by rfl) bt.m_len (by decide +kernel) (pa_cons (pv 0) pa_nil)) (pe_glob (v := .int 6) (by rfl) m_MOST_LAYERS ⟨_, rfl⟩)))))) (pss_one (ps_ret pe_bl)) pss_nil)
      (pss_cons (ps_if (pt_not (pt_val (pe_callB (cr_all rfl) (by rfl) bt.m_all (by decide +kernel) (pa_cons (pe_lc (own := [("actions", 2)]) (g := (gName 2)) (by rfl) sc_has_layout_form.nd (pi_list (pv 0)) (blkOk_by (N := n_has_layout_form) (sc := defScope s_has_layout_form) (by decide +kernel)) (fun _ _ _ _ _ => (pg_name (i := 2) sc_has_layout_form.nd rfl (Or.inl rfl))) (fun _ _ _ _ _ => pts_nil) (fun _ _ _ _ _ => (pe_callB (r := rIsi K) call_isi (by rfl) bt.m_isinstance (by decide +kernel) (pa_cons (pv 2) (pa_cons (pe_bltn (v := .ty "list") (by rfl) bt.m_list (by decide +kernel) rfl) pa_nil))))) pa_nil)))) (pss_one (ps_ret pe_bl)) pss_nil)
      (pss_cons (ps_set (i := 1) sc_has_layout_form.nd rfl (Or.inr rfl) (pe_callB call_len_seq (by rfl) bt.m_len (by decide +kernel) (pa_cons (pe_ix ix_list (pv 0) pe_int (fun _ _ => rfl)) pa_nil)))
      (pss_one (ps_ret (pe_and (pe_chain op_le op_le pe_int (pv 1) (pe_glob (v := .int 16) (by rfl) m_MOST_KEYS ⟨_, rfl⟩)) (pe_one (pe_callB (cr_all rfl) (by rfl) bt.m_all (by decide +kernel) (pa_cons (pe_lc (own := [("actions", 2)]) (g := (gName 2)) (by rfl) sc_has_layout_form.nd (pi_list (pv 0)) (blkOk_by (N := n_has_layout_form) (sc := defScope s_has_layout_form) (by decide +kernel)) (fun _ _ _ _ _ => (pg_name (i := 2) sc_has_layout_form.nd rfl (Or.inl rfl))) (fun _ _ _ _ _ => pts_nil) (fun _ _ _ _ _ => (pe_cmpR op_eq (pe_callB (r := rLenB K) call_len_seq (by rfl) bt.m_len (by decide +kernel) (pa_cons (pv 2) pa_nil)) (pv 1) (nomark _)))) pa_nil))))))))), ?_⟩
    have bad : ∀ H', Same H H' → formB d = false → Q (.bl false) H' := fun H' s e => by
      have q' := q _ s
      rw [e] at q'
      exact q'
    by_cases hk : kindS d = "list"
    · obtain ⟨c, xs, ds, rfl, rfl, hs, hD⟩ := hd.lstE hk
      have hl : xs.length = ds.length := hD.length
      have hG' : ∀ r ∈ ds, lenOf r ≤ 400 := hG.2
      refine ⟨_, rfl, _, _, _, _, true, rfl, .ty "list", hd.ty, kit_ty (kit_lstT hk), _, rfl, iteF ?_⟩
      refine ⟨_, rfl, c, _, rfl, .inl hs, _, _, rfl, rfl, ?_⟩
      have nl : ¬ (1 ≤ ds.length ∧ ds.length ≤ 6) → formB (.list ds) = false := fun z => by
        show (decide (1 ≤ ds.length ∧ ds.length ≤ 6) && _) = false
        rw [decide_eq_false z]; rfl
      by_cases h1 : 1 ≤ ds.length
      · refine ⟨true, congrArg V.bl (decide_eq_true (by omega)), iteT ⟨_, _, rfl, rfl, ?_⟩⟩
        by_cases h6 : ds.length ≤ 6
        · refine ⟨true, congrArg V.bl (decide_eq_true (by omega)), iteF ?_⟩
          refine ⟨_, rfl, c, rfl, ⟨_, hs⟩, fun M nM => lc_it (walk_list (xs := xs)) (fun i H' => Same H H' ∧ H' M = some (.lst (((ds.take i).map isL).map V.bl))) ⟨same_upd nM, upd_same⟩ (fun i H' _ p => SqL.same_ hs p.1) (fun i x H2 H3 hi p y => ?_) (fun H2 p => ?_)⟩
          · obtain ⟨rfl, e2⟩ := y
            obtain ⟨di, hdi, hdq0⟩ := hD.at_ e2
            have hdq := hdq0.same p.1
            have ek : kitB (kindS di) "list" = some (isL di) := (kit_list di).trans (by rw [isL_kind])
            refine ⟨rfl, _, rfl, _, _, _, _, isL di, rfl, .ty "list", hdq.ty, kit_ty ek, _, p.2, ?_, Same.off p.1 nM off_upd, ?_⟩
            · rw [List.length_map, List.length_map, List.length_take]; exact small1000 (by omega)
            · rw [upd_same, List.take_add_one, hdi, List.map_append, List.map_append]; rfl
          · obtain ⟨s2, hM⟩ := p
            rw [List.take_of_length_le (by omega)] at hM
            refine ⟨M, _, rfl, SqL.of hM, _, rfl, ?_⟩
            have eall : ((ds.map isL)).all id = ds.all isL := by rw [List.all_map]; rfl
            rw [eall]
            cases hb : ds.all isL with
            | false =>
              refine iteT (bad _ s2 ?_)
              show (_ && (ds.all isL && _)) = false
              rw [hb, Bool.false_and, Bool.and_false]
            | true =>
              refine iteF ?_
              have isl := List.all_eq_true.mp hb
              have hs2 := SqL.same_ hs s2
              obtain ⟨d0, hd0⟩ : ∃ d0, ds[0]? = some d0 := ⟨ds[0], List.getElem?_eq_getElem (by omega)⟩
              obtain ⟨v0, hv0, hq0⟩ := (hD.same s2).get hd0
              have e0 : ds.getD 0 .none = d0 := by rw [List.getD_eq_getElem?_getD, hd0]; rfl
              obtain ⟨a0, x0, r0, rfl, rfl, hs0, hD0⟩ := hq0.lstE (isL_eq (isl d0 (List.mem_of_getElem? hd0)))
              have hl0 : x0.length = r0.length := hD0.length
              have l0 : r0.length ≤ 400 := hG' _ (List.mem_of_getElem? hd0)
              have ef : formB (.list ds) = (decide (1 ≤ r0.length ∧ r0.length ≤ 16) && ds.all fun r => decide (lenOf r = r0.length)) := by
                show (decide (1 ≤ ds.length ∧ ds.length ≤ 6) && (ds.all isL && (decide (1 ≤ lenOf (ds.getD 0 .none) ∧ lenOf (ds.getD 0 .none) ≤ 16) && ds.all fun r => decide (lenOf r = lenOf (ds.getD 0 .none))))) = _
                rw [e0, hb, decide_eq_true ⟨h1, h6⟩]; rfl
              refine ⟨_, rfl, c, _, 0, .ref a0, rfl, rfl, hs2, atI_nat (j := 0) hv0, a0, _, rfl, .inl hs0, ?_⟩
              refine ⟨_, rfl, _, _, rfl, rfl, ?_⟩
              by_cases m1 : 1 ≤ r0.length
              · refine ⟨true, congrArg V.bl (decide_eq_true (by omega)), iteT ⟨_, _, rfl, rfl, ?_⟩⟩
                by_cases m16 : r0.length ≤ 16
                · refine ⟨true, congrArg V.bl (decide_eq_true (by omega)), iteT ?_⟩
                  refine ⟨_, rfl, c, rfl, ⟨_, hs2⟩, fun M2 nM2 => lc_it (walk_list (xs := xs)) (fun i H' => Same H2 H' ∧ H' M2 = some (.lst (((ds.take i).map fun r => decide (lenOf r = r0.length)).map V.bl))) ⟨same_upd nM2, upd_same⟩ (fun i H' _ p => SqL.same_ hs2 p.1) (fun i x H3 H4 hi p y => ?_) (fun H3 p => ?_)⟩
                  · obtain ⟨rfl, e2⟩ := y
                    obtain ⟨di, hdi, hdq0⟩ := hD.at_ e2
                    have hdq := (hdq0.same s2).same p.1
                    obtain ⟨ai, xi, ri, rfl, rfl, hsi, hDi⟩ := hdq.lstE (isL_eq (isl di (List.mem_of_getElem? hdi)))
                    have hli : xi.length = ri.length := hDi.length
                    refine ⟨rfl, _, rfl, ai, _, rfl, .inl hsi, _, rfl, rfl, _, p.2, ?_, Same.off p.1 nM2 off_upd, ?_⟩
                    · rw [List.length_map, List.length_map, List.length_take]; exact small1000 (by omega)
                    · rw [upd_same, List.take_add_one, hdi, List.map_append, List.map_append]
                      have e3 : decide (V.int (xi.length : Nat) = V.int (x0.length : Nat)) = decide (lenOf (.list ri) = r0.length) := decide_eq_decide.mpr ⟨fun h => by have := V.int.inj h; show ri.length = _; omega, fun h => by have h : ri.length = r0.length := h; rw [hli, hl0, h]⟩
                      show some (HO.lst (_ ++ [V.bl (decide (V.int (xi.length : Nat) = V.int (x0.length : Nat)))])) = _
                      rw [e3]; rfl
                  · obtain ⟨s3, hM2⟩ := p
                    rw [List.take_of_length_le (by omega)] at hM2
                    refine ⟨M2, _, rfl, SqL.of hM2, ?_⟩
                    have q' := q _ (s2.trans s3)
                    rw [ef, decide_eq_true ⟨m1, m16⟩, Bool.true_and] at q'
                    rw [List.all_map]
                    exact q'
                · refine ⟨false, congrArg V.bl (decide_eq_false (by omega)), iteF (bad _ s2 ?_)⟩
                  rw [ef, decide_eq_false fun z => m16 z.2]; rfl
              · refine ⟨false, congrArg V.bl (decide_eq_false (by omega)), iteF ⟨_, rfl, iteF (bad _ s2 ?_)⟩⟩
                rw [ef, decide_eq_false fun z => m1 z.1]; rfl
        · exact ⟨false, congrArg V.bl (decide_eq_false (by omega)), iteT (bad _ (Same.refl _) (nl fun z => h6 z.2))⟩
      · exact ⟨false, congrArg V.bl (decide_eq_false (by omega)), iteF ⟨_, rfl, iteT (bad _ (Same.refl _) (nl fun z => h1 z.1))⟩⟩
    · refine ⟨_, rfl, _, _, _, _, false, rfl, .ty "list", hd.ty, kit_ty (kit_lstF hk), _, rfl, iteT (bad _ (Same.refl _) ?_)⟩
      cases d with
      | list ds => exact absurd rfl hk
      | _ => rfl
end
end K01

set_option Elab.async false
set_option linter.all false
set_option maxRecDepth 100000
set_option maxHeartbeats 8000000
namespace K01
open PySem PySem.Spec PyProof.Rows L2 Gd Rm La
theorem drop_at {α : Type} {ds : List α} {i : Nat} {d : α} (h : ds[i]? = some d) : ds.drop i = d :: ds.drop (i + 1) := by
  have hi := (List.getElem?_eq_some_iff.mp h).1
  rw [List.drop_eq_getElem_cons hi]
  rw [List.getElem?_eq_getElem hi] at h
  rw [Option.some.inj h]
section
variable {P : Program} {w : World} {K : PySem.W.Frag} {mg : Str → Option Value} {base : Heap}
def spCL (K : PySem.W.Frag) (C : Addr) : Sp := fun vs H Q E => ∃ (v : V) (d : PyData), vs = [v] ∧ Dq K H v d ∧ layG d ∧
  (layB d = true → ∀ H', Same H H' → Q .non H') ∧ (layB d = false → ∀ a b H' e, Same H H' → H' e = some (.xd (lkF a b)) → E (.ref C) (some e) H')
theorem ok_check_layout (bt : Bt mg) {C fI : Addr} (ex_InvalidLayout : PySem.Oxi.ExcTxt2 P K "InvalidLayout" C fI) (m_InvalidLayout : mg "InvalidLayout" = some (.ref C)) (a : At K mg "check_layout" s_check_layout ["value"]) (c_has_layout_form : Cl P w K mg base 1 "has_layout_form" (spForm K)) (c_can_stand : Cl P w K mg base 6 "can_stand" (spStand K)) : ClX P w K mg base 7 "check_layout" (spCL K C) := by
  refine clGX a sc_check_layout (fun vs H Q E h => ?_) (fun f cdv A outer s H vs Q E hg hr h => ?_)
  · obtain ⟨v, d, rfl, _⟩ := h
    rfl
  · obtain ⟨v, d, rfl, hd, hG, q, qe⟩ := h
    refine ⟨_, (pss_cons (ps_if (pt_not (pt_val (pe_cl c_has_layout_form hg hr (by decide) (by rfl) (pa_cons (pv 0) pa_nil)))) (pss_one (ps_raiseX2 rfl ex_InvalidLayout m_InvalidLayout hr (takes_of rfl rfl rfl rfl) (pa_cons pe_non (pa_cons pe_non pa_nil)) (by rfl))) pss_nil)
      (pss_one (ps_for (passes_of rfl) rfl (pi_enum (by rfl) bt.m_enumerate (pa_cons (pv 0) pa_nil)) (pg_tup rfl (pgs_cons (pg_name (i := 1) sc_check_layout.nd rfl (Or.inl rfl)) (pgs_cons (pg_name (i := 2) sc_check_layout.nd rfl (Or.inl rfl)) pgs_nil))) (pss_one (ps_for (passes_of rfl) rfl (pi_enum (by rfl) bt.m_enumerate (pa_cons (pv 2) pa_nil)) (pg_tup rfl (pgs_cons (pg_name (i := 3) sc_check_layout.nd rfl (Or.inl rfl)) (pgs_cons (pg_name (i := 4) sc_check_layout.nd rfl (Or.inl rfl)) pgs_nil))) (pss_one (ps_if (pt_not (pt_val (pe_cl c_can_stand hg hr (by decide) (by rfl) (pa_cons (pv 4) (pa_cons (pv 1) (pa_cons (pe_callB call_len_seq (by rfl) bt.m_len (by decide +kernel) (pa_cons (pv 0) pa_nil)) pa_nil)))))) (pss_one (ps_raiseX2 rfl ex_InvalidLayout m_InvalidLayout hr (takes_of rfl rfl rfl rfl) (pa_cons (pv 1) (pa_cons (pv 3) pa_nil)) (by rfl))) pss_nil))))))), ?_⟩
    refine ⟨_, rfl, v, d, rfl, hd, hG, fun H1 s1 => ⟨_, rfl, ?_⟩⟩
    cases hf : formB d with
    | false =>
      refine iteT ⟨_, _, rfl, .inl rfl, .inl rfl, fun e ne => ?_⟩
      refine qe ?_ _ _ _ e (s1.trans (same_upd ne)) upd_same
      cases d with
      | list ds =>
        show (formB (.list ds) && _) = false
        rw [hf]; rfl
      | _ => rfl
    | true =>
      cases d with
      | list ds =>
        obtain ⟨⟨n1, n6⟩, hisl, ⟨m1, m16⟩, hlen⟩ := form_list hf
        obtain ⟨c, xs, ds', rfl, ed, hs, hD⟩ := hd.lstE rfl
        cases ed
        have hl : xs.length = ds.length := hD.length
        have hG1 : ∀ r ∈ ds, rowG r := hG.1
        have er : layB (.list ds) = rowsOk (ds.length : Nat) 0 ds := by
          show (formB (.list ds) && rowsOk (ds.length : Nat) 0 ds) = _
          rw [hf]; rfl
        rw [er] at q qe
        refine iteF ?_
        refine ⟨_, rfl, c, _, rfl, SqL.same_ hs s1, for_it (walk_enum (xs := xs))
          (fun i σ H' => Same H H' ∧ ∃ y1 y2 y3 y4, σ = [some (.ref c), y1, y2, y3, y4] ∧ rowsOk (ds.length : Nat) 0 ds = rowsOk (ds.length : Nat) i (ds.drop i))
          ⟨s1, _, _, _, _, rfl, rfl⟩ (fun _ _ H' _ p => SqL.same_ hs p.1) (fun i x σ H2 H3 hi p y => ?_) (fun σ H2 p => ?_)⟩
        · obtain ⟨s2, y1, y2, y3, y4, rfl, hrec⟩ := p
          obtain ⟨T, u, v, rfl, nT, rfl, e1, e2⟩ := y
          obtain ⟨di, hdi, hdq0⟩ := hD.at_ e2
          have hmi := List.mem_of_getElem? hdi
          have e1' : u = .int (i : Nat) := (Option.some.inj e1).symm
          subst e1'
          have s3 := s2.trans (same_upd (o := .tup [.int (i : Nat), v]) nT)
          have kl := isL_eq (List.all_eq_true.mp hisl di hmi)
          obtain ⟨ai, zs, r, rfl, rfl, hsi0, hDi0⟩ := hdq0.lstE kl
          have hli : zs.length = r.length := hDi0.length
          have hlr : r.length ≤ 16 := by have := hlen _ hmi; have h2 : r.length = _ := this; omega
          have hGr : ∀ d ∈ r, actG d := hG1 _ hmi
          rw [drop_at hdi] at hrec
          have hrec' : rowsOk (ds.length : Nat) 0 ds = (r.all (standB ((i : Nat) : Int) (ds.length : Nat)) && rowsOk (ds.length : Nat) (i + 1) (ds.drop (i + 1))) := hrec
          have ix : IxV (.int ((i : Nat) : Int)) := .inr ⟨_, rfl, by omega⟩
          refine ⟨T, _, rfl, SqT.of upd_same, rfl, _, _, rfl, _, _, rfl, rfl, ?_⟩
          refine ⟨_, rfl, ai, _, rfl, SqL.same_ hsi0 s3, for_it (walk_enum (xs := zs))
            (fun j σ H' => Same H H' ∧ ∃ y3 y4, σ = [some (.ref c), some (.int ((i : Nat) : Int)), some (.ref ai), y3, y4] ∧ r.all (standB ((i : Nat) : Int) (ds.length : Nat)) = (r.drop j).all (standB ((i : Nat) : Int) (ds.length : Nat)))
            ⟨s3, _, _, rfl, rfl⟩ (fun _ _ H' _ p => SqL.same_ hsi0 p.1) (fun j x σ H4 H5 hj p y => ?_) (fun σ H4 p => ?_)⟩
          · obtain ⟨s4, y3, y4, rfl, hrj⟩ := p
            obtain ⟨T2, u2, v2, rfl, nT2, rfl, f1, f2⟩ := y
            obtain ⟨dj, hdj, hdqj⟩ := hDi0.at_ f2
            have hmj := List.mem_of_getElem? hdj
            have f1' : u2 = .int (j : Nat) := (Option.some.inj f1).symm
            subst f1'
            have s5 := s4.trans (same_upd (o := .tup [.int (j : Nat), v2]) nT2)
            rw [drop_at hdj, List.all_cons] at hrj
            have ixj : IxV (.int ((j : Nat) : Int)) := .inr ⟨_, rfl, by omega⟩
            refine ⟨T2, _, rfl, SqT.of upd_same, rfl, _, _, rfl, _, _, rfl, rfl, ?_⟩
            refine ⟨_, rfl, _, rfl, _, rfl, c, _, rfl, .inl (SqL.same_ hs s5), v2, dj, _, _, rfl, hdqj.same s5, hGr dj hmj, fun H6 s6 => ⟨_, rfl, ?_⟩⟩
            rw [hl]
            cases hst : standB ((i : Nat) : Int) (ds.length : Nat) dj with
            | false =>
              refine iteT ⟨_, rfl, _, rfl, _, _, rfl, ix, ixj, fun e ne => ?_⟩
              refine qe ?_ _ _ _ e ((s5.trans s6).trans (same_upd ne)) upd_same
              rw [hrec', hrj, hst]; rfl
            | true =>
              rw [hst, Bool.true_and] at hrj
              exact iteF ⟨s5.trans s6, _, _, rfl, hrj⟩
          · obtain ⟨s4, y3, y4, rfl, hrj⟩ := p
            rw [List.drop_of_length_le (by omega)] at hrj
            refine ⟨s4, _, _, _, _, rfl, ?_⟩
            rw [hrec', hrj]; rfl
        · obtain ⟨s2, y1, y2, y3, y4, rfl, hrec⟩ := p
          refine q ?_ _ s2
          rw [hrec, List.drop_of_length_le (by omega)]; rfl
      | _ => cases hf
def spIsL (K : PySem.W.Frag) : Sp := fun vs H Q _ => ∃ (v : V) (d : PyData), vs = [v] ∧ Dq K H v d ∧ layG d ∧ ∀ H', Same H H' → Q (.bl (layB d)) H'
theorem ok_is_layout {C_InvalidLayout : Addr} (m_InvalidLayout : mg "InvalidLayout" = some (.ref C_InvalidLayout)) (xm : PySem.W.exmOne K (.ref C_InvalidLayout) (.ref C_InvalidLayout) = some true) (a : At K mg "is_layout" s_is_layout ["value"]) (c_check_layout : ClX P w K mg base 7 "check_layout" (spCL K C_InvalidLayout)) : Cl P w K mg base 8 "is_layout" (spIsL K) := by
  refine clG a sc_is_layout (fun vs H Q E h => ?_) (fun f cdv A outer s H vs Q hg hr h => ?_)
  · obtain ⟨v, d, rfl, _⟩ := h
    rfl
  · obtain ⟨v, d, rfl, hd, hG, q⟩ := h
    refine ⟨_, (pss_cons (ps_try_only (c := .ref C_InvalidLayout) rfl rfl ⟨(by rfl), by decide, .inl m_InvalidLayout⟩ takes_no (fun W pn xe tk pw => (pss_one (ps_expr (pe_clXs c_check_layout hg hr (by decide) (by rfl) (fun _ _ _ _ _ _ I c => tk _ _ (XE.of_call I (fun _ _ _ h => h) c)) (pa_cons (pv 0) pa_nil))))) (fun _ _ _ _ _ _ _ => (pss_one (ps_ret pe_bl))))
      (pss_one (ps_ret pe_bl))), ?_⟩
    refine ⟨_, rfl, v, d, rfl, hd, hG, fun e H1 s1 => ?_, fun e f g H1 x s1 hx => ?_⟩
    · have q' := q _ s1
      rw [e] at q'
      exact q'
    · have q' := q _ s1
      rw [e] at q'
      exact ⟨true, xm, fun _ a na => q', fun z => by cases z⟩
end
end K01

set_option Elab.async false
set_option linter.all false
set_option maxRecDepth 100000
set_option maxHeartbeats 8000000
namespace K01
open PySem PySem.Spec PyProof.Rows L2 Gd Rm La
def sgV (xs : List Nat) : List V := xs.map fun x => V.str ⟨#[x]⟩
def sgD (xs : List Nat) : List PyData := xs.map fun x => PyData.str ⟨#[x]⟩
theorem sg_dp {K : PySem.W.Frag} {H : Hp} : ∀ xs : List Nat, DpAll K H (sgV xs) (sgD xs)
  | [] => .nil
  | x :: xs => .cons (.str _) (sg_dp xs)
theorem sg_lay : ∀ {xs : List Nat}, (∀ x ∈ xs, x < 0x110000) → PyData.canLayAll0 (sgD xs) = true ∧ PyData.depthAll (sgD xs) = 0
  | [], _ => ⟨rfl, rfl⟩
  | x :: xs, h => by
    obtain ⟨a, b⟩ := sg_lay fun y hy => h y (List.mem_cons_of_mem _ hy)
    have hs : PyData.strOk ⟨#[x]⟩ = true := by
      unfold PyData.strOk
      rw [← Array.all_toList, List.all_eq_true]
      intro y hy
      have : y = x := by simpa using hy
      rw [this]
      exact decide_eq_true (h x List.mem_cons_self)
    refine ⟨?_, ?_⟩
    · show (PyData.canLay0 (.str ⟨#[x]⟩) && PyData.canLayAll0 (sgD xs)) = true
      rw [a, show PyData.canLay0 (.str ⟨#[x]⟩) = PyData.strOk ⟨#[x]⟩ from rfl, hs]; rfl
    · show max 0 (PyData.depthAll (sgD xs)) = 0
      rw [b]; rfl
theorem sg_shaped {xs : List Nat} (h : ∀ x ∈ xs, x < 0x110000) : SeqAt.shaped (.list (sgD xs)) = true := by
  obtain ⟨a, b⟩ := sg_lay h
  show (PyData.canLayAll0 (sgD xs) && decide (PyData.depthAll (sgD xs) + 1 ≤ 64)) = true
  rw [a, b]; rfl
theorem sg_empty (xs : List Nat) : (sgD xs).isEmpty = xs.isEmpty := by cases xs <;> rfl
mutual
theorem lay_nd : ∀ {d : PyData}, PyData.canLay0 d = true → d.hasDict = false
  | .none, _ => rfl
  | .bool _, _ => rfl
  | .int _, _ => rfl
  | .str _, _ => rfl
  | .list ds, h => layAll_nd (ds := ds) h
  | .tuple ds, h => layAll_nd (ds := ds) h
  | .dict _, h => by cases h
theorem layAll_nd : ∀ {ds : List PyData}, PyData.canLayAll0 ds = true → PyData.hasDictAll ds = false
  | [], _ => rfl
  | d :: ds, h => by
    have h' : (PyData.canLay0 d && PyData.canLayAll0 ds) = true := h
    rw [Bool.and_eq_true] at h'
    show (d.hasDict || PyData.hasDictAll ds) = false
    rw [lay_nd h'.1, layAll_nd h'.2]; rfl
end
/-- plain data, not deep -/
structure PL (d : PyData) : Prop where
  lay : PyData.canLay0 d = true
  dp : d.depth ≤ 50
  sz : szB d = true
theorem PL.sh {d : PyData} (h : PL d) : SeqAt.shaped d = true := by
  unfold SeqAt.shaped
  rw [Bool.and_eq_true]
  exact ⟨h.lay, decide_eq_true (by have := h.dp; omega)⟩
theorem layAll_mem : ∀ {ds : List PyData}, PyData.canLayAll0 ds = true → ∀ d ∈ ds, PyData.canLay0 d = true ∧ d.depth ≤ PyData.depthAll ds
  | [], _, d, h => by simp at h
  | e :: ds, h, d, hd => by
    have h' : (PyData.canLay0 e && PyData.canLayAll0 ds) = true := h
    rw [Bool.and_eq_true] at h'
    have em : PyData.depthAll (e :: ds) = max e.depth (PyData.depthAll ds) := rfl
    rcases List.mem_cons.mp hd with rfl | hd
    · exact ⟨h'.1, by omega⟩
    · obtain ⟨a, b⟩ := layAll_mem h'.2 d hd
      exact ⟨a, by omega⟩
theorem PL.mem {ds : List PyData} (h : PL (.tuple ds)) : ∀ d ∈ ds, PL d := fun d hd => by
  obtain ⟨a, b⟩ := layAll_mem (ds := ds) h.lay d hd
  have hh : PyData.depthAll ds + 1 ≤ 50 := h.dp
  exact ⟨a, by omega, szAll_mem h.sz d hd⟩
theorem PL.lmem {ds : List PyData} (h : PL (.list ds)) : ∀ d ∈ ds, PL d := fun d hd => by
  obtain ⟨a, b⟩ := layAll_mem (ds := ds) h.lay d hd
  have hh : PyData.depthAll ds + 1 ≤ 50 := h.dp
  exact ⟨a, by omega, szAll_mem h.sz d hd⟩
theorem PL.code {c : Str} (h : PL (.str c)) : ∀ x ∈ c.cps.toList, x < 0x110000 := by
  have h2 : PyData.strOk c = true := h.lay
  unfold PyData.strOk at h2
  rw [← Array.all_toList, List.all_eq_true] at h2
  exact fun x hx => of_decide_eq_true (h2 x hx)
theorem eqv_is (s : Str) (d : PyData) : PyData.eqv d (.str s) = strIs s d := by
  cases d with
  | str x => exact eqv_str x s
  | _ => rfl
def signs2 : Str := "0123456789abcdefghijklmnopqrstuvwxyz"
theorem sg2 (x : Nat) : x ∈ signs2.cps.toList ↔ x ∈ signs.cps.toList := by
  have a : ∀ y ∈ signs2.cps.toList, y ∈ signs.cps.toList := by decide +kernel
  have b : ∀ y ∈ signs.cps.toList, y ∈ signs2.cps.toList := by decide +kernel
  exact ⟨a x, b x⟩
section
variable {P : Program} {w : World} {K : PySem.W.Frag} {mg : Str → Option Value} {base : Heap}
def spNum (K : PySem.W.Frag) : Sp := fun vs H Q _ => ∃ (v : V) (d : PyData) (lo hi : Int), vs = [v, .int lo, .int hi] ∧ Dq K H v d ∧ Q (.bl (btwB lo hi d)) H
theorem ok__law_is_number (bt : Bt mg) (a : At K mg "_law_is_number" s__law_is_number ["_law_value", "_law_least", "_law_most"]) : Cl P w K mg base 1 "_law_is_number" (spNum K) := by
  refine clG a sc__law_is_number (fun vs H Q E h => ?_) (fun f cdv A outer s H vs Q hg hr h => ?_)
  · obtain ⟨v, d, lo, hi, rfl, _⟩ := h
    rfl
  · obtain ⟨v, d, lo, hi, rfl, hd, q⟩ := h
    refine ⟨_, (pss_one (ps_ret (pe_and (pe_callB call_isi (by rfl) bt.m_isinstance (by decide +kernel) (pa_cons (pv 0) (pa_cons (pe_bltn (v := .ty "int") (by rfl) bt.m_int (by decide +kernel) rfl) pa_nil))) (pe_and (pe_not (pe_callB call_isi (by rfl) bt.m_isinstance (by decide +kernel) (pa_cons (pv 0) (pa_cons (pe_bltn (v := .ty "bool") (by rfl) bt.m_bool (by decide +kernel) rfl) pa_nil)))) (pe_one (pe_chain op_le op_le (pv 1) (pv 0) (pv 2))))))), ?_⟩
    have ty := hd.ty
    cases d with
    | int i =>
      cases hd
      refine ⟨_, rfl, _, _, _, _, true, rfl, .ty "int", ty, kit_ty (show kitB "int" "int" = some true by decide +kernel), _, rfl, iteT ?_⟩
      refine ⟨_, rfl, _, _, _, _, false, rfl, .ty "bool", ty, kit_ty (show kitB "int" "bool" = some false by decide +kernel), _, rfl, _, rfl, iteT ?_⟩
      have q' : Q (.bl (decide (lo ≤ i) && decide (i ≤ hi))) H := q
      refine ⟨_, rfl, _, rfl, _, _, rfl, rfl, ?_⟩
      by_cases h1 : lo ≤ i
      · refine ⟨true, congrArg V.bl (decide_eq_true h1), iteT ⟨_, rfl, _, _, rfl, rfl, ?_⟩⟩
        rw [decide_eq_true h1, Bool.true_and] at q'
        exact q'
      · refine ⟨false, congrArg V.bl (decide_eq_false h1), iteF ?_⟩
        rw [decide_eq_false h1, Bool.false_and] at q'
        exact q'
    | bool b =>
      refine ⟨_, rfl, _, _, _, _, true, rfl, .ty "int", ty, kit_ty (show kitB "bool" "int" = some true by decide +kernel), _, rfl, iteT ?_⟩
      exact ⟨_, rfl, _, _, _, _, true, rfl, .ty "bool", ty, kit_ty (show kitB "bool" "bool" = some true by decide +kernel), _, rfl, _, rfl, iteF q⟩
    | none => exact ⟨_, rfl, _, _, _, _, false, rfl, .ty "int", ty, kit_ty (show kitB "NoneType" "int" = some false by decide +kernel), _, rfl, iteF q⟩
    | str => exact ⟨_, rfl, _, _, _, _, false, rfl, .ty "int", ty, kit_ty (show kitB "str" "int" = some false by decide +kernel), _, rfl, iteF q⟩
    | list => exact ⟨_, rfl, _, _, _, _, false, rfl, .ty "int", ty, kit_ty (show kitB "list" "int" = some false by decide +kernel), _, rfl, iteF q⟩
    | tuple => exact ⟨_, rfl, _, _, _, _, false, rfl, .ty "int", ty, kit_ty (show kitB "tuple" "int" = some false by decide +kernel), _, rfl, iteF q⟩
    | dict => exact ⟨_, rfl, _, _, _, _, false, rfl, .ty "int", ty, kit_ty (show kitB "dict" "int" = some false by decide +kernel), _, rfl, iteF q⟩
def spLC (K : PySem.W.Frag) : Sp := fun vs H Q _ => ∃ (v : V) (d : PyData), vs = [v] ∧ Dq K H v d ∧ PL d ∧ ∀ H', Same H H' → Q (.bl (codeB d)) H'
theorem ok__law_is_code (bt : Bt mg) (a : At K mg "_law_is_code" s__law_is_code ["_law_value"]) : Cl P w K mg base 1 "_law_is_code" (spLC K) := by
  refine clG a sc__law_is_code (fun vs H Q E h => ?_) (fun f cdv A outer s H vs Q hg hr h => ?_)
  · obtain ⟨v, d, rfl, _⟩ := h
    rfl
  · obtain ⟨v, d, rfl, hd, pl, q⟩ := h
    refine ⟨_, (pss_cons (ps_if (PW.pt (pw_or (pt_not (pt_val (pe_callB call_isi (by rfl) bt.m_isinstance (by decide +kernel) (pa_cons (pv 0) (pa_cons (pe_bltn (v := .ty "str") (by rfl) bt.m_str (by decide +kernel) rfl) pa_nil))))) (pw_or1 (pt_not (pt_chain op_le op_le pe_int (pe_callB call_len_str (by rfl) bt.m_len (by decide +kernel) (pa_cons (pv 0) pa_nil)) pe_int))))) (pss_one (ps_ret pe_bl)) pss_nil)
      (pss_one (ps_ret (pe_cmpR (op_eqD hr.units) (pe_lc (own := [("_law_sign", 1)]) (g := (gName 1)) (by rfl) sc__law_is_code.nd (pi_str (pv 0)) (blkOk_by (N := n__law_is_code) (sc := defScope s__law_is_code) (by decide +kernel)) (fun _ _ _ _ _ => (pg_name (i := 1) sc__law_is_code.nd rfl (Or.inl rfl))) (fun _ _ _ _ _ => (pts_one (pt_cmpR op_notIn_sign (pv 1) pe_str rfl))) (fun _ _ _ _ _ => (pv 1))) (pe_lst pa_nil) (nomark _))))), ?_⟩
    by_cases hk : kindS d = "str"
    · obtain ⟨c, rfl, rfl⟩ := hd.strE hk
      have e1 : (c.length : Int) = (c.cps.size : Int) := rfl
      have e0 : c.length = c.cps.size := rfl
      have sz' : c.length ≤ 1000 := of_decide_eq_true pl.sz
      have bad : ∀ H', Same H H' → ¬ CodeOk c → Q (.bl false) H' := fun H' s z => by
        have q' := q _ s
        rw [show codeB (.str c) = false from decide_eq_false z] at q'
        exact q'
      refine ⟨_, rfl, _, _, _, _, true, rfl, .ty "str", hd.ty, kit_ty (kit_strT hk), _, rfl, iteF ?_⟩
      refine ⟨_, rfl, c, rfl, (by rw [sizeLine_eq]; omega), _, _, rfl, rfl, ?_⟩
      by_cases h1 : 1 ≤ c.cps.size
      · refine ⟨true, congrArg V.bl (decide_eq_true (by omega)), iteT ⟨_, _, rfl, rfl, ?_⟩⟩
        by_cases h8 : c.cps.size ≤ 8
        · refine ⟨true, congrArg V.bl (decide_eq_true (by omega)), iteF ?_⟩
          refine ⟨_, rfl, c, rfl, fun M nM => lc_it (walk_str (z := c)) (fun i H' => H' = upd H M (.lst (sgV ((c.cps.toList.take i).filter fun x => !decide (x ∈ signs2.cps.toList))))) rfl (fun _ _ _ _ => True.intro) (fun j x H9 HA hj p y => ?_) (fun H9 p => ?_)⟩
          · obtain ⟨rfl, dd, hdd, rfl⟩ := y
            subst p
            have hdd' : c.cps.toList[j]? = some dd := by rw [Array.getElem?_toList]; exact hdd
            refine ⟨rfl, _, rfl, dd, signs2, rfl, rfl, ?_⟩
            cases hin : (!decide (dd ∈ signs2.cps.toList)) with
            | true =>
              refine ⟨_, rfl, iteT ⟨_, rfl, _, upd_same, ?_, ?_⟩⟩
              · unfold sgV
                rw [List.length_map]
                have := List.length_filter_le (fun x => !decide (x ∈ signs2.cps.toList)) (c.cps.toList.take j)
                rw [List.length_take] at this
                exact small1000 (by omega)
              · show upd (upd H M _) M (.lst (_ ++ [V.str ⟨#[dd]⟩])) = _
                rw [upd_upd, List.take_add_one, hdd', List.filter_append, show (some dd).toList.filter (fun x => !decide (x ∈ signs2.cps.toList)) = [dd] by simp only [Option.toList]; rw [List.filter_cons, hin]; rfl]
                unfold sgV
                rw [List.map_append]; rfl
            | false =>
              refine ⟨_, rfl, iteF ?_⟩
              rw [List.take_add_one, hdd', List.filter_append, show (some dd).toList.filter (fun x => !decide (x ∈ signs2.cps.toList)) = [] by simp only [Option.toList]; rw [List.filter_cons, hin]; rfl, List.append_nil]
          · subst p
            rw [List.take_of_length_le (by rw [Array.length_toList]; exact Nat.le_refl _)]
            have hM2 := upd_same (H := H) (a := M) (o := .lst (sgV (c.cps.toList.filter fun x => !decide (x ∈ signs2.cps.toList))))
            have s9 := same_upd (o := .lst (sgV (c.cps.toList.filter fun x => !decide (x ∈ signs2.cps.toList)))) nM
            refine ⟨Nat.zero_le _, fun U2 nU2 => ?_⟩
            have s10 := same_upd (o := .lst []) nU2
            refine ⟨.list (sgD (c.cps.toList.filter fun x => !decide (x ∈ signs2.cps.toList))), .list [], .lst (SqL.same_ (SqL.of hM2) s10) (sg_dp _), .lst (SqL.of upd_same) .nil, sg_shaped fun x hx => pl.code x (List.mem_filter.mp hx).1, rfl, ?_⟩
            have q' := q _ (s9.trans s10)
            have e : codeB (.str c) = PyData.eqv (.list (sgD (c.cps.toList.filter fun x => !decide (x ∈ signs2.cps.toList)))) (.list []) := by
              rw [eqv_nil, sg_empty, Bool.eq_iff_iff]
              show decide (CodeOk c) = true ↔ _
              rw [decide_eq_true_eq, List.isEmpty_iff, List.filter_eq_nil_iff]
              constructor
              · intro h x hx
                rw [decide_eq_true ((sg2 x).mpr (h.2.2 x hx))]; decide
              · intro h
                refine ⟨h1, h8, fun x hx => (sg2 x).mp ?_⟩
                have := h x hx
                simpa using this
            rw [e] at q'
            exact q'
        · exact ⟨false, congrArg V.bl (decide_eq_false (by omega)), iteT (bad _ (Same.refl _) fun z => h8 z.2.1)⟩
      · exact ⟨false, congrArg V.bl (decide_eq_false (by omega)), iteF ⟨_, rfl, iteT (bad _ (Same.refl _) fun z => h1 z.1)⟩⟩
    · refine ⟨_, rfl, _, _, _, _, false, rfl, .ty "str", hd.ty, kit_ty (kit_strF hk), _, rfl, iteT ?_⟩
      have e : codeB d = false := by
        cases d with
        | str c => exact absurd rfl hk
        | _ => rfl
      have q' := q _ (Same.refl _)
      rw [e] at q'
      exact q'
def spLH (K : PySem.W.Frag) : Sp := fun vs H Q _ => ∃ (v : V) (d : PyData) (n : Int), vs = [v, .int n] ∧ Dq K H v d ∧ PL d ∧ ∀ H', Same H H' → Q (.bl (holdB n d)) H'
theorem ok__law_is_hold (bt : Bt mg) (a : At K mg "_law_is_hold" s__law_is_hold ["_law_value", "_law_layers"]) (c__law_is_code : Cl P w K mg base 1 "_law_is_code" (spLC K)) (c__law_is_number : Cl P w K mg base 1 "_law_is_number" (spNum K)) : Cl P w K mg base 2 "_law_is_hold" (spLH K) := by
  refine clG a sc__law_is_hold (fun vs H Q E h => ?_) (fun f cdv A outer s H vs Q hg hr h => ?_)
  · obtain ⟨v, d, n, rfl, _⟩ := h
    rfl
  · obtain ⟨v, d, n, rfl, hd, pl, q⟩ := h
    refine ⟨_, (pss_cons (ps_if (PW.pt (pw_or (pt_not (pt_val (pe_callB call_isi (by rfl) bt.m_isinstance (by decide +kernel) (pa_cons (pv 0) (pa_cons (pe_bltn (v := .ty "tuple") (by rfl) bt.m_tuple (by decide +kernel) rfl) pa_nil))))) (pw_or1 (pt_cmpR op_ne (pe_callB call_len_seq (by rfl) bt.m_len (by decide +kernel) (pa_cons (pv 0) pa_nil)) pe_int (nomark _))))) (pss_one (ps_ret pe_bl)) pss_nil)
      (pss_cons (ps_if (pt_cmpR (op_eqD hr.units) (pe_ix ix_tup (pv 0) pe_int (fun _ _ => rfl)) pe_str (nomark _)) (pss_one (ps_ret (pe_cl c__law_is_code hg hr (by decide) (by rfl) (pa_cons (pe_ix ix_tup (pv 0) pe_int (fun _ _ => rfl)) pa_nil)))) pss_nil)
      (pss_one (ps_ret (pe_and (pe_cmpR (op_eqD hr.units) (pe_ix ix_tup (pv 0) pe_int (fun _ _ => rfl)) pe_str (nomark _)) (pe_one (pe_cl c__law_is_number hg hr (by decide) (by rfl) (pa_cons (pe_ix ix_tup (pv 0) pe_int (fun _ _ => rfl)) (pa_cons pe_int (pa_cons (pe_op op_sub (pv 1) pe_int) pa_nil)))))))))), ?_⟩
    by_cases hk : kindS d = "tuple"
    · obtain ⟨b, xs, ds, rfl, rfl, hs, hD⟩ := hd.tupE hk
      have hl : xs.length = ds.length := hD.length
      refine ⟨_, rfl, _, _, _, _, true, rfl, .ty "tuple", hd.ty, kit_ty (kit_tupT hk), _, rfl, iteF ?_⟩
      refine ⟨_, rfl, b, _, rfl, .inr hs, rfl, ?_⟩
      by_cases h2 : ds.length = 2
      · refine ⟨false, congrArg V.bl (show (!decide (V.int (xs.length : Nat) = V.int 2)) = false by rw [decide_eq_true (by rw [hl, h2]; rfl)]; rfl), iteF ?_⟩
        obtain ⟨x, y, vx, vy, rfl, rfl, hx, hy⟩ := dq_two hD h2
        have px := pl.mem x (by simp)
        have py := pl.mem y (by simp)
        have eh : holdB n (.tuple [x, y]) = ((strIs ("code" : Str) x && codeB y) || (strIn [("layer" : Str)] x && btwB 1 (n - 1) y)) := rfl
        have el : strIn [("layer" : Str)] x = strIs ("layer" : Str) x := by
          cases x with
          | str z => exact decide_eq_decide.mpr List.mem_singleton
          | _ => rfl
        refine ⟨_, rfl, b, _, 0, vx, rfl, rfl, hs, atI_nat (j := 0) rfl, x, .str ("code" : String), hx.p (lay_nd px.lay), .str _, px.sh, (by decide +kernel), ?_⟩
        rw [eqv_is]
        have q' := q _ (Same.refl _)
        rw [eh, el] at q'
        cases hc : strIs ("code" : Str) x with
        | true =>
          have e2 : strIs ("layer" : Str) x = false := by
            cases x with
            | str z =>
              have : z = ("code" : Str) := of_decide_eq_true hc
              rw [this]; decide +kernel
            | _ => rfl
          refine ⟨_, rfl, iteT ⟨_, rfl, b, _, 1, vy, rfl, rfl, hs, atI_nat (j := 1) rfl, vy, y, rfl, hy, py, fun H' s' => ?_⟩⟩
          have q2 := q _ s'
          rw [eh, el, hc, e2, Bool.true_and, Bool.false_and, Bool.or_false] at q2
          exact q2
        | false =>
          rw [hc, Bool.false_and, Bool.false_or] at q'
          refine ⟨_, rfl, iteF ⟨_, rfl, b, _, 0, vx, rfl, rfl, hs, atI_nat (j := 0) rfl, x, .str ("layer" : String), hx.p (lay_nd px.lay), .str _, px.sh, (by decide +kernel), ?_⟩⟩
          rw [eqv_is]
          cases hly : strIs ("layer" : Str) x with
          | true =>
            rw [hly, Bool.true_and] at q'
            exact ⟨_, rfl, iteT ⟨_, rfl, b, _, 1, vy, rfl, rfl, hs, atI_nat (j := 1) rfl, _, rfl, _, _, rfl, rfl, vy, y, _, _, rfl, hy, q'⟩⟩
          | false =>
            rw [hly, Bool.false_and] at q'
            exact ⟨_, rfl, iteF q'⟩
      · have q' := q _ (Same.refl _)
        rw [show holdB n (.tuple ds) = false by unfold holdB; rw [ca_len h2, la_len h2]; rfl] at q'
        exact ⟨true, congrArg V.bl (show (!decide (V.int (xs.length : Nat) = V.int 2)) = true by rw [decide_eq_false fun z => h2 (by have := V.int.inj z; omega)]; rfl), iteT q'⟩
    · have e : holdB n d = false := by
        cases d with
        | tuple ds => exact absurd rfl hk
        | _ => rfl
      have q' := q _ (Same.refl _)
      rw [e] at q'
      exact ⟨_, rfl, _, _, _, _, false, rfl, .ty "tuple", hd.ty, kit_ty (kit_tupF hk), _, rfl, iteT q'⟩
end
end K01

set_option Elab.async false
set_option linter.all false
set_option maxRecDepth 100000
set_option maxHeartbeats 8000000
namespace K01
open PySem PySem.Spec PyProof.Rows L2 Gd Rm La
theorem any_is (ws : List Str) (d : PyData) : ((ws.map PyData.str).any fun z => PyData.eqv z d) = strIn ws d := by
  induction ws with
  | nil => cases d <;> rfl
  | cons w ws ih =>
    rw [List.map_cons, List.any_cons, ih]
    cases d with
    | str x =>
      rw [eqv_str]
      show (decide (w = x) || decide (x ∈ ws)) = decide (x ∈ w :: ws)
      rw [Bool.eq_iff_iff, Bool.or_eq_true, decide_eq_true_eq, decide_eq_true_eq, decide_eq_true_eq, List.mem_cons]
      exact ⟨fun h => h.imp Eq.symm id, fun h => h.imp Eq.symm id⟩
    | _ => rfl
def oneD (d : PyData) : Prop := (kindS d = "tuple" ∨ kindS d = "str") → PL d
section
variable {P : Program} {w : World} {K : PySem.W.Frag} {mg : Str → Option Value} {base : Heap}
def spRight (K : PySem.W.Frag) : Sp := fun vs H Q _ => ∃ (v : V) (d : PyData) (i n : Int), vs = [v, .int i, .int n] ∧ Dq K H v d ∧ oneD d ∧ ∀ H', Same H H' → Q (.bl (standB i n d)) H'
theorem ok__law_is_right (bt : Bt mg) (a : At K mg "_law_is_right" s__law_is_right ["_law_value", "_law_layer", "_law_layers"]) (c__law_is_code : Cl P w K mg base 1 "_law_is_code" (spLC K)) (c__law_is_number : Cl P w K mg base 1 "_law_is_number" (spNum K)) (c__law_is_hold : Cl P w K mg base 2 "_law_is_hold" (spLH K)) : Cl P w K mg base 3 "_law_is_right" (spRight K) := by
  refine clG a sc__law_is_right (fun vs H Q E h => ?_) (fun f cdv A outer s H vs Q hg hr h => ?_)
  · obtain ⟨v, d, i, n, rfl, _⟩ := h
    rfl
  · obtain ⟨v, d, i, n, rfl, hd, od, q⟩ := h
    refine ⟨_, (pss_cons (ps_if (pt_not (pt_val (pe_callB call_isi (by rfl) bt.m_isinstance (by decide +kernel) (pa_cons (pv 0) (pa_cons (pe_bltn (v := .ty "tuple") (by rfl) bt.m_tuple (by decide +kernel) rfl) pa_nil))))) (pss_one (ps_ret (pe_and (pe_callB call_isi (by rfl) bt.m_isinstance (by decide +kernel) (pa_cons (pv 0) (pa_cons (pe_bltn (v := .ty "str") (by rfl) bt.m_str (by decide +kernel) rfl) pa_nil))) (pe_one (pe_or (pe_cmpR (op_eqD hr.units) (pv 0) pe_str (nomark _)) (pe_one (pe_and (pe_cmpR op_gt (pv 1) pe_int (nomark _)) (pe_one (pe_cmpR (op_eqD hr.units) (pv 0) pe_str (nomark _)))))))))) pss_nil)
      (pss_cons (ps_if (PW.pt (pw_and (pt_cmpR op_eq (pe_callB call_len_seq (by rfl) bt.m_len (by decide +kernel) (pa_cons (pv 0) pa_nil)) pe_int (nomark _)) (pw_and1 (pt_cmpR (op_inDT (room65 hr)) (pe_ix ix_tup (pv 0) pe_int (fun _ _ => rfl)) (pe_tup (pa_cons pe_str (pa_cons pe_str pa_nil))) (by rfl))))) (pss_one (ps_ret (pe_cl c__law_is_number hg hr (by decide) (by rfl) (pa_cons (pe_ix ix_tup (pv 0) pe_int (fun _ _ => rfl)) (pa_cons pe_int (pa_cons (pe_op op_sub (pv 2) pe_int) pa_nil)))))) pss_nil)
      (pss_cons (ps_if (pt_cmpR op_ne (pe_callB call_len_seq (by rfl) bt.m_len (by decide +kernel) (pa_cons (pv 0) pa_nil)) pe_int (nomark _)) (pss_one (ps_ret (pe_cl c__law_is_hold hg hr (by decide) (by rfl) (pa_cons (pv 0) (pa_cons (pv 2) pa_nil))))) pss_nil)
      (pss_cons (ps_asg (pv 0) (pg_tup rfl (pgs_cons (pg_name (i := 3) sc__law_is_right.nd rfl (Or.inl rfl)) (pgs_cons (pg_name (i := 4) sc__law_is_right.nd rfl (Or.inl rfl)) (pgs_cons (pg_name (i := 5) sc__law_is_right.nd rfl (Or.inl rfl)) (pgs_cons (pg_name (i := 6) sc__law_is_right.nd rfl (Or.inl rfl)) (pgs_cons (pg_name (i := 7) sc__law_is_right.nd rfl (Or.inl rfl)) pgs_nil)))))))
      (pss_cons (ps_if (PW.pt (pw_or (pt_cmpR (op_neD hr.units) (pv 3) pe_str (nomark _)) (pw_or (pt_not (pt_val (pe_cl c__law_is_code hg hr (by decide) (by rfl) (pa_cons (pv 4) pa_nil)))) (pw_or1 (pt_not (pt_val (pe_cl c__law_is_hold hg hr (by decide) (by rfl) (pa_cons (pv 5) (pa_cons (pv 2) pa_nil))))))))) (pss_one (ps_ret pe_bl)) pss_nil)
      (pss_one (ps_ret (pe_and (pe_cl c__law_is_number hg hr (by decide) (by rfl) (pa_cons (pv 6) (pa_cons pe_int (pa_cons (pe_op op_powW pe_int pe_int) pa_nil)))) (pe_and (pe_callB call_isi (by rfl) bt.m_isinstance (by decide +kernel) (pa_cons (pv 7) (pa_cons (pe_bltn (v := .ty "str") (by rfl) bt.m_str (by decide +kernel) rfl) pa_nil))) (pe_one (pe_cmpR op_in_seq (pv 7) (pe_tup (pa_cons pe_str (pa_cons pe_str (pa_cons pe_str pa_nil)))) (by rfl)))))))))))), ?_⟩
    by_cases hk : kindS d = "tuple"
    · obtain ⟨b, xs, ds, rfl, rfl, hs, hD⟩ := hd.tupE hk
      have pl := od (.inl hk)
      have hl : xs.length = ds.length := hD.length
      refine ⟨_, rfl, _, _, _, _, true, rfl, .ty "tuple", hd.ty, kit_ty (kit_tupT hk), _, rfl, iteF ?_⟩
      refine ⟨_, rfl, b, _, rfl, .inr hs, rfl, ?_⟩
      by_cases h2 : ds.length = 2
      · refine ⟨true, congrArg V.bl (decide_eq_true (by rw [hl, h2]; rfl)), iteT ?_⟩
        obtain ⟨x, y, vx, vy, rfl, rfl, hx, hy⟩ := dq_two hD h2
        have px := pl.mem x (by simp)
        have py := pl.mem y (by simp)
        have eh : standB i n (.tuple [x, y]) = ((strIs ("code" : Str) x && codeB y) || (strIn layWords x && btwB 1 (n - 1) y)) := rfl
        refine ⟨_, rfl, b, _, 0, vx, rfl, rfl, hs, atI_nat (j := 0) rfl, (by show 2 ≤ sizeLine; decide), fun p np => ?_⟩
        have sp := same_upd (o := .tup [.str ("lock" : String), .str ("once" : String)]) np
        have hp := upd_same (H := H) (a := p) (o := .tup [.str ("lock" : String), .str ("once" : String)])
        refine (fun (G : ∀ H1 : Hp, Same H H1 → H1 p = some (.tup [.str ("lock" : String), .str ("once" : String)]) → _) => G _ sp hp) (fun H1 sp hp => ?_)
        refine ⟨x, ([("lock" : Str), ("once" : Str)]).map PyData.str, (hx.same sp).p (lay_nd px.lay), .tup (SqT.of hp) (.cons (.str _) (.cons (.str _) .nil)), px.sh, (by decide +kernel), ?_⟩
        rw [any_is]
        cases hlo : strIn [("lock" : Str), ("once" : Str)] x with
        | true =>
          have e1 : strIs ("code" : Str) x = false := by
            cases x with
            | str z =>
              have hz : z ∈ [("lock" : Str), ("once" : Str)] := of_decide_eq_true hlo
              exact decide_eq_false fun e => absurd (show ("code" : Str) ∈ [("lock" : Str), ("once" : Str)] by rw [← e]; exact hz) (by decide +kernel)
            | _ => rfl
          have e2 : strIn layWords x = true := by
            cases x with
            | str z =>
              have hz : z ∈ [("lock" : Str), ("once" : Str)] := of_decide_eq_true hlo
              refine decide_eq_true ?_
              simp only [List.mem_cons, List.mem_nil_iff, or_false] at hz
              rcases hz with rfl | rfl <;> decide +kernel
            | _ => cases hlo
          refine ⟨_, rfl, iteT ⟨_, rfl, b, _, 1, vy, rfl, rfl, SqT.same_ hs sp, atI_nat (j := 1) rfl, _, rfl, _, _, rfl, rfl, vy, y, _, _, rfl, hy.same sp, ?_⟩⟩
          have q' := q _ sp
          rw [eh, e1, e2, Bool.false_and, Bool.false_or, Bool.true_and] at q'
          exact q'
        | false =>
          refine ⟨_, rfl, iteF ?_⟩
          refine ⟨_, rfl, b, _, rfl, .inr (SqT.same_ hs sp), rfl, true, congrArg V.bl (by simp), iteT ?_⟩
          refine ⟨_, rfl, _, rfl, .ref b, .tuple [x, y], n, rfl, hd.same sp, pl, fun H2 s2 => ?_⟩
          have q' := q _ (sp.trans s2)
          have e3 : strIn layWords x = strIn [("layer" : Str)] x := by
            cases x with
            | str z =>
              have hz : ¬ z ∈ [("lock" : Str), ("once" : Str)] := of_decide_eq_false hlo
              refine decide_eq_decide.mpr ⟨fun h => ?_, fun h => ?_⟩
              · rcases List.mem_cons.mp h with h | h
                · exact List.mem_singleton.mpr h
                · exact absurd h hz
              · rw [List.mem_singleton.mp h]; decide +kernel
            | _ => rfl
          rw [eh, e3] at q'
          exact q'
      · refine ⟨false, congrArg V.bl (decide_eq_false fun z => h2 (by have := V.int.inj z; omega)), iteF (iteF ?_)⟩
        have eq : standB i n (.tuple ds) = dualB n (.tuple ds) := if_neg h2
        refine ⟨_, rfl, b, _, rfl, .inr hs, rfl, ?_⟩
        by_cases h5 : ds.length = 5
        · refine ⟨false, congrArg V.bl (by rw [hl, h5]; simp), iteF ?_⟩
          obtain ⟨da, db, dc, dd, de, va, vb, vc, vd, ve, rfl, rfl, ha, hb, hc, hdd, he⟩ := dq_five hD h5
          have pm := pl.mem
          have bad : ∀ H', Same H H' → dualB n (.tuple [da, db, dc, dd, de]) = false → Q (.bl false) H' := fun H' s e => by
            have q' := q _ s
            rw [eq, e] at q'
            exact q'
          refine ⟨_, rfl, b, _, rfl, hs, rfl, _, _, rfl, _, _, rfl, _, _, rfl, _, _, rfl, _, _, rfl, rfl, ?_⟩
          have pa := pm da (by simp)
          refine ⟨_, rfl, da, .str ("dual" : String), ha.p (lay_nd pa.lay), .str _, pa.sh, (by decide +kernel), ?_⟩
          rw [eqv_is]
          cases h1 : strIs ("dual" : Str) da with
          | false => exact ⟨_, rfl, iteT (bad _ (Same.refl _) (by rw [du_eq, show strIs ("dual" : Str) da = false from h1]; rfl))⟩
          | true =>
            have e1 : strIs ("dual" : Str) da = true := h1
            refine ⟨_, rfl, iteF ?_⟩
            refine ⟨_, rfl, vb, db, rfl, hb, pm db (by simp), fun H1 s1 => ⟨_, rfl, ?_⟩⟩
            cases hcd : codeB db with
            | false => exact iteT (bad _ s1 (by rw [du_eq, e1, hcd]; rfl))
            | true =>
              refine iteF ⟨_, rfl, _, rfl, vc, dc, n, rfl, hc.same s1, pm dc (by simp), fun H2 s2 => ⟨_, rfl, ?_⟩⟩
              have s12 := s1.trans s2
              cases hh : holdB n dc with
              | false => exact iteT (bad _ s12 (by rw [du_eq, e1, hcd, hh]; rfl))
              | true =>
                have eqd : dualB n (.tuple [da, db, dc, dd, de]) = (btwB 1 1000000000 dd && strIn rules de) := by rw [du_eq, e1, hcd, hh]; rfl
                refine iteF ⟨_, rfl, _, _, rfl, rfl, powW (n := 40) (k := 9) (by decide) (by decide), vd, dd, 1, 1000000000, rfl, hdd.same s12, _, rfl, ?_⟩
                cases hb1 : btwB 1 1000000000 dd with
                | false => exact iteF (bad _ s12 (by rw [eqd, hb1]; rfl))
                | true =>
                  refine iteT ?_
                  by_cases hr' : kindS de = "str"
                  · obtain ⟨y, rfl, rfl⟩ := (he.same s12).strE hr'
                    refine ⟨_, rfl, _, _, _, _, true, rfl, .ty "str", (he.same s12).ty, kit_ty (kit_strT hr'), _, rfl, iteT ?_⟩
                    refine ⟨_, rfl, (by show 3 ≤ sizeLine; decide), fun p np => ?_⟩
                    have sp := same_upd (o := .tup [.str ("time" : String), .str ("other" : String), .str ("within" : String)]) np
                    refine ⟨p, _, rfl, .inr (SqT.of upd_same), rfl, rfl, ?_⟩
                    have q' := q _ (s12.trans sp)
                    rw [eq, eqd, hb1] at q'
                    have e2 : (true && strIn rules (.str y)) = inV (.str y) (rules.map V.str) := by rw [inv_str]; rfl
                    rw [e2] at q'
                    exact q'
                  · refine ⟨_, rfl, _, _, _, _, false, rfl, .ty "str", (he.same s12).ty, kit_ty (kit_strF hr'), _, rfl, iteF (bad _ s12 ?_)⟩
                    rw [eqd, strIn_kind hr', Bool.and_false]
        · refine ⟨true, congrArg V.bl (show (!decide (V.int (xs.length : Nat) = V.int 5)) = true by rw [decide_eq_false fun z => h5 (by have := V.int.inj z; omega)]; rfl), iteT ?_⟩
          refine ⟨_, rfl, _, rfl, .ref b, .tuple ds, n, rfl, hd, pl, fun H2 s2 => ?_⟩
          have q' := q _ s2
          rw [eq, du_len h5] at q'
          rw [show holdB n (.tuple ds) = false by unfold holdB; rw [ca_len h2, la_len h2]; rfl]
          exact q'
    · refine ⟨_, rfl, _, _, _, _, false, rfl, .ty "tuple", hd.ty, kit_ty (kit_tupF hk), _, rfl, iteT ?_⟩
      by_cases hs' : kindS d = "str"
      · have pl := od (.inr hs')
        obtain ⟨x, rfl, rfl⟩ := hd.strE hs'
        refine ⟨_, rfl, _, _, _, _, true, rfl, .ty "str", hd.ty, kit_ty (kit_strT hs'), _, rfl, iteT ?_⟩
        have q' : Q (.bl (decide (x = ("none" : Str)) || (decide (x = ("through" : Str)) && decide (0 < i)))) H := q _ (Same.refl _)
        refine ⟨_, rfl, .str x, .str ("none" : String), .str _, .str _, pl.sh, (by decide +kernel), ?_⟩
        rw [eqv_str]
        by_cases h1 : x = ("none" : Str)
        · rw [decide_eq_true h1, Bool.true_or] at q'
          rw [decide_eq_true h1]
          exact ⟨true, rfl, iteT q'⟩
        · rw [decide_eq_false h1, Bool.false_or] at q'
          rw [decide_eq_false h1]
          refine ⟨false, rfl, iteF ⟨_, rfl, _, _, rfl, rfl, ?_⟩⟩
          by_cases h2 : 0 < i
          · refine ⟨true, congrArg V.bl (decide_eq_true h2), iteT ?_⟩
            refine ⟨_, rfl, .str x, .str ("through" : String), .str _, .str _, pl.sh, (by decide +kernel), ?_⟩
            rw [eqv_str]
            rw [decide_eq_true h2, Bool.and_true] at q'
            exact q'
          · refine ⟨false, congrArg V.bl (decide_eq_false h2), iteF ?_⟩
            rw [decide_eq_false h2, Bool.and_false] at q'
            exact q'
      · refine ⟨_, rfl, _, _, _, _, false, rfl, .ty "str", hd.ty, kit_ty (kit_strF hs'), _, rfl, iteF ?_⟩
        have e : standB i n d = false := by
          cases d with
          | tuple ds => exact absurd rfl hk
          | str x => exact absurd rfl hs'
          | _ => rfl
        have q' := q _ (Same.refl _)
        rw [e] at q'
        exact q'
/-- what a fault's telling says -/
def Told (K : PySem.W.Frag) (H : Hp) (r : V) (b : Bool) : Prop := (b = true ∧ r = .str ("fine" : Str)) ∨ (b = false ∧ ∃ dr, Dp K H r dr ∧ SeqAt.shaped dr = true ∧ PyData.eqv dr (.str ("fine" : String)) = false)
def tabG : PyData → Prop
  | .list ds => (∀ r ∈ ds, ∀ ds', r = .list ds' → (∀ d ∈ ds', oneD d) ∧ ds'.length ≤ 400) ∧ (formB (.list ds) = true ∨ ∀ r ∈ ds, PL r)
  | _ => True
def spFault (K : PySem.W.Frag) : Sp := fun vs H Q _ => ∃ (v : V) (d : PyData), vs = [v] ∧ Dq K H v d ∧ tabG d ∧ ∀ H' r, Same H H' → Told K H' r (layB d) → Q r H'
theorem none2 {K : PySem.W.Frag} {H : Hp} {p : Addr} (hp : H p = some (.tup [.non, .non])) : ∃ dr, Dp K H (.ref p) dr ∧ SeqAt.shaped dr = true ∧ PyData.eqv dr (.str ("fine" : String)) = false :=
  ⟨.tuple [.none, .none], .tup (SqT.of hp) (.cons .non (.cons .non .nil)), by decide +kernel, rfl⟩
theorem int2 {K : PySem.W.Frag} {H : Hp} {p : Addr} {i j : Int} (hp : H p = some (.tup [.int i, .int j])) : ∃ dr, Dp K H (.ref p) dr ∧ SeqAt.shaped dr = true ∧ PyData.eqv dr (.str ("fine" : String)) = false :=
  ⟨.tuple [.int i, .int j], .tup (SqT.of hp) (.cons (.int i) (.cons (.int j) .nil)), rfl, rfl⟩
theorem PL.all {ds : List PyData} (h : ∀ d ∈ ds, PL d) : PyData.canLayAll0 ds = true ∧ PyData.depthAll ds ≤ 50 := by
  induction ds with
  | nil => exact ⟨rfl, by decide⟩
  | cons d ds ih =>
    obtain ⟨a, b⟩ := ih fun x hx => h x (List.mem_cons_of_mem _ hx)
    have hd := h d List.mem_cons_self
    refine ⟨?_, ?_⟩
    · show (PyData.canLay0 d && PyData.canLayAll0 ds) = true
      rw [hd.lay, a]; rfl
    · show max d.depth (PyData.depthAll ds) ≤ 50
      have := hd.dp
      omega
theorem PL.shl {ds : List PyData} (h : ∀ d ∈ ds, PL d) : SeqAt.shaped (.list ds) = true := by
  obtain ⟨a, b⟩ := PL.all h
  show (PyData.canLayAll0 ds && decide (PyData.depthAll ds + 1 ≤ 64)) = true
  rw [a, decide_eq_true (by omega)]; rfl
def rowB (r : PyData) : Bool := isL r && decide (1 ≤ lenOf r ∧ lenOf r ≤ 16)
theorem ok__law_fault (bt : Bt mg) (a : At K mg "_law_fault" s__law_fault ["_law_value"]) (c__law_is_right : Cl P w K mg base 3 "_law_is_right" (spRight K)) : Cl P w K mg base 4 "_law_fault" (spFault K) := by
  refine clG a sc__law_fault (fun vs H Q E h => ?_) (fun f cdv A outer s H vs Q hg hr h => ?_)
  · obtain ⟨v, d, rfl, _⟩ := h
    rfl
  · obtain ⟨v, d, rfl, hd, hG, q⟩ := h
    refine ⟨_, (pss_cons (ps_if (PW.pt (pw_or (pt_not (pt_val (pe_callB call_isi (by rfl) bt.m_isinstance (by decide +kernel) (pa_cons (pv 0) (pa_cons (pe_bltn (v := .ty "list") (by rfl) bt.m_list (by decide +kernel) rfl) pa_nil))))) (pw_or1 (pt_not (pt_chain op_le op_le pe_int (pe_callB call_len_seq (by rfl) bt.m_len (by decide +kernel) (pa_cons (pv 0) pa_nil)) pe_int))))) (pss_one (ps_ret (pe_tup (pa_cons pe_non (pa_cons pe_non pa_nil))))) pss_nil)
      (pss_cons (ps_if (pt_cmpR (op_neD hr.units) (pe_lc (own := [("_law_row", 1)]) (g := (gName 1)) (by rfl) sc__law_fault.nd (pi_list (pv 0)) (blkOk_by (N := n__law_fault) (sc := defScope s__law_fault) (by decide +kernel)) (fun _ _ _ _ _ => (pg_name (i := 1) sc__law_fault.nd rfl (Or.inl rfl))) (fun _ _ _ _ _ => (pts_one (PW.pt (pw_or (pt_not (pt_val (pe_callB (r := rIsi K) call_isi (by rfl) bt.m_isinstance (by decide +kernel) (pa_cons (pv 1) (pa_cons (pe_bltn (v := .ty "list") (by rfl) bt.m_list (by decide +kernel) rfl) pa_nil))))) (pw_or1 (pt_not (pt_chain op_le op_le pe_int (pe_callB (r := rLenB K) call_len_seq (by rfl) bt.m_len (by decide +kernel) (pa_cons (pv 1) pa_nil)) pe_int))))))) (fun _ _ _ _ _ => (pv 1))) (pe_lst pa_nil) (nomark _)) (pss_one (ps_ret (pe_tup (pa_cons pe_non (pa_cons pe_non pa_nil))))) pss_nil)
      (pss_cons (ps_if (pt_cmpR (op_neD hr.units) (pe_lc (own := [("_law_row", 1)]) (g := (gName 1)) (by rfl) sc__law_fault.nd (pi_list (pv 0)) (blkOk_by (N := n__law_fault) (sc := defScope s__law_fault) (by decide +kernel)) (fun _ _ _ _ _ => (pg_name (i := 1) sc__law_fault.nd rfl (Or.inl rfl))) (fun _ _ _ _ _ => (pts_one (pt_cmpR op_ne (pe_callB (r := rLenB K) call_len_seq (by rfl) bt.m_len (by decide +kernel) (pa_cons (pv 1) pa_nil)) (pe_callB (r := rLenB K) call_len_seq (by rfl) bt.m_len (by decide +kernel) (pa_cons (pe_ix (r := rIxL K) ix_list (pv 0) pe_int (fun _ _ => rfl)) pa_nil)) (nomark _)))) (fun _ _ _ _ _ => (pv 1))) (pe_lst pa_nil) (nomark _)) (pss_one (ps_ret (pe_tup (pa_cons pe_non (pa_cons pe_non pa_nil))))) pss_nil)
      (pss_cons (ps_for PassesOwn.never rfl (pi_enum (by rfl) bt.m_enumerate (pa_cons (pv 0) pa_nil)) (pg_tup rfl (pgs_cons (pg_name (i := 2) sc__law_fault.nd rfl (Or.inl rfl)) (pgs_cons (pg_name (i := 1) sc__law_fault.nd rfl (Or.inl rfl)) pgs_nil))) (pss_one (ps_for PassesOwn.never rfl (pi_enum (by rfl) bt.m_enumerate (pa_cons (pv 1) pa_nil)) (pg_tup rfl (pgs_cons (pg_name (i := 3) sc__law_fault.nd rfl (Or.inl rfl)) (pgs_cons (pg_name (i := 4) sc__law_fault.nd rfl (Or.inl rfl)) pgs_nil))) (pss_one (ps_if (pt_not (pt_val (pe_cl c__law_is_right hg hr (by decide) (by rfl) (pa_cons (pv 4) (pa_cons (pv 2) (pa_cons (pe_callB call_len_seq (by rfl) bt.m_len (by decide +kernel) (pa_cons (pv 0) pa_nil)) pa_nil)))))) (pss_one (ps_ret (pe_tup (pa_cons (pv 2) (pa_cons (pv 3) pa_nil))))) pss_nil)))))
      (pss_one (ps_ret pe_str)))))), ?_⟩
    by_cases hk : kindS d = "list"
    · obtain ⟨c, xs, ds, rfl, rfl, hs, hD⟩ := hd.lstE hk
      have hl : xs.length = ds.length := hD.length
      have hG1 : ∀ r ∈ ds, ∀ ds', r = .list ds' → (∀ d ∈ ds', oneD d) ∧ ds'.length ≤ 400 := hG.1
      have hG2 : formB (.list ds) = true ∨ ∀ r ∈ ds, PL r := hG.2
      have nl : formB (.list ds) = false → layB (.list ds) = false := fun z => by
        show (formB (.list ds) && _) = false
        rw [z]; rfl
      have nlen : ¬ (1 ≤ ds.length ∧ ds.length ≤ 6) → layB (.list ds) = false := fun z => nl (by
        show (decide (1 ≤ ds.length ∧ ds.length ≤ 6) && _) = false
        rw [decide_eq_false z]; rfl)
      refine ⟨_, rfl, _, _, _, _, true, rfl, .ty "list", hd.ty, kit_ty (kit_lstT hk), _, rfl, iteF ?_⟩
      refine ⟨_, rfl, c, _, rfl, .inl hs, _, _, rfl, rfl, ?_⟩
      by_cases h1 : 1 ≤ ds.length
      · refine ⟨true, congrArg V.bl (decide_eq_true (by omega)), iteT ⟨_, _, rfl, rfl, ?_⟩⟩
        by_cases h6 : ds.length ≤ 6
        · refine ⟨true, congrArg V.bl (decide_eq_true (by omega)), iteF ?_⟩
          refine ⟨_, rfl, c, rfl, ⟨_, hs⟩, fun M nM => lc_it (walk_list (xs := xs)) (fun i H' => Same H H' ∧ ∃ fxs, H' M = some (.lst fxs) ∧ DqAll K H fxs ((ds.take i).filter fun r => !rowB r) ∧ fxs.length ≤ i) ⟨same_upd nM, [], upd_same, .nil, Nat.le_refl _⟩ (fun i H' _ p => SqL.same_ hs p.1) (fun i x H2 H3 hi p y => ?_) (fun H2 p => ?_)⟩
          · obtain ⟨s2, fxs, hM, hDf, hfl⟩ := p
            obtain ⟨rfl, e2⟩ := y
            obtain ⟨di, hdi, hdq0⟩ := hD.at_ e2
            have hdq := hdq0.same s2
            have hmi := List.mem_of_getElem? hdi
            have keep : rowB di = false → ((ds.take (i + 1)).filter fun r => !rowB r) = ((ds.take i).filter fun r => !rowB r) ++ [di] := fun z => by
              rw [List.take_add_one, hdi, List.filter_append, show (some di).toList.filter (fun r => !rowB r) = [di] by simp [z]]
            have skip : rowB di = true → ((ds.take (i + 1)).filter fun r => !rowB r) = ((ds.take i).filter fun r => !rowB r) := fun z => by
              rw [List.take_add_one, hdi, List.filter_append, show (some di).toList.filter (fun r => !rowB r) = [] by simp [z], List.append_nil]
            refine ⟨rfl, ?_⟩
            by_cases kl : kindS di = "list"
            · obtain ⟨ai, zs, r, rfl, rfl, hsi0, hDi0⟩ := hdq0.lstE kl
              have hli : zs.length = r.length := hDi0.length
              have hlr : r.length ≤ 400 := (hG1 _ hmi r rfl).2
              have rb : rowB (.list r) = decide (1 ≤ r.length ∧ r.length ≤ 16) := rfl
              refine ⟨_, rfl, _, _, _, _, true, rfl, .ty "list", hdq.ty, kit_ty (kit_lstT kl), _, rfl, iteF ?_⟩
              refine ⟨_, rfl, ai, _, rfl, .inl (SqL.same_ hsi0 s2), _, _, rfl, rfl, ?_⟩
              by_cases r1 : 1 ≤ r.length
              · refine ⟨true, congrArg V.bl (decide_eq_true (by omega)), iteT ⟨_, _, rfl, rfl, ?_⟩⟩
                by_cases r16 : r.length ≤ 16
                · refine ⟨true, congrArg V.bl (decide_eq_true (by omega)), iteF ⟨s2, fxs, hM, ?_, by omega⟩⟩
                  rw [skip (rb.trans (decide_eq_true ⟨r1, r16⟩))]
                  exact hDf
                · refine ⟨false, congrArg V.bl (decide_eq_false (by omega)), iteT ⟨_, rfl, _, hM, small1000 (by omega), Same.off s2 nM off_upd, fxs ++ [.ref ai], upd_same, ?_, by rw [List.length_append]; show _ + 1 ≤ _; omega⟩⟩
                  rw [keep (rb.trans (decide_eq_false fun z => r16 z.2))]
                  exact DqAll.append hDf (.cons hdq0 .nil)
              · refine ⟨false, congrArg V.bl (decide_eq_false (by omega)), iteF ⟨_, rfl, iteT ⟨_, rfl, _, hM, small1000 (by omega), Same.off s2 nM off_upd, fxs ++ [.ref ai], upd_same, ?_, by rw [List.length_append]; show _ + 1 ≤ _; omega⟩⟩⟩
                rw [keep (rb.trans (decide_eq_false fun z => r1 z.1))]
                exact DqAll.append hDf (.cons hdq0 .nil)
            · refine ⟨_, rfl, _, _, _, _, false, rfl, .ty "list", hdq.ty, kit_ty (kit_lstF kl), _, rfl, iteT ⟨_, rfl, _, hM, small1000 (by omega), Same.off s2 nM off_upd, fxs ++ [x], upd_same, ?_, by rw [List.length_append]; show _ + 1 ≤ _; omega⟩⟩
              have z : rowB di = false := by
                unfold rowB
                rw [isL_kind, decide_eq_false kl]; rfl
              rw [keep z]
              exact DqAll.append hDf (.cons hdq0 .nil)
          · obtain ⟨s2, fxs, hM, hDf, hfl⟩ := p
            rw [List.take_of_length_le (by omega)] at hDf
            refine ⟨Nat.zero_le _, fun U nU => ?_⟩
            have sU := same_upd (o := .lst []) nU
            have hU := upd_same (H := H2) (a := U) (o := .lst [])
            refine (fun (G : ∀ H3 : Hp, Same H2 H3 → H3 U = some (.lst []) → _) => G _ sU hU) (fun H3 sU hU => ?_)
            have s3 := s2.trans sU
            have formR : formB (.list ds) = true → ds.all rowB = true := fun z => by
              obtain ⟨_, b1, b2, b3⟩ := form_list z
              rw [List.all_eq_true]
              intro r hr
              unfold rowB
              rw [List.all_eq_true.mp b1 r hr, b3 r hr, decide_eq_true b2]; rfl
            cases hall : ds.all rowB with
            | false =>
              have nf : formB (.list ds) = false := by
                cases z : formB (.list ds) with
                | false => rfl
                | true => rw [formR z] at hall; cases hall
              have pls : ∀ r ∈ ds, PL r := hG2.resolve_left (by rw [nf]; decide)
              have plf : ∀ r ∈ ds.filter (fun r => !rowB r), PL r := fun r hr => pls r (List.mem_filter.mp hr).1
              have ne : (ds.filter fun r => !rowB r).isEmpty = false := by
                rw [List.isEmpty_eq_false_iff, ne_eq, List.filter_eq_nil_iff]
                intro z
                have : ds.all rowB = true := List.all_eq_true.mpr fun r hr => by
                  have := z r hr
                  simpa using this
                rw [this] at hall; cases hall
              refine ⟨.list (ds.filter fun r => !rowB r), .list [], .lst (SqL.same_ (SqL.of hM) sU) ((hDf.same s3).p (layAll_nd (PL.all plf).1)), .lst (SqL.of hU) .nil, PL.shl plf, rfl, true, congrArg V.bl (by rw [eqv_nil, ne]; rfl), iteT ?_⟩
              exact ⟨(by show 2 ≤ sizeLine; decide), fun p np => q _ _ (s3.trans (same_upd np)) (.inr ⟨nl nf, none2 upd_same⟩)⟩
            | true =>
              have e0 : (ds.filter fun r => !rowB r) = [] := by
                rw [List.filter_eq_nil_iff]
                intro r hr
                rw [List.all_eq_true.mp hall r hr]; decide
              rw [e0] at hDf
              refine ⟨.list [], .list [], .lst (SqL.same_ (SqL.of hM) sU) ((hDf.same s3).p rfl), .lst (SqL.of hU) .nil, rfl, rfl, false, congrArg V.bl rfl, iteF ?_⟩
              have rowsL : ∀ r ∈ ds, isL r = true ∧ 1 ≤ lenOf r ∧ lenOf r ≤ 16 := fun r hr => by
                have := List.all_eq_true.mp hall r hr
                unfold rowB at this
                rw [Bool.and_eq_true, decide_eq_true_eq] at this
                exact this
              obtain ⟨d0, hd0⟩ : ∃ d0, ds[0]? = some d0 := ⟨ds[0], List.getElem?_eq_getElem (by omega)⟩
              obtain ⟨v0, hv0, hq0⟩ := hD.get hd0
              have e00 : ds.getD 0 .none = d0 := by rw [List.getD_eq_getElem?_getD, hd0]; rfl
              obtain ⟨a0, x0, r0, rfl, rfl, hs0, hD0⟩ := hq0.lstE (isL_eq (rowsL _ (List.mem_of_getElem? hd0)).1)
              have hl0 : x0.length = r0.length := hD0.length
              refine ⟨_, rfl, c, rfl, ⟨_, SqL.same_ hs s3⟩, fun M2 nM2 => lc_it (walk_list (xs := xs)) (fun i H' => Same H3 H' ∧ ∃ fxs, H' M2 = some (.lst fxs) ∧ DqAll K H fxs ((ds.take i).filter fun r => !decide (lenOf r = r0.length)) ∧ fxs.length ≤ i) ⟨same_upd nM2, [], upd_same, .nil, Nat.le_refl _⟩ (fun i H' _ p => SqL.same_ hs (s3.trans p.1)) (fun i x H4 H5 hi p y => ?_) (fun H4 p => ?_)⟩
              · obtain ⟨s4, fxs, hM2, hDf, hfl⟩ := p
                obtain ⟨rfl, e2⟩ := y
                obtain ⟨di, hdi, hdq0⟩ := hD.at_ e2
                have s34 := s3.trans s4
                have hmi := List.mem_of_getElem? hdi
                obtain ⟨ai, zs, r, rfl, rfl, hsi0, hDi0⟩ := hdq0.lstE (isL_eq (rowsL di hmi).1)
                have hli : zs.length = r.length := hDi0.length
                refine ⟨rfl, _, rfl, ai, _, rfl, .inl (SqL.same_ hsi0 s34), _, rfl, c, _, 0, .ref a0, rfl, rfl, SqL.same_ hs s34, atI_nat (j := 0) hv0, a0, _, rfl, .inl (SqL.same_ hs0 s34), rfl, ?_⟩
                by_cases z : r.length = r0.length
                · refine ⟨false, congrArg V.bl (by rw [hli, hl0, z]; simp), iteF ⟨s4, fxs, hM2, ?_, by omega⟩⟩
                  rw [List.take_add_one, hdi, List.filter_append, show (some (PyData.list r)).toList.filter (fun r => !decide (lenOf r = r0.length)) = [] by simp [lenOf, z], List.append_nil]
                  exact hDf
                · refine ⟨true, congrArg V.bl (show (!decide (V.int (zs.length : Nat) = V.int (x0.length : Nat))) = true by rw [decide_eq_false fun y => z (by have := V.int.inj y; omega)]; rfl), iteT ⟨_, rfl, _, hM2, small1000 (by omega), Same.off s4 nM2 off_upd, fxs ++ [.ref ai], upd_same, ?_, by rw [List.length_append]; show _ + 1 ≤ _; omega⟩⟩
                  rw [List.take_add_one, hdi, List.filter_append, show (some (PyData.list r)).toList.filter (fun r => !decide (lenOf r = r0.length)) = [.list r] by simp [lenOf, z]]
                  exact DqAll.append hDf (.cons hdq0 .nil)
              · obtain ⟨s4, fxs, hM2, hDf, hfl⟩ := p
                rw [List.take_of_length_le (by omega)] at hDf
                refine ⟨Nat.zero_le _, fun U2 nU2 => ?_⟩
                have sU2 := same_upd (o := .lst []) nU2
                have hU2 := upd_same (H := H4) (a := U2) (o := .lst [])
                refine (fun (G : ∀ H5 : Hp, Same H4 H5 → H5 U2 = some (.lst []) → _) => G _ sU2 hU2) (fun H5 sU2 hU2 => ?_)
                have s5 := (s3.trans s4).trans sU2
                have rr0 := (rowsL _ (List.mem_of_getElem? hd0)).2
                have ef : formB (.list ds) = ds.all fun r => decide (lenOf r = r0.length) := by
                  show (decide (1 ≤ ds.length ∧ ds.length ≤ 6) && (ds.all isL && (decide (1 ≤ lenOf (ds.getD 0 .none) ∧ lenOf (ds.getD 0 .none) ≤ 16) && ds.all fun r => decide (lenOf r = lenOf (ds.getD 0 .none))))) = _
                  rw [e00, decide_eq_true ⟨h1, h6⟩, List.all_eq_true.mpr fun r hr => (rowsL r hr).1, decide_eq_true rr0]; rfl
                cases hf : formB (.list ds) with
                | false =>
                  have pls : ∀ r ∈ ds, PL r := hG2.resolve_left (by rw [hf]; decide)
                  have plf : ∀ r ∈ ds.filter (fun r => !decide (lenOf r = r0.length)), PL r := fun r hr => pls r (List.mem_filter.mp hr).1
                  have ne : (ds.filter fun r => !decide (lenOf r = r0.length)).isEmpty = false := by
                    rw [List.isEmpty_eq_false_iff, ne_eq, List.filter_eq_nil_iff]
                    intro z
                    have : (ds.all fun r => decide (lenOf r = r0.length)) = true := List.all_eq_true.mpr fun r hr => by
                      have := z r hr
                      simpa using this
                    rw [ef, this] at hf; cases hf
                  refine ⟨.list (ds.filter fun r => !decide (lenOf r = r0.length)), .list [], .lst (SqL.same_ (SqL.of hM2) sU2) ((hDf.same s5).p (layAll_nd (PL.all plf).1)), .lst (SqL.of hU2) .nil, PL.shl plf, rfl, true, congrArg V.bl (by rw [eqv_nil, ne]; rfl), iteT ?_⟩
                  exact ⟨(by show 2 ≤ sizeLine; decide), fun p np => q _ _ (s5.trans (same_upd np)) (.inr ⟨nl hf, none2 upd_same⟩)⟩
                | true =>
                  have hsame := List.all_eq_true.mp (ef.symm.trans hf)
                  have e0' : (ds.filter fun r => !decide (lenOf r = r0.length)) = [] := by
                    rw [List.filter_eq_nil_iff]
                    intro r hr
                    rw [hsame r hr]; decide
                  rw [e0'] at hDf
                  refine ⟨.list [], .list [], .lst (SqL.same_ (SqL.of hM2) sU2) ((hDf.same s5).p rfl), .lst (SqL.of hU2) .nil, rfl, rfl, false, congrArg V.bl rfl, iteF ?_⟩
                  have er : layB (.list ds) = rowsOk (ds.length : Nat) 0 ds := by
                    show (formB (.list ds) && rowsOk (ds.length : Nat) 0 ds) = _
                    rw [hf]; rfl
                  rw [er] at q
                  refine ⟨_, rfl, c, _, rfl, SqL.same_ hs s5, for_it (walk_enum (xs := xs))
                    (fun i σ H' => Same H H' ∧ ∃ y1 y2 y3 y4, σ = [some (.ref c), y1, y2, y3, y4] ∧ rowsOk (ds.length : Nat) 0 ds = rowsOk (ds.length : Nat) i (ds.drop i))
                    ⟨s5, _, _, _, _, rfl, rfl⟩ (fun _ _ H' _ p => SqL.same_ hs p.1) (fun i x σ H6 H7 hi p y => ?_) (fun σ H6 p => ?_)⟩
                  · obtain ⟨s6, y1, y2, y3, y4, rfl, hrec⟩ := p
                    obtain ⟨T, u, v, rfl, nT, rfl, e1, e2⟩ := y
                    obtain ⟨di, hdi, hdq0⟩ := hD.at_ e2
                    have hmi := List.mem_of_getElem? hdi
                    have e1' : u = .int (i : Nat) := (Option.some.inj e1).symm
                    subst e1'
                    have s7 := s6.trans (same_upd (o := .tup [.int (i : Nat), v]) nT)
                    obtain ⟨ai, zs, r, rfl, rfl, hsi0, hDi0⟩ := hdq0.lstE (isL_eq (rowsL di hmi).1)
                    have hli : zs.length = r.length := hDi0.length
                    have hGr := (hG1 _ hmi r rfl).1
                    rw [drop_at hdi] at hrec
                    have hrec' : rowsOk (ds.length : Nat) 0 ds = (r.all (standB ((i : Nat) : Int) (ds.length : Nat)) && rowsOk (ds.length : Nat) (i + 1) (ds.drop (i + 1))) := hrec
                    refine ⟨T, _, rfl, SqT.of upd_same, rfl, _, _, rfl, _, _, rfl, rfl, ?_⟩
                    refine ⟨_, rfl, ai, _, rfl, SqL.same_ hsi0 s7, for_it (walk_enum (xs := zs))
                      (fun j σ H' => Same H H' ∧ ∃ y3 y4, σ = [some (.ref c), some (.ref ai), some (.int ((i : Nat) : Int)), y3, y4] ∧ r.all (standB ((i : Nat) : Int) (ds.length : Nat)) = (r.drop j).all (standB ((i : Nat) : Int) (ds.length : Nat)))
                      ⟨s7, _, _, rfl, rfl⟩ (fun _ _ H' _ p => SqL.same_ hsi0 p.1) (fun j x σ H8 H9 hj p y => ?_) (fun σ H8 p => ?_)⟩
                    · obtain ⟨s8, y3, y4, rfl, hrj⟩ := p
                      obtain ⟨T2, u2, v2, rfl, nT2, rfl, f1, f2⟩ := y
                      obtain ⟨dj, hdj, hdqj⟩ := hDi0.at_ f2
                      have hmj := List.mem_of_getElem? hdj
                      have f1' : u2 = .int (j : Nat) := (Option.some.inj f1).symm
                      subst f1'
                      have s9 := s8.trans (same_upd (o := .tup [.int (j : Nat), v2]) nT2)
                      rw [drop_at hdj, List.all_cons] at hrj
                      refine ⟨T2, _, rfl, SqT.of upd_same, rfl, _, _, rfl, _, _, rfl, rfl, ?_⟩
                      refine ⟨_, rfl, _, rfl, _, rfl, c, _, rfl, .inl (SqL.same_ hs s9), v2, dj, _, _, rfl, hdqj.same s9, hGr dj hmj, fun HA sA => ⟨_, rfl, ?_⟩⟩
                      rw [hl]
                      cases hst : standB ((i : Nat) : Int) (ds.length : Nat) dj with
                      | false =>
                        refine iteT ⟨_, rfl, _, rfl, (by show 2 ≤ sizeLine; decide), fun p np => q _ _ ((s9.trans sA).trans (same_upd np)) (.inr ⟨?_, int2 upd_same⟩)⟩
                        rw [hrec', hrj, hst]; rfl
                      | true =>
                        rw [hst, Bool.true_and] at hrj
                        exact iteF ⟨s9.trans sA, _, _, rfl, hrj⟩
                    · obtain ⟨s8, y3, y4, rfl, hrj⟩ := p
                      rw [List.drop_of_length_le (by omega)] at hrj
                      refine ⟨s8, _, _, _, _, rfl, ?_⟩
                      rw [hrec', hrj]; rfl
                  · obtain ⟨s6, y1, y2, y3, y4, rfl, hrec⟩ := p
                    refine q _ _ s6 (.inl ⟨?_, rfl⟩)
                    rw [hrec, List.drop_of_length_le (by omega)]; rfl
        · exact ⟨false, congrArg V.bl (decide_eq_false (by omega)), iteT ⟨(by show 2 ≤ sizeLine; decide), fun p np => q _ _ (same_upd np) (.inr ⟨nlen fun z => h6 z.2, none2 upd_same⟩)⟩⟩
      · exact ⟨false, congrArg V.bl (decide_eq_false (by omega)), iteF ⟨_, rfl, iteT ⟨(by show 2 ≤ sizeLine; decide), fun p np => q _ _ (same_upd np) (.inr ⟨nlen fun z => h1 z.1, none2 upd_same⟩)⟩⟩⟩
    · refine ⟨_, rfl, _, _, _, _, false, rfl, .ty "list", hd.ty, kit_ty (kit_lstF hk), _, rfl, iteT ⟨(by show 2 ≤ sizeLine; decide), fun p np => q _ _ (same_upd np) (.inr ⟨?_, none2 upd_same⟩)⟩⟩
      cases d with
      | list ds => exact absurd rfl hk
      | _ => rfl
end
end K01

set_option Elab.async false
set_option linter.all false
set_option maxRecDepth 100000
set_option maxHeartbeats 8000000
namespace K01
open PySem PySem.Spec PyProof.Rows L2 Gd Rm La
/-! ### what the law makes up -/
/-- what may stand as an action -/
structure AG (d : PyData) : Prop where
  f : Fit 20000 3 d
  sz : szB d = true
  pl : oneD d
theorem AG.act {d : PyData} (h : AG d) : actG d := ⟨h.sz, fun k => (h.pl (.inr k)).sh⟩
/-- what may be judged -/
structure VG (d : PyData) : Prop where
  f : Fit 3000000 7 d
  l : layG d
  t : tabG d
/-- plain data of a size -/
def GN (K : PySem.W.Frag) (H : Hp) (L n : Nat) (v : V) : Prop := ∃ d, Dq K H v d ∧ Fit L n d ∧ szB d = true ∧ PyData.canLay0 d = true ∧ lenOf d ≤ 400
def GI (K : PySem.W.Frag) (H : Hp) (v : V) : Prop := ∃ d, Dq K H v d ∧ AG d
def GV (K : PySem.W.Frag) (H : Hp) (v : V) : Prop := ∃ d, Dq K H v d ∧ VG d
def GNs (K : PySem.W.Frag) (H : Hp) (L n : Nat) (vs : List V) : Prop := ∀ v ∈ vs, GN K H L n v
def GIs (K : PySem.W.Frag) (H : Hp) (vs : List V) : Prop := ∀ v ∈ vs, GI K H v
def GVs (K : PySem.W.Frag) (H : Hp) (vs : List V) : Prop := ∀ v ∈ vs, GV K H v
section
variable {K : PySem.W.Frag} {H H' : Hp} {L n L' n' : Nat} {v : V} {vs ws : List V}
theorem GN.same (g : GN K H L n v) (s : Same H H') : GN K H' L n v := by
  obtain ⟨d, a, b⟩ := g
  exact ⟨d, a.same s, b⟩
theorem GI.same (g : GI K H v) (s : Same H H') : GI K H' v := by
  obtain ⟨d, a, b⟩ := g
  exact ⟨d, a.same s, b⟩
theorem GV.same (g : GV K H v) (s : Same H H') : GV K H' v := by
  obtain ⟨d, a, b⟩ := g
  exact ⟨d, a.same s, b⟩
theorem GNs.same (g : GNs K H L n vs) (s : Same H H') : GNs K H' L n vs := fun v h => (g v h).same s
theorem GIs.same (g : GIs K H vs) (s : Same H H') : GIs K H' vs := fun v h => (g v h).same s
theorem GVs.same (g : GVs K H vs) (s : Same H H') : GVs K H' vs := fun v h => (g v h).same s
theorem GNs.nil : GNs K H L n [] := fun v h => by simp at h
theorem GIs.nil : GIs K H [] := fun v h => by simp at h
theorem GVs.nil : GVs K H [] := fun v h => by simp at h
theorem GNs.cons (a : GN K H L n v) (b : GNs K H L n vs) : GNs K H L n (v :: vs) := fun x h => by
  rcases List.mem_cons.mp h with rfl | h
  · exact a
  · exact b x h
theorem GIs.cons (a : GI K H v) (b : GIs K H vs) : GIs K H (v :: vs) := fun x h => by
  rcases List.mem_cons.mp h with rfl | h
  · exact a
  · exact b x h
theorem GVs.cons (a : GV K H v) (b : GVs K H vs) : GVs K H (v :: vs) := fun x h => by
  rcases List.mem_cons.mp h with rfl | h
  · exact a
  · exact b x h
theorem GNs.app (a : GNs K H L n vs) (b : GNs K H L n ws) : GNs K H L n (vs ++ ws) := fun x h => (List.mem_append.mp h).elim (a x) (b x)
theorem GIs.app (a : GIs K H vs) (b : GIs K H ws) : GIs K H (vs ++ ws) := fun x h => (List.mem_append.mp h).elim (a x) (b x)
theorem GVs.app (a : GVs K H vs) (b : GVs K H ws) : GVs K H (vs ++ ws) := fun x h => (List.mem_append.mp h).elim (a x) (b x)
theorem GN.mono (g : GN K H L n v) (h : L ≤ L') (h' : n ≤ n') : GN K H L' n' v := by
  obtain ⟨d, a, b, c⟩ := g
  exact ⟨d, a, b.mono h h', c⟩
theorem GNs.mono (g : GNs K H L n vs) (h : L ≤ L') (h' : n ≤ n') : GNs K H L' n' vs := fun v hv => (g v hv).mono h h'
theorem GN.gi (g : GN K H L n v) (h : L ≤ 20000) (h' : n ≤ 3) : GI K H v := by
  obtain ⟨d, a, b, c, e, _⟩ := g
  exact ⟨d, a, b.mono h h', c, fun _ => ⟨e, by have := b.dp; omega, c⟩⟩
theorem GNs.gi (g : GNs K H L n vs) (h : L ≤ 20000) (h' : n ≤ 3) : GIs K H vs := fun v hv => (g v hv).gi h h'
theorem all_of {R : V → PyData → Prop} : ∀ {vs : List V}, (∀ v ∈ vs, ∃ d, Dq K H v d ∧ R v d) → ∃ ds, DqAll K H vs ds ∧ ds.length = vs.length ∧ ∀ d ∈ ds, ∃ v, R v d
  | [], _ => ⟨[], .nil, rfl, fun d h => by simp at h⟩
  | v :: vs, h => by
    obtain ⟨ds, a, b, c⟩ := all_of (vs := vs) fun x hx => h x (List.mem_cons_of_mem _ hx)
    obtain ⟨d, e, f⟩ := h v List.mem_cons_self
    refine ⟨d :: ds, .cons e a, congrArg (· + 1) b, fun x hx => ?_⟩
    rcases List.mem_cons.mp hx with rfl | hx
    · exact ⟨v, f⟩
    · exact c x hx
theorem layAll_of : ∀ {ds : List PyData}, (∀ d ∈ ds, PyData.canLay0 d = true) → PyData.canLayAll0 ds = true
  | [], _ => rfl
  | d :: ds, h => by
    show (PyData.canLay0 d && PyData.canLayAll0 ds) = true
    rw [h d List.mem_cons_self, layAll_of fun x hx => h x (List.mem_cons_of_mem _ hx)]; rfl
theorem gn_seq (g : GNs K H L n vs) : ∃ ds, DqAll K H vs ds ∧ ds.length = vs.length ∧ Fit (vs.length * (L + 2) + 3) (n + 1) (.list ds) ∧ Fit (vs.length * (L + 2) + 3) (n + 1) (.tuple ds) ∧ szAll ds = true ∧ PyData.canLayAll0 ds = true ∧ ∀ d ∈ ds, Fit L n d ∧ szB d = true ∧ PyData.canLay0 d = true ∧ lenOf d ≤ 400 := by
  obtain ⟨ds, a, b, c⟩ := all_of (R := fun _ d => Fit L n d ∧ szB d = true ∧ PyData.canLay0 d = true ∧ lenOf d ≤ 400) g
  have c' : ∀ d ∈ ds, Fit L n d ∧ szB d = true ∧ PyData.canLay0 d = true ∧ lenOf d ≤ 400 := fun d hd => by
    obtain ⟨_, x⟩ := c d hd; exact x
  refine ⟨ds, a, b, ?_, ?_, szAll_of fun d hd => (c' d hd).2.1, layAll_of fun d hd => (c' d hd).2.2.1, c'⟩
  · rw [← b]; exact fit_list fun d hd => (c' d hd).1
  · rw [← b]; exact fit_tup fun d hd => (c' d hd).1
theorem gn_tup {p : Addr} (hp : SqT K H p vs) (g : GNs K H L n vs) (hl : vs.length * (L + 2) + 3 ≤ L' := by decide) : GN K H L' (n + 1) (.ref p) := by
  obtain ⟨ds, a, b, c, d, e, f, _⟩ := gn_seq g
  exact ⟨.tuple ds, .tup hp a, d.mono hl (Nat.le_refl _), e, f, Nat.zero_le _⟩
theorem gn_lst {p : Addr} (hp : SqL K H p vs) (g : GNs K H L n vs) (hl : vs.length * (L + 2) + 3 ≤ L' := by decide) (h4 : vs.length ≤ 400 := by decide) : GN K H L' (n + 1) (.ref p) := by
  obtain ⟨ds, a, b, c, d, e, f, _⟩ := gn_seq g
  exact ⟨.list ds, .lst hp a, c.mono hl (Nat.le_refl _), e, f, by show ds.length ≤ 400; omega⟩
theorem gn_int {i : Int} (h : i.natAbs < 2 ^ 200) : GN K H 210 0 (.int i) := ⟨.int i, .int i, fit_int h, rfl, rfl, Nat.zero_le _⟩
theorem gn_bool (b : Bool) : GN K H 210 0 (.bl b) := ⟨.bool b, .bl b, fit_bool b, rfl, rfl, Nat.zero_le _⟩
theorem gn_none : GN K H 210 0 .non := ⟨.none, .non, fit_none, rfl, rfl, Nat.zero_le _⟩
theorem strOk_low {c : Str} (h : ∀ x ∈ c.cps.toList, x < 0x110000) : PyData.strOk c = true := by
  unfold PyData.strOk
  rw [← Array.all_toList, List.all_eq_true]
  exact fun x hx => decide_eq_true (h x hx)
theorem gn_str (c : Str) (h1 : c.length ≤ 20) (h2 : ∀ x ∈ c.cps.toList, x < 0x110000) : GN K H 210 0 (.str c) := by
  refine ⟨.str c, .str c, ⟨rfl, Nat.le_refl _, ?_⟩, decide_eq_true (by omega), strOk_low h2, Nat.zero_le _⟩
  have q := PySem.StrLaws.reprText_len c fun x hx => Nat.lt_of_lt_of_le (h2 x hx) (by decide)
  show (reprText c).length ≤ 210
  omega
theorem gn_s (s : String) (h : (Str.length (s : Str) ≤ 20 ∧ ∀ x ∈ (s : Str).cps.toList, x < 0x110000) := by decide +kernel) : GN K H 210 0 (.str (s : String)) := gn_str _ h.1 h.2
theorem signs_lt : ∀ x ∈ signs.cps.toList, x < 0x110000 := by decide +kernel
theorem code_lay {c : Str} (h : CodeOk c) : PyData.strOk c = true ∧ c.length ≤ 1000 := ⟨strOk_low fun x hx => signs_lt x (h.2.2 x hx), by have := h.2.1; have e : c.length = c.cps.size := rfl; omega⟩
theorem word_lay {c : Str} (h : c ∈ layWords ∨ c ∈ rules) : PyData.strOk c = true ∧ c.length ≤ 1000 := by
  unfold layWords rules at h
  simp only [List.mem_cons, List.mem_nil_iff, or_false] at h
  rcases h with (rfl | rfl | rfl) | (rfl | rfl | rfl) <;> decide +kernel
theorem act_lay {n i : Int} {x : Actn} (h : ActOk n i x) : szB (actD x) = true ∧ PyData.canLay0 (actD x) = true := by
  have c1 : PyData.strOk ("code" : String) = true := by decide +kernel
  have c2 : PyData.strOk ("dual" : String) = true := by decide +kernel
  have c3 : PyData.strOk ("layer" : String) = true := by decide +kernel
  cases x with
  | none => exact ⟨by decide +kernel, by decide +kernel⟩
  | thr => exact ⟨by decide +kernel, by decide +kernel⟩
  | code c =>
    have a := code_lay h
    refine ⟨?_, ?_⟩
    · show (decide (Str.length ("code" : String) ≤ 1000) && (decide (c.length ≤ 1000) && true)) = true
      rw [decide_eq_true a.2]; decide +kernel
    · show (PyData.strOk ("code" : String) && (PyData.strOk c && true)) = true
      rw [a.1, c1]; rfl
  | lay w j =>
    have a := word_lay (.inl h.1)
    refine ⟨?_, ?_⟩
    · show (decide (w.length ≤ 1000) && (true && true)) = true
      rw [decide_eq_true a.2]; rfl
    · show (PyData.strOk w && (true && true)) = true
      rw [a.1]; rfl
  | dualC c d t r =>
    obtain ⟨a, b, _, e⟩ := h
    have a := code_lay a
    have b := code_lay b
    have e := word_lay (.inr e)
    refine ⟨?_, ?_⟩
    · show (decide (Str.length ("dual" : String) ≤ 1000) && (decide (c.length ≤ 1000) && ((decide (Str.length ("code" : String) ≤ 1000) && (decide (d.length ≤ 1000) && true)) && (true && (decide (r.length ≤ 1000) && true))))) = true
      rw [decide_eq_true a.2, decide_eq_true b.2, decide_eq_true e.2]; decide +kernel
    · show (PyData.strOk ("dual" : String) && (PyData.strOk c && ((PyData.strOk ("code" : String) && (PyData.strOk d && true)) && (true && (PyData.strOk r && true))))) = true
      rw [a.1, b.1, c1, c2, e.1]; rfl
  | dualL c j t r =>
    obtain ⟨a, _, _, e⟩ := h
    have a := code_lay a
    have e := word_lay (.inr e)
    refine ⟨?_, ?_⟩
    · show (decide (Str.length ("dual" : String) ≤ 1000) && (decide (c.length ≤ 1000) && ((decide (Str.length ("layer" : String) ≤ 1000) && (true && true)) && (true && (decide (r.length ≤ 1000) && true))))) = true
      rw [decide_eq_true a.2, decide_eq_true e.2]; decide +kernel
    · show (PyData.strOk ("dual" : String) && (PyData.strOk c && ((PyData.strOk ("layer" : String) && (true && true)) && (true && (PyData.strOk r && true))))) = true
      rw [a.1, c2, c3, e.1]; rfl
theorem act_len (x : Actn) : lenOf (actD x) ≤ 400 := by cases x <;> exact Nat.zero_le _
theorem gn_act {m i : Int} {x : Actn} (hv : ActV H x v) (h : ActOk m i x) (hm : m ≤ 1000) : GN K H 3000 2 v :=
  ⟨actD x, Gd.Dp.q hv.dp, fit_act h hm, (act_lay h).1, (act_lay h).2, act_len x⟩
/-! ### tables of values -/
inductive RV (H : Hp) : List Addr → List (List V) → Prop
  | nil : RV H [] []
  | cons {r : Addr} {rs : List Addr} {vs : List V} {vss : List (List V)} : H r = some (.lst vs) → RV H rs vss → RV H (r :: rs) (vs :: vss)
theorem RV.same {rs : List Addr} {vss : List (List V)} (h : RV H rs vss) (s : ∀ r ∈ rs, ∀ o, H r = some o → H' r = some o) : RV H' rs vss := by
  induction h with
  | nil => exact .nil
  | cons a t ih => exact .cons (s _ List.mem_cons_self _ a) (ih fun r hr => s r (List.mem_cons_of_mem _ hr))
theorem RV.len {rs : List Addr} {vss : List (List V)} (h : RV H rs vss) : rs.length = vss.length := by
  induction h with
  | nil => rfl
  | cons a t ih => exact congrArg (· + 1) ih
theorem RV.at_ {rs : List Addr} {vss : List (List V)} (h : RV H rs vss) {i : Nat} {vs : List V} (e : vss[i]? = some vs) : ∃ r, rs[i]? = some r ∧ H r = some (.lst vs) := by
  induction h generalizing i with
  | nil => simp at e
  | cons a t ih =>
    cases i with
    | zero =>
      refine ⟨_, rfl, ?_⟩
      rw [show _ = vs from Option.some.inj e] at a
      exact a
    | succ i => exact ih (i := i) e
theorem RV.at2 {rs : List Addr} {vss : List (List V)} (h : RV H rs vss) {i : Nat} {r : Addr} (e : rs[i]? = some r) : ∃ vs, vss[i]? = some vs ∧ H r = some (.lst vs) := by
  induction h generalizing i with
  | nil => simp at e
  | cons a t ih =>
    cases i with
    | zero =>
      refine ⟨_, rfl, ?_⟩
      rw [show r = _ from (Option.some.inj e).symm]
      exact a
    | succ i => exact ih (i := i) e
theorem RV.snoc {rs : List Addr} {vss : List (List V)} {r : Addr} {vs : List V} (h : RV H rs vss) (a : H r = some (.lst vs)) : RV H (rs ++ [r]) (vss ++ [vs]) := by
  induction h with
  | nil => exact .cons a .nil
  | cons b t ih => exact .cons b ih
theorem RV.set {rs : List Addr} {vss : List (List V)} {i : Nat} {r : Addr} {ws : List V} (h : RV H rs vss) (nd : rs.Nodup) (e : rs[i]? = some r) : RV (upd H r (.lst ws)) rs (vss.set i ws) := by
  induction h generalizing i with
  | nil => simp at e
  | cons a t ih =>
    obtain ⟨n1, n2⟩ := List.nodup_cons.mp nd
    cases i with
    | zero =>
      rw [show r = _ from (Option.some.inj e).symm]
      refine .cons upd_same (t.same fun x hx o ho => ?_)
      rw [upd_ne (fun z => n1 (by rw [← z]; exact hx))]; exact ho
    | succ i =>
      have e' : _ = some r := e
      refine .cons ?_ (ih n2 (i := i) e)
      rw [upd_ne (fun z => n1 (by rw [z]; exact List.mem_of_getElem? (i := i) e))]; exact a
theorem gv_rows {m : Nat} {rs : List Addr} {vss : List (List V)} (h : RV H rs vss) (g : ∀ vs ∈ vss, vs.length = m ∧ GIs K H vs) (hm : m ≤ 16) : ∃ ds, DqAll K H (rs.map V.ref) ds ∧ ds.length = vss.length ∧ ∀ d ∈ ds, Fit 400000 4 d ∧ ∃ r, d = .list r ∧ r.length = m ∧ ∀ x ∈ r, AG x := by
  induction h with
  | nil => exact ⟨[], .nil, rfl, fun d h => by simp at h⟩
  | @cons r rs vs vss a t ih =>
    obtain ⟨ds, b, c, d⟩ := ih fun vs hv => g vs (List.mem_cons_of_mem _ hv)
    obtain ⟨e1, e2⟩ := g vs List.mem_cons_self
    obtain ⟨es, x1, x2, x3⟩ := all_of (R := fun _ d => AG d) e2
    have x3' : ∀ d ∈ es, AG d := fun d hd => by
      obtain ⟨_, z⟩ := x3 d hd; exact z
    refine ⟨.list es :: ds, .cons (.lst (SqL.of a) x1) b, congrArg (· + 1) c, fun y hy => ?_⟩
    rcases List.mem_cons.mp hy with rfl | hy
    · exact ⟨(fit_list (L := 20000) (n := 3) fun d hd => (x3' d hd).f).mono (by omega) (Nat.le_refl _), es, rfl, by omega, x3'⟩
    · exact d y hy
/-- a table of a layout's form may be judged -/
theorem gv_table {m : Nat} {p : Addr} {rs : List Addr} {vss : List (List V)} (hp : H p = some (.lst (rs.map V.ref))) (h : RV H rs vss) (g : ∀ vs ∈ vss, vs.length = m ∧ GIs K H vs) (m1 : 1 ≤ m) (hm : m ≤ 16) (n1 : 1 ≤ vss.length) (n6 : vss.length ≤ 6) : GV K H (.ref p) := by
  obtain ⟨ds, a, b, c⟩ := gv_rows h g hm
  have len : ∀ r ∈ ds, lenOf r = m := fun r hr => by
    obtain ⟨_, x, rfl, e, _⟩ := c r hr
    exact e
  have e0 : lenOf (ds.getD 0 .none) = m := by
    rw [List.getD_eq_getElem?_getD, List.getElem?_eq_getElem (show 0 < ds.length by omega)]
    exact len _ (List.getElem_mem _)
  refine ⟨.list ds, .lst (SqL.of hp) a, (fit_list (L := 400000) (n := 4) fun d hd => (c d hd).1).mono (by omega) (by decide), ⟨fun r hr => ?_, fun r hr => by rw [len r hr]; omega⟩, fun r hr ds' e => ?_, .inl ?_⟩
  · obtain ⟨_, x, rfl, _, e⟩ := c r hr
    exact fun d hd => (e d hd).act
  · obtain ⟨_, x, e1, e2, e3⟩ := c r hr
    rw [e] at e1
    cases e1
    exact ⟨fun d hd => (e3 d hd).pl, by omega⟩
  · show (decide (1 ≤ ds.length ∧ ds.length ≤ 6) && (ds.all isL && (decide (1 ≤ lenOf (ds.getD 0 .none) ∧ lenOf (ds.getD 0 .none) ≤ 16) && ds.all fun r => decide (lenOf r = lenOf (ds.getD 0 .none))))) = true
    rw [e0, decide_eq_true (by omega), decide_eq_true ⟨m1, hm⟩, List.all_eq_true.mpr fun r hr => decide_eq_true (len r hr), List.all_eq_true.mpr fun r hr => by
      obtain ⟨_, x, rfl, _⟩ := c r hr
      rfl]
    rfl
theorem gv_else {d : PyData} (h : Dq K H v d) (f : Fit 3000000 7 d) (k : kindS d ≠ "list") : GV K H v := by
  refine ⟨d, h, f, ?_, ?_⟩
  · cases d with
    | list ds => exact absurd rfl k
    | _ => trivial
  · cases d with
    | list ds => exact absurd rfl k
    | _ => trivial
/-- a list of plain things may be judged -/
theorem gv_list {p : Addr} (hp : SqL K H p vs) (g : GNs K H 400000 6 vs) (hl : vs.length ≤ 7) : GV K H (.ref p) := by
  obtain ⟨ds, a, b, c, d, e, f, h⟩ := gn_seq g
  have pl : ∀ r ∈ ds, PL r := fun r hr => ⟨(h r hr).2.2.1, by have := (h r hr).1.dp; omega, (h r hr).2.1⟩
  refine ⟨.list ds, .lst hp a, c.mono (by omega) (by decide), ⟨fun r hr => ?_, fun r hr => (h r hr).2.2.2⟩, fun r hr ds' e => ?_, .inr pl⟩
  · cases r with
    | list es =>
      have pe := (pl _ hr).lmem
      exact fun d hd => ⟨(pe d hd).sz, fun _ => (pe d hd).sh⟩
    | _ => trivial
  · subst e
    exact ⟨fun d hd _ => (pl _ hr).lmem d hd, (h _ hr).2.2.2⟩
end
theorem told_eq {K : PySem.W.Frag} {H : Hp} {r : V} {b : Bool} (h : Told K H r b) : ∃ dr, Dp K H r dr ∧ SeqAt.shaped dr = true ∧ PyData.eqv dr (.str ("fine" : String)) = b := by
  rcases h with ⟨e, rfl⟩ | ⟨e, dr, a, b, c⟩
  · exact ⟨.str ("fine" : String), .str _, by decide +kernel, by rw [e]; decide +kernel⟩
  · exact ⟨dr, a, b, by rw [e]; exact c⟩
theorem fineS : SeqAt.shaped (.str ("fine" : String)) = true := by decide +kernel
theorem fit_bools (a b : Bool) : Fit 1000 1 (.list [.bool a, .bool b]) := (fit_list (L := 210) (n := 0) fun d hd => by
  simp only [List.mem_cons, List.mem_nil_iff, or_false] at hd
  rcases hd with rfl | rfl <;> exact fit_bool _).mono (by show 2 * 212 + 3 ≤ 1000; decide) (Nat.le_refl _)
theorem eqVt (x : V) : V.bl (decide (x = x)) = V.bl true := by simp
section
variable {P : Program} {w : World} {K : PySem.W.Frag} {mg : Str → Option Value} {base : Heap}
def spTold (K : PySem.W.Frag) : Sp := fun vs H Q _ => ∃ v, vs = [v] ∧ GV K H v ∧ ∀ H', Same H H' → Q (.bl true) H'
theorem ok__law_told_right (bt : Bt mg) (hsm : SysAt base) (a : At K mg "_law_told_right" s__law_told_right ["_law_value"]) (c__law_fault : Cl P w K mg base 4 "_law_fault" (spFault K)) (c_is_layout : Cl P w K mg base 8 "is_layout" (spIsL K)) : Cl P w K mg base 9 "_law_told_right" (spTold K) := by
  refine clG a sc__law_told_right (fun vs H Q E h => ?_) (fun f cdv A outer s H vs Q hg hr h => ?_)
  · obtain ⟨v, rfl, _⟩ := h
    rfl
  · obtain ⟨v, rfl, ⟨d, hd, hV⟩, q⟩ := h
    refine ⟨_, (pss_cons (ps_par (i := 1) (j := 2) rfl sc__law_told_right.nd rfl rfl (by decide) rfl rfl (pa_cons (pe_callB (call_repQ hsm hg hr) (by rfl) bt.m_repr (by decide +kernel) (pa_cons (pv 0) pa_nil)) (pa_cons (pe_cmpR (op_eqD hr.units) (pe_cl c__law_fault hg hr (by decide) (by rfl) (pa_cons (pv 0) pa_nil)) pe_str (nomark _)) pa_nil)) (by rfl))
      (pss_one (ps_ret (pe_and (pe_cmpR op_eq (pe_callB (call_repQ hsm hg hr) (by rfl) bt.m_repr (by decide +kernel) (pa_cons (pe_lst (pa_cons (pe_cl c_is_layout hg hr (by decide) (by rfl) (pa_cons (pv 0) pa_nil)) (pa_cons (pe_cl c_is_layout hg hr (by decide) (by rfl) (pa_cons (pv 0) pa_nil)) pa_nil))) pa_nil)) (pe_callB (call_repQ hsm hg hr) (by rfl) bt.m_repr (by decide +kernel) (pa_cons (pe_lst (pa_cons (pv 2) (pa_cons (pv 2) pa_nil))) pa_nil)) (nomark _)) (pe_one (pe_cmpR op_eq (pe_callB (call_repQ hsm hg hr) (by rfl) bt.m_repr (by decide +kernel) (pa_cons (pv 0) pa_nil)) (pv 1) (nomark _))))))), ?_⟩
    have dp := hV.f.dp
    have ln : d.shown.length ≤ sizeLine := by have := hV.f.ln; rw [sizeLine_eq]; omega
    refine ⟨_, rfl, v, d, rfl, hd, hV.f.sh, by omega, ln, ?_⟩
    refine ⟨_, rfl, v, d, rfl, hd, hV.t, fun H1 r1 s1 t1 => ?_⟩
    obtain ⟨dr1, p1, sh1, e1⟩ := told_eq (K := K) (H := H1) t1
    refine ⟨dr1, .str ("fine" : String), p1, .str _, sh1, fineS, ?_⟩
    rw [e1]
    refine ⟨_, _, rfl, ?_⟩
    refine ⟨_, rfl, v, d, rfl, hd.same s1, hV.l, fun H2 s2 => ⟨_, rfl, v, d, rfl, hd.same (s1.trans s2), hV.l, fun H3 s3 => ⟨(by show 2 ≤ sizeLine; decide), fun p np => ?_⟩⟩⟩
    have sp := same_upd (o := .lst [.bl (layB d), .bl (layB d)]) np
    have hp := upd_same (H := H3) (a := p) (o := .lst [.bl (layB d), .bl (layB d)])
    refine (fun (G : ∀ H4 : Hp, Same H3 H4 → H4 p = some (.lst [.bl (layB d), .bl (layB d)]) → _) => G _ sp hp) (fun H4 sp hp => ?_)
    have fb := fit_bools (layB d) (layB d)
    have fln : (PyData.list [.bool (layB d), .bool (layB d)]).shown.length ≤ sizeLine := by have := fb.ln; rw [sizeLine_eq]; omega
    have fdp : (PyData.list [.bool (layB d), .bool (layB d)]).depth ≤ 50 := by have := fb.dp; omega
    refine ⟨.ref p, .list [.bool (layB d), .bool (layB d)], rfl, .lst (SqL.of hp) (.cons (.bl _) (.cons (.bl _) .nil)), fb.sh, fdp, fln, ?_⟩
    refine ⟨_, rfl, _, rfl, (by show 2 ≤ sizeLine; decide), fun u nu => ?_⟩
    have su := same_upd (o := .lst [.bl (layB d), .bl (layB d)]) nu
    have hu := upd_same (H := H4) (a := u) (o := .lst [.bl (layB d), .bl (layB d)])
    refine (fun (G : ∀ H5 : Hp, Same H4 H5 → H5 u = some (.lst [.bl (layB d), .bl (layB d)]) → _) => G _ su hu) (fun H5 su hu => ?_)
    have s15 := (((s1.trans s2).trans s3).trans sp).trans su
    refine ⟨.ref u, .list [.bool (layB d), .bool (layB d)], rfl, .lst (SqL.of hu) (.cons (.bl _) (.cons (.bl _) .nil)), fb.sh, fdp, fln, ?_⟩
    refine ⟨rfl, true, eqVt _, iteT ?_⟩
    refine ⟨_, rfl, v, d, rfl, hd.same s15, hV.f.sh, by omega, ln, _, rfl, rfl, ?_⟩
    have q' := q _ s15
    rw [← eqVt (V.str d.shown)] at q'
    exact q'
end
end K01

set_option Elab.async false
set_option linter.all false
set_option maxRecDepth 100000
set_option maxHeartbeats 8000000
namespace K01
open PySem PySem.Spec PyProof.Rows L2 Gd Rm La
/-- a layout of plain actions -/
structure Tb (K : PySem.W.Frag) (H : Hp) (c : Addr) (rs : List Addr) (vss : List (List V)) (m : Nat) : Prop where
  at_ : H c = some (.lst (rs.map V.ref))
  rv : RV H rs vss
  g : ∀ vs ∈ vss, vs.length = m ∧ GNs K H 3000 2 vs
  n1 : 1 ≤ vss.length
  n6 : vss.length ≤ 6
  m1 : 1 ≤ m
  m16 : m ≤ 16
section
variable {P : Program} {w : World} {K : PySem.W.Frag} {mg : Str → Option Value} {base : Heap}
theorem Tb.same {H H' : Hp} {c : Addr} {rs : List Addr} {vss : List (List V)} {m : Nat} (t : Tb K H c rs vss m) (s : Same H H') : Tb K H' c rs vss m :=
  ⟨s _ _ t.at_, t.rv.same fun r _ o h => s r o h, fun vs h => ⟨(t.g vs h).1, (t.g vs h).2.same s⟩, t.n1, t.n6, t.m1, t.m16⟩
theorem tb_of {H : Hp} {c : Addr} {rs : List Addr} {L : List (List Actn)} {m : Nat} (hc : H c = some (.lst (rs.map V.ref))) (hR0 : Rows H rs L) (ok : LayOk L m) : ∃ vss, Tb K H c rs vss m ∧ vss.length = L.length := by
  have main : ∀ (L' : List (List Actn)) (rs : List Addr), Rows H rs L' → (∀ row ∈ L', row.length = m ∧ ∃ i : Int, ∀ x ∈ row, ActOk L.length i x) → ∃ vss, RV H rs vss ∧ vss.length = L'.length ∧ ∀ vs ∈ vss, vs.length = m ∧ GNs K H 3000 2 vs := by
    intro L'
    induction L' with
    | nil =>
      intro rs hr _
      have : rs = [] := List.length_eq_zero_iff.mp hr.1
      subst this
      exact ⟨[], .nil, rfl, fun vs h => by simp at h⟩
    | cons row L' ih =>
      intro rs hr hg
      cases rs with
      | nil => have := hr.1; simp at this
      | cons r rs =>
        obtain ⟨vss, a, b, c⟩ := ih rs ⟨by have := hr.1; simpa using this, fun i u y a b => hr.2 (i + 1) u y (by simpa using a) (by simpa using b)⟩ fun row hr => hg row (List.mem_cons_of_mem _ hr)
        obtain ⟨vs, e1, e2⟩ := hr.2 0 r row rfl rfl
        obtain ⟨e3, i, e4⟩ := hg row List.mem_cons_self
        refine ⟨vs :: vss, .cons e1 a, congrArg (· + 1) b, fun ws hw => ?_⟩
        rcases List.mem_cons.mp hw with rfl | hw
        · refine ⟨by rw [e2.1]; exact e3, fun v hv => ?_⟩
          obtain ⟨k, hk⟩ := List.getElem?_of_mem hv
          have hk' : k < row.length := by have := (List.getElem?_eq_some_iff.mp hk).1; have := e2.1; omega
          exact gn_act (e2.2 k v row[k] hk (List.getElem?_eq_getElem hk')) (e4 _ (List.getElem_mem hk')) (by have := ok.n6; omega)
        · exact c ws hw
  obtain ⟨vss, a, b, c⟩ := main L rs hR0 fun row hr => ⟨ok.len row hr, by
    obtain ⟨i, hi⟩ := List.getElem?_of_mem hr
    exact ⟨(i : Int), ok.ok i row hi⟩⟩
  exact ⟨vss, ⟨hc, a, c, by have := ok.n1; omega, by have := ok.n6; omega, ok.m1, ok.m16⟩, b⟩
def spLW (K : PySem.W.Frag) : Sp := fun vs H Q _ => ∃ (c : Addr) (rs : List Addr) (vss : List (List V)) (m i j : Nat) (v : V), vs = [.ref c, .int (i : Int), .int (j : Int), v] ∧ Tb K H c rs vss m ∧ i < vss.length ∧ j < m ∧ GI K H v ∧
  ∀ (H' : Hp) (p : Addr), Same H H' → GV K H' (.ref p) → Q (.ref p) H'
theorem ok__law_with (bt : Bt mg) (a : At K mg "_law_with" s__law_with ["_law_layout_here", "_law_layer", "_law_key", "_law_action_here"]) : Cl P w K mg base 1 "_law_with" (spLW K) := by
  refine clG a sc__law_with (fun vs H Q E h => ?_) (fun f cdv A outer s H vs Q hg hr h => ?_)
  · obtain ⟨c, rs, vss, m, i, j, v, rfl, _⟩ := h
    rfl
  · obtain ⟨c, rs, vss, m, i, j, v, rfl, T, hi, hj, hv, q⟩ := h
    refine ⟨_, (pss_cons (ps_setLc (i := 5) (own := [("_law_row", 4)]) (g := (gName 4)) (by rfl) sc__law_with.nd rfl rfl (sw_true rfl rfl rfl (by decide +kernel)) (pi_list (pv 0)) (blkOk_by (N := n__law_with) (sc := defScope s__law_with) (by decide +kernel)) (fun _ _ _ _ _ => (pg_name (i := 4) sc__law_with.nd rfl (Or.inl rfl))) (fun _ _ _ _ _ => pts_nil) (fun _ _ _ _ _ => (pe_callTy (r := rListOf K) call_list_of (by rfl) bt.m_list (by decide +kernel) (pa_cons (pv 4) pa_nil))))
      (pss_cons (ps_set (i := 4) sc__law_with.nd rfl (Or.inl rfl) (pe_ix ix_list (pv 5) (pv 1) (fun _ _ => rfl)))
      (pss_cons (ps_asg (pv 3) (pg_sub (pv 4) (pv 2) set_list))
      (pss_one (ps_ret (pv 5)))))), ?_⟩
    have hc := T.at_
    have n6 := T.n6
    have hlen : (rs.map V.ref).length = vss.length := by rw [List.length_map]; exact T.rv.len
    refine ⟨_, rfl, c, rfl, ⟨_, SqL.of hc⟩, fun D nD => lc_it (walk_list (xs := rs.map V.ref)) (fun k H' => Same H H' ∧ ∃ qs : List Addr, H' D = some (.lst (qs.map V.ref)) ∧ RV H' qs (vss.take k) ∧ qs.Nodup ∧ ∀ r ∈ qs, H r = none ∧ r ≠ D) ⟨same_upd nD, [], upd_same, .nil, List.nodup_nil, fun r h => by simp at h⟩ (fun k H' _ p => SqL.of (p.1 _ _ hc)) (fun k x' H3 H4 hk p y => ?_) (fun H3 p => ?_)⟩
    · obtain ⟨s3, qs, hD, hq, nd, hn⟩ := p
      obtain ⟨rfl, ex⟩ := y
      have hk' : k < vss.length := by omega
      obtain ⟨r, hr1, hrv⟩ := T.rv.at_ (List.getElem?_eq_getElem hk')
      have ex' : x' = .ref r := Option.some.inj (ex.symm.trans (get_map_ref hr1))
      subst ex'
      refine ⟨rfl, ⟨_, rfl, r, _, rfl, .inl (SqL.of (s3 _ _ hrv)), fun p' np => ?_⟩⟩
      have sp := same_upd (o := .lst vss[k]) np
      have ql := hq.len
      rw [List.length_take] at ql
      have Dp : D ≠ p' := ne_of_none hD np
      refine ⟨_, sp _ _ hD, by rw [List.length_map]; exact small1000 (by omega), Same.off (s3.trans sp) nD off_upd, qs ++ [p'], by rw [upd_same, List.map_append]; rfl, ?_, ?_, fun r hr => ?_⟩
      · rw [List.take_add_one, List.getElem?_eq_getElem hk']
        refine RV.snoc (hq.same fun r hr o ho => ?_) ?_
        · rw [upd_ne (hn r hr).2]; exact sp _ _ ho
        · rw [upd_ne Dp.symm]; exact upd_same
      · refine List.nodup_append.mpr ⟨nd, List.nodup_cons.mpr ⟨by simp, List.nodup_nil⟩, fun a ha' b hb e => ?_⟩
        have hb : b = p' := List.mem_singleton.mp hb
        subst hb
        subst e
        obtain ⟨i, hi⟩ := List.getElem?_of_mem ha'
        obtain ⟨ws, _, hw⟩ := hq.at2 hi
        rw [np] at hw
        cases hw
      · rcases List.mem_append.mp hr with z | z
        · exact hn r z
        · rw [List.mem_singleton.mp z]; exact ⟨sfree s3 np, Dp.symm⟩
    · obtain ⟨s3, qs, hD, hq, nd, hn⟩ := p
      rw [hlen, List.take_length] at hq
      obtain ⟨r, hr1, hrv⟩ := hq.at_ (List.getElem?_eq_getElem hi)
      have hm : vss[i].length = m := (T.g _ (List.getElem_mem hi)).1
      have hix : ixN vss[i].length (j : Int) = some j := by
        unfold ixN
        rw [if_pos (by omega), if_pos (by omega)]
        rfl
      have nr := hn r (List.mem_of_getElem? hr1)
      refine ⟨_, rfl, _, rfl, D, _, (i : Int), .ref r, rfl, rfl, SqL.of hD, atI_nat (j := i) (get_map_ref hr1), v, rfl, _, rfl, _, rfl, r, _, j, j, rfl, rfl, hrv, hix, ?_⟩
      have s5 : Same H (upd H3 r (.lst (vss[i].set j v))) := Same.off s3 nr.1 off_upd
      refine ⟨_, rfl, q _ D s5 (gv_table (m := m) (vss := vss.set i (vss[i].set j v)) (rs := qs) (by rw [upd_ne nr.2.symm]; exact hD) (hq.set nd hr1) (fun vs hvs => ?_) T.m1 T.m16 (by rw [List.length_set]; exact T.n1) (by rw [List.length_set]; exact T.n6))⟩
      rcases List.mem_or_eq_of_mem_set hvs with z | z
      · exact ⟨(T.g vs z).1, ((T.g vs z).2.same s5).gi (by decide) (by decide)⟩
      · rw [z, List.length_set]
        refine ⟨hm, fun u hu => ?_⟩
        rcases List.mem_or_eq_of_mem_set hu with y | y
        · exact ((T.g _ (List.getElem_mem hi)).2 u y).gi (by decide) (by decide) |>.same s5
        · rw [y]; exact hv.same s5
end
end K01

set_option Elab.async false
set_option linter.all false
set_option maxRecDepth 100000
set_option maxHeartbeats 8000000
namespace K01
open PySem PySem.Spec PyProof.Rows L2 Gd Rm La
section
variable {P : Program} {w : World} {K : PySem.W.Frag} {mg : Str → Option Value} {base : Heap}
theorem dict0 {K : PySem.W.Frag} {H : Hp} {p : Addr} (hp : H p = some (.dK [])) : Dq K H (.ref p) (.dict (([] : List PyData).zip [])) := .dct (ks := []) (vs := []) hp .nil .nil
theorem ag_d0 : AG (.dict (([] : List PyData).zip [])) := ⟨⟨by decide +kernel, by decide +kernel, by decide +kernel⟩, rfl, fun h => by rcases h with h | h <;> exact absurd h (by decide +kernel)⟩
def spOdd (K : PySem.W.Frag) : Sp := fun vs H Q _ => ∃ n : Int, vs = [.int n] ∧ n.natAbs ≤ 100 ∧ ∀ H' p xs, Same H H' → H' p = some (.lst xs) → GIs K H' xs → xs.length = 119 → Q (.ref p) H'
theorem ok__law_odd_actions (bt : Bt mg) (a : At K mg "_law_odd_actions" s__law_odd_actions ["_law_layers"]) : Cl P w K mg base 1 "_law_odd_actions" (spOdd K) := by
  refine clG a sc__law_odd_actions (fun vs H Q E h => ?_) (fun f cdv A outer s H vs Q hg hr h => ?_)
  · obtain ⟨n, rfl, _⟩ := h
    rfl
  · obtain ⟨n, rfl, hn, q⟩ := h
    refine ⟨_, (pss_cons (ps_set (i := 1) sc__law_odd_actions.nd rfl (Or.inl rfl) (pe_lst (pa_cons pe_non (pa_cons pe_int (pa_cons pe_bl (pa_cons pe_str (pa_cons pe_str (pa_cons pe_str (pa_cons pe_str (pa_cons pe_str (pa_cons pe_str (pa_cons (pe_tup pa_nil) (pa_cons (pe_tup (pa_cons pe_str pa_nil)) (pa_cons (pe_tup (pa_cons pe_str pa_nil)) (pa_cons (pe_tup (pa_cons pe_str pa_nil)) pa_nil)))))))))))))))
      (pss_cons (ps_for PassesOwn.never rfl (pi_list (pe_lst (pa_cons pe_str (pa_cons pe_str (pa_cons pe_str (pa_cons pe_str (pa_cons pe_str (pa_cons pe_str (pa_cons pe_str (pa_cons pe_non (pa_cons pe_int (pa_cons pe_str (pa_cons (pe_tup (pa_cons pe_str pa_nil)) (pa_cons (pe_lst (pa_cons pe_str pa_nil)) (pa_cons pe_str pa_nil))))))))))))))) (pg_name (i := 2) sc__law_odd_actions.nd rfl (Or.inl rfl)) (pss_one (ps_expr (pe_bm PySem.F.plainAttrs_list PySem.F.slot_list_append PySem.F.type_list_append mt_append (pv 1) (pa_cons (pe_tup (pa_cons pe_str (pa_cons (pv 2) pa_nil))) pa_nil)))))
      (pss_cons (ps_set (i := 1) sc__law_odd_actions.nd rfl (Or.inl rfl) (pe_op op_cat (pv 1) (pe_lst (pa_cons (pe_lst (pa_cons pe_str (pa_cons pe_str pa_nil))) (pa_cons (pe_tup (pa_cons pe_str (pa_cons pe_str (pa_cons pe_str pa_nil)))) (pa_cons (pe_tup (pa_cons pe_str (pa_cons pe_str pa_nil))) (pa_cons (pe_tup (pa_cons pe_str (pa_cons pe_int pa_nil))) (pa_cons (pe_tup (pa_cons pe_str (pa_cons pe_str pa_nil))) (pa_cons (pe_tup (pa_cons pe_str (pa_cons pe_non pa_nil))) pa_nil)))))))))
      (pss_cons (ps_for PassesOwn.never rfl (pi_list (pe_lst (pa_cons pe_str (pa_cons pe_str (pa_cons pe_str (pa_cons pe_str (pa_cons pe_non (pa_cons (pe_lst (pa_cons pe_str pa_nil)) pa_nil)))))))) (pg_name (i := 3) sc__law_odd_actions.nd rfl (Or.inr rfl)) (pss_one (ps_set (i := 1) sc__law_odd_actions.nd rfl (Or.inl rfl) (pe_op op_cat (pv 1) (pe_lc (own := [("_law_one", 2)]) (g := (gName 2)) (by rfl) sc__law_odd_actions.nd (pi_list (pe_lst (pa_cons pe_int (pa_cons pe_int (pa_cons (pe_op op_sub (pv 0) pe_int) (pa_cons (pv 0) (pa_cons (pe_un un_neg pe_int) (pa_cons pe_bl (pa_cons (pe_op op_powW pe_int pe_int) pa_nil))))))))) (blkOk_by (N := n__law_odd_actions) (sc := defScope s__law_odd_actions) (by decide +kernel)) (fun _ _ _ _ _ => (pg_name (i := 2) sc__law_odd_actions.nd rfl (Or.inl rfl))) (fun _ _ _ _ _ => pts_nil) (fun _ _ _ _ _ => (pe_tup (pa_cons (pv 3) (pa_cons (pv 2) pa_nil)))))))))
      (pss_cons (ps_set (i := 4) sc__law_odd_actions.nd rfl (Or.inl rfl) (pe_lst (pa_cons (pe_tup (pa_cons pe_str (pa_cons pe_str pa_nil))) (pa_cons (pe_tup (pa_cons pe_str (pa_cons (pe_op op_sub (pv 0) pe_int) pa_nil))) (pa_cons (pe_tup (pa_cons pe_str (pa_cons (pv 0) pa_nil))) (pa_cons (pe_tup (pa_cons pe_str (pa_cons pe_int pa_nil))) (pa_cons (pe_tup (pa_cons pe_str (pa_cons pe_int pa_nil))) (pa_cons pe_str (pa_cons pe_str pa_nil)))))))))
      (pss_cons (ps_set (i := 4) sc__law_odd_actions.nd rfl (Or.inl rfl) (pe_op op_cat (pv 4) (pe_lst (pa_cons pe_non (pa_cons (pe_tup (pa_cons pe_str (pa_cons pe_str pa_nil))) (pa_cons (pe_tup (pa_cons pe_str (pa_cons pe_str (pa_cons pe_str pa_nil)))) (pa_cons (pe_lst (pa_cons pe_str (pa_cons pe_str pa_nil))) (pa_cons (pe_tup (pa_cons pe_str (pa_cons pe_bl pa_nil))) (pa_cons (pe_tup (pa_cons pe_str (pa_cons pe_int pa_nil))) pa_nil)))))))))
      (pss_cons (ps_expr (pe_bm PySem.F.plainAttrs_list PySem.F.slot_list_append PySem.F.type_list_append mt_append (pv 4) (pa_cons (pe_tup (pa_cons pe_str (pa_cons pe_str (pa_cons (pe_tup (pa_cons pe_str (pa_cons pe_str pa_nil))) (pa_cons pe_int (pa_cons pe_str pa_nil)))))) pa_nil)))
      (pss_cons (ps_set (i := 1) sc__law_odd_actions.nd rfl (Or.inl rfl) (pe_op op_cat (pv 1) (pe_lc (own := [("_law_one", 2)]) (g := (gName 2)) (by rfl) sc__law_odd_actions.nd (pi_list (pv 4)) (blkOk_by (N := n__law_odd_actions) (sc := defScope s__law_odd_actions) (by decide +kernel)) (fun _ _ _ _ _ => (pg_name (i := 2) sc__law_odd_actions.nd rfl (Or.inl rfl))) (fun _ _ _ _ _ => pts_nil) (fun _ _ _ _ _ => (pe_tup (pa_cons pe_str (pa_cons pe_str (pa_cons (pv 2) (pa_cons pe_int (pa_cons pe_str pa_nil))))))))))
      (pss_cons (ps_set (i := 5) sc__law_odd_actions.nd rfl (Or.inl rfl) (pe_lst (pa_cons pe_int (pa_cons pe_int (pa_cons (pe_op op_powW pe_int pe_int) (pa_cons (pe_op op_add (pe_op op_powW pe_int pe_int) pe_int) (pa_cons (pe_un un_neg pe_int) (pa_cons pe_bl (pa_cons pe_str (pa_cons pe_non pa_nil))))))))))
      (pss_cons (ps_set (i := 1) sc__law_odd_actions.nd rfl (Or.inl rfl) (pe_op op_cat (pv 1) (pe_lc (own := [("_law_one", 2)]) (g := (gName 2)) (by rfl) sc__law_odd_actions.nd (pi_list (pv 5)) (blkOk_by (N := n__law_odd_actions) (sc := defScope s__law_odd_actions) (by decide +kernel)) (fun _ _ _ _ _ => (pg_name (i := 2) sc__law_odd_actions.nd rfl (Or.inl rfl))) (fun _ _ _ _ _ => pts_nil) (fun _ _ _ _ _ => (pe_tup (pa_cons pe_str (pa_cons pe_str (pa_cons (pe_tup (pa_cons pe_str (pa_cons pe_str pa_nil))) (pa_cons (pv 2) (pa_cons pe_str pa_nil))))))))))
      (pss_cons (ps_set (i := 6) sc__law_odd_actions.nd rfl (Or.inl rfl) (pe_lst (pa_cons pe_str (pa_cons pe_str (pa_cons pe_str (pa_cons pe_str (pa_cons pe_str (pa_cons pe_non (pa_cons pe_int (pa_cons (pe_lst (pa_cons pe_str pa_nil)) (pa_cons (pe_tup (pa_cons pe_str pa_nil)) (pa_cons pe_str pa_nil))))))))))))
      (pss_cons (ps_set (i := 1) sc__law_odd_actions.nd rfl (Or.inl rfl) (pe_op op_cat (pv 1) (pe_lc (own := [("_law_one", 2)]) (g := (gName 2)) (by rfl) sc__law_odd_actions.nd (pi_list (pv 6)) (blkOk_by (N := n__law_odd_actions) (sc := defScope s__law_odd_actions) (by decide +kernel)) (fun _ _ _ _ _ => (pg_name (i := 2) sc__law_odd_actions.nd rfl (Or.inl rfl))) (fun _ _ _ _ _ => pts_nil) (fun _ _ _ _ _ => (pe_tup (pa_cons pe_str (pa_cons pe_str (pa_cons (pe_tup (pa_cons pe_str (pa_cons pe_str pa_nil))) (pa_cons pe_int (pa_cons (pv 2) pa_nil))))))))))
      (pss_cons (ps_set (i := 1) sc__law_odd_actions.nd rfl (Or.inl rfl) (pe_op op_cat (pv 1) (pe_lc (own := [("_law_one", 2)]) (g := (gName 2)) (by rfl) sc__law_odd_actions.nd (pi_list (pe_lst (pa_cons pe_str (pa_cons pe_str (pa_cons pe_non (pa_cons pe_int (pa_cons pe_str (pa_cons (pe_tup (pa_cons pe_str pa_nil)) pa_nil)))))))) (blkOk_by (N := n__law_odd_actions) (sc := defScope s__law_odd_actions) (by decide +kernel)) (fun _ _ _ _ _ => (pg_name (i := 2) sc__law_odd_actions.nd rfl (Or.inl rfl))) (fun _ _ _ _ _ => pts_nil) (fun _ _ _ _ _ => (pe_tup (pa_cons pe_str (pa_cons (pv 2) (pa_cons (pe_tup (pa_cons pe_str (pa_cons pe_str pa_nil))) (pa_cons pe_int (pa_cons pe_str pa_nil))))))))))
      (pss_cons (ps_set (i := 1) sc__law_odd_actions.nd rfl (Or.inl rfl) (pe_op op_cat (pv 1) (pe_lst (pa_cons (pe_tup (pa_cons pe_str (pa_cons pe_str (pa_cons (pe_tup (pa_cons pe_str (pa_cons pe_str pa_nil))) (pa_cons pe_int pa_nil))))) (pa_cons (pe_tup (pa_cons pe_str (pa_cons pe_str (pa_cons (pe_tup (pa_cons pe_str (pa_cons pe_str pa_nil))) (pa_cons pe_int (pa_cons pe_str (pa_cons pe_int pa_nil))))))) (pa_cons (pe_tup (pa_cons pe_str pa_nil)) pa_nil))))))
      (pss_one (ps_ret (pe_op op_cat (pv 1) (pe_lst (pa_cons (pe_lst (pa_cons pe_str (pa_cons pe_str (pa_cons (pe_tup (pa_cons pe_str (pa_cons pe_str pa_nil))) (pa_cons pe_int (pa_cons pe_str pa_nil)))))) (pa_cons (pe_tup (pa_cons pe_str (pa_cons pe_str (pa_cons (pe_tup (pa_cons pe_str (pa_cons pe_str pa_nil))) (pa_cons pe_int (pa_cons pe_str pa_nil)))))) (pa_cons (pe_lst pa_nil) (pa_cons pe_dnewK pa_nil)))))))))))))))))))))), ?_⟩
    have sA := Same.refl H
    rw [show L2.start n__law_odd_actions [V.int n] = [some (V.int n), none, none, none, none, none, none] from rfl]
    have gi : GIs K H [] := GIs.nil
    have gi := GIs.app gi (.cons (gn_none.gi (by decide) (by decide)) .nil)
    have gi := GIs.app gi (.cons ((gn_int (i := 0) (by decide)).gi (by decide) (by decide)) .nil)
    have gi := GIs.app gi (.cons ((gn_bool true).gi (by decide) (by decide)) .nil)
    have gi := GIs.app gi (.cons ((gn_s "").gi (by decide) (by decide)) .nil)
    have gi := GIs.app gi (.cons ((gn_s "None").gi (by decide) (by decide)) .nil)
    have gi := GIs.app gi (.cons ((gn_s "thru").gi (by decide) (by decide)) .nil)
    have gi := GIs.app gi (.cons ((gn_s "through").gi (by decide) (by decide)) .nil)
    have gi := GIs.app gi (.cons ((gn_s "none").gi (by decide) (by decide)) .nil)
    have gi := GIs.app gi (.cons ((gn_s "code").gi (by decide) (by decide)) .nil)
    refine ⟨Nat.zero_le _, fun p1 n1 => ?_⟩
    have s1 := same_upd (o := .tup []) n1
    have e1 := upd_same (H := H) (a := p1) (o := .tup [])
    refine (fun (G : ∀ H_1 : Hp, Same H H_1 → H_1 p1 = some (.tup []) → _) => G _ s1 e1) (fun H_1 s1 e1 => ?_)
    have gi := gi.same s1
    have sA := sA.trans s1
    have g1 : GN K H_1 3 1 (.ref p1) := gn_tup (L := 210) (n := 0) (SqT.of e1) (GNs.nil) (by show 0 * (210 + 2) + 3 ≤ 3; decide)
    have gi := GIs.app gi (.cons (g1.gi (by decide) (by decide)) .nil)
    refine ⟨(by show 1 ≤ sizeLine; decide), fun p2 n2 => ?_⟩
    have s2 := same_upd (o := .tup [.str ("code" : String)]) n2
    have e2 := upd_same (H := H_1) (a := p2) (o := .tup [.str ("code" : String)])
    refine (fun (G : ∀ H_2 : Hp, Same H_1 H_2 → H_2 p2 = some (.tup [.str ("code" : String)]) → _) => G _ s2 e2) (fun H_2 s2 e2 => ?_)
    have gi := gi.same s2
    have sA := sA.trans s2
    have g2 : GN K H_2 215 1 (.ref p2) := gn_tup (L := 210) (n := 0) (SqT.of e2) (GNs.cons (gn_s "code") (GNs.nil)) (by show 1 * (210 + 2) + 3 ≤ 215; decide)
    have gi := GIs.app gi (.cons (g2.gi (by decide) (by decide)) .nil)
    refine ⟨(by show 1 ≤ sizeLine; decide), fun p3 n3 => ?_⟩
    have s3 := same_upd (o := .tup [.str ("none" : String)]) n3
    have e3 := upd_same (H := H_2) (a := p3) (o := .tup [.str ("none" : String)])
    refine (fun (G : ∀ H_3 : Hp, Same H_2 H_3 → H_3 p3 = some (.tup [.str ("none" : String)]) → _) => G _ s3 e3) (fun H_3 s3 e3 => ?_)
    have gi := gi.same s3
    have sA := sA.trans s3
    have g3 : GN K H_3 215 1 (.ref p3) := gn_tup (L := 210) (n := 0) (SqT.of e3) (GNs.cons (gn_s "none") (GNs.nil)) (by show 1 * (210 + 2) + 3 ≤ 215; decide)
    have gi := GIs.app gi (.cons (g3.gi (by decide) (by decide)) .nil)
    refine ⟨(by show 1 ≤ sizeLine; decide), fun p4 n4 => ?_⟩
    have s4 := same_upd (o := .tup [.str ("through" : String)]) n4
    have e4 := upd_same (H := H_3) (a := p4) (o := .tup [.str ("through" : String)])
    refine (fun (G : ∀ H_4 : Hp, Same H_3 H_4 → H_4 p4 = some (.tup [.str ("through" : String)]) → _) => G _ s4 e4) (fun H_4 s4 e4 => ?_)
    have gi := gi.same s4
    have sA := sA.trans s4
    have g4 : GN K H_4 215 1 (.ref p4) := gn_tup (L := 210) (n := 0) (SqT.of e4) (GNs.cons (gn_s "through") (GNs.nil)) (by show 1 * (210 + 2) + 3 ≤ 215; decide)
    have gi := GIs.app gi (.cons (g4.gi (by decide) (by decide)) .nil)
    have sA0 := sA
    refine ⟨(by show 13 ≤ sizeLine; decide), fun p5 n5 => ?_⟩
    have s5 := same_upd (o := .lst [.non, .int 0, .bl true, .str ("" : String), .str ("None" : String), .str ("thru" : String), .str ("through" : String), .str ("none" : String), .str ("code" : String), .ref p1, .ref p2, .ref p3, .ref p4]) n5
    have e5 := upd_same (H := H_4) (a := p5) (o := .lst [.non, .int 0, .bl true, .str ("" : String), .str ("None" : String), .str ("thru" : String), .str ("through" : String), .str ("none" : String), .str ("code" : String), .ref p1, .ref p2, .ref p3, .ref p4])
    refine (fun (G : ∀ H_5 : Hp, Same H_4 H_5 → H_5 p5 = some (.lst [.non, .int 0, .bl true, .str ("" : String), .str ("None" : String), .str ("thru" : String), .str ("through" : String), .str ("none" : String), .str ("code" : String), .ref p1, .ref p2, .ref p3, .ref p4]) → _) => G _ s5 e5) (fun H_5 s5 e5 => ?_)
    have gi := gi.same (same_wo (S := [p5]) s5 (fun X hX => by rw [List.mem_singleton.mp hX]; exact n5))
    have sA := sA.trans s5
    obtain ⟨xs, hS, gS, hxl⟩ : ∃ xs, H_5 p5 = some (.lst xs) ∧ GIs K (wo [p5] H_5) xs ∧ xs.length = 13 := ⟨_, e5, gi, rfl⟩
    have nS0 : H p5 = none := sfree sA0 n5
    dsimp only [gName]
    rw [show List.set ([some (V.int n), none, none, none, none, none, none] : List (Option V)) 1 (some (V.ref p5)) = [some (V.int n), some (V.ref p5), none, none, none, none, none] from rfl]
    have gp : GNs K (wo [p5] H_5) 700 1 [] := GNs.nil
    have gp := GNs.app gp (.cons ((gn_s "").mono (by decide) (by decide)) .nil)
    have gp := GNs.app gp (.cons ((gn_s "a").mono (by decide) (by decide)) .nil)
    have gp := GNs.app gp (.cons ((gn_s "A").mono (by decide) (by decide)) .nil)
    have gp := GNs.app gp (.cons ((gn_s "a b").mono (by decide) (by decide)) .nil)
    have gp := GNs.app gp (.cons ((gn_s "abcdefgh").mono (by decide) (by decide)) .nil)
    have gp := GNs.app gp (.cons ((gn_s "abcdefghi").mono (by decide) (by decide)) .nil)
    have gp := GNs.app gp (.cons ((gn_s "_").mono (by decide) (by decide)) .nil)
    have gp := GNs.app gp (.cons (gn_none.mono (by decide) (by decide)) .nil)
    have gp := GNs.app gp (.cons ((gn_int (i := 1) (by decide)).mono (by decide) (by decide)) .nil)
    have gp := GNs.app gp (.cons ((gn_s "0").mono (by decide) (by decide)) .nil)
    refine ⟨(by show 1 ≤ sizeLine; decide), fun p6 n6 => ?_⟩
    have s6 := same_upd (o := .tup [.str ("a" : String)]) n6
    have e6 := upd_same (H := H_5) (a := p6) (o := .tup [.str ("a" : String)])
    refine (fun (G : ∀ H_6 : Hp, Same H_5 H_6 → H_6 p6 = some (.tup [.str ("a" : String)]) → _) => G _ s6 e6) (fun H_6 s6 e6 => ?_)
    have w6 := wo_at (S := [p5]) e6 (fun X hX => by rw [List.mem_singleton.mp hX]; exact (ne_of_none hS n6).symm)
    have gS := gS.same (wo_same (S := [p5]) s6)
    have gp := gp.same (wo_same (S := [p5]) s6)
    have hS := s6 _ _ hS
    have sA := sA.trans s6
    have g5 : GN K (wo [p5] H_6) 215 1 (.ref p6) := gn_tup (L := 210) (n := 0) (SqT.of w6) (GNs.cons (gn_s "a") (GNs.nil)) (by show 1 * (210 + 2) + 3 ≤ 215; decide)
    have gp := GNs.app gp (.cons (g5.mono (by decide) (by decide)) .nil)
    refine ⟨(by show 1 ≤ sizeLine; decide), fun p7 n7 => ?_⟩
    have s7 := same_upd (o := .lst [.str ("a" : String)]) n7
    have e7 := upd_same (H := H_6) (a := p7) (o := .lst [.str ("a" : String)])
    refine (fun (G : ∀ H_7 : Hp, Same H_6 H_7 → H_7 p7 = some (.lst [.str ("a" : String)]) → _) => G _ s7 e7) (fun H_7 s7 e7 => ?_)
    have w7 := wo_at (S := [p5]) e7 (fun X hX => by rw [List.mem_singleton.mp hX]; exact (ne_of_none hS n7).symm)
    have gS := gS.same (wo_same (S := [p5]) s7)
    have gp := gp.same (wo_same (S := [p5]) s7)
    have hS := s7 _ _ hS
    have sA := sA.trans s7
    have g6 : GN K (wo [p5] H_7) 215 1 (.ref p7) := gn_lst (L := 210) (n := 0) (SqL.of w7) (GNs.cons (gn_s "a") (GNs.nil)) (by show 1 * (210 + 2) + 3 ≤ 215; decide) (by show 1 ≤ 400; decide)
    have gp := GNs.app gp (.cons (g6.mono (by decide) (by decide)) .nil)
    have gp := GNs.app gp (.cons ((gn_s "a\n").mono (by decide) (by decide)) .nil)
    have hS_ := hS
    refine ⟨(by show 13 ≤ sizeLine; decide), fun p8 n8 => ?_⟩
    have s8 := same_upd (o := .lst [.str ("" : String), .str ("a" : String), .str ("A" : String), .str ("a b" : String), .str ("abcdefgh" : String), .str ("abcdefghi" : String), .str ("_" : String), .non, .int 1, .str ("0" : String), .ref p6, .ref p7, .str ("a\n" : String)]) n8
    have e8 := upd_same (H := H_7) (a := p8) (o := .lst [.str ("" : String), .str ("a" : String), .str ("A" : String), .str ("a b" : String), .str ("abcdefgh" : String), .str ("abcdefghi" : String), .str ("_" : String), .non, .int 1, .str ("0" : String), .ref p6, .ref p7, .str ("a\n" : String)])
    refine (fun (G : ∀ H_8 : Hp, Same H_7 H_8 → H_8 p8 = some (.lst [.str ("" : String), .str ("a" : String), .str ("A" : String), .str ("a b" : String), .str ("abcdefgh" : String), .str ("abcdefghi" : String), .str ("_" : String), .non, .int 1, .str ("0" : String), .ref p6, .ref p7, .str ("a\n" : String)]) → _) => G _ s8 e8) (fun H_8 s8 e8 => ?_)
    have w8 := wo_at (S := [p5]) e8 (fun X hX => by rw [List.mem_singleton.mp hX]; exact (ne_of_none hS n8).symm)
    have gS := gS.same (wo_same (S := [p5]) s8)
    have gp := gp.same (wo_same (S := [p5]) s8)
    have hS := s8 _ _ hS
    have sA := sA.trans s8
    obtain ⟨ods, hO, gO, hol⟩ : ∃ ods, H_8 p8 = some (.lst ods) ∧ GNs K (wo [p5] H_8) 700 1 ods ∧ ods.length = 13 := ⟨_, e8, gp, rfl⟩
    have OS : p8 ≠ p5 := (ne_of_none hS_ n8).symm
    refine ⟨p8, rfl, ⟨_, SqL.of hO⟩, for_it (walk_list (xs := ods)) (fun i σ H' => Same H H' ∧ H' p8 = some (.lst ods) ∧ ∃ ys y2, σ = [some (V.int n), some (V.ref p5), y2, none, none, none, none] ∧ H' p5 = some (.lst ys) ∧ GIs K (wo [p5] H') ys ∧ ys.length = 13 + i ∧ GNs K (wo [p5] H') 700 1 ods) ⟨sA, hO, xs, none, rfl, hS, gS, by omega, gO⟩ (fun i σ H' _ p => SqL.of p.2.1) (fun i x σ H1 H2 hi p y => ?_) (fun σ H1 p => ?_)⟩
    · obtain ⟨sA, hO, ys, y2, rfl, hS, gy, hyl, gO⟩ := p
      obtain ⟨rfl, hx⟩ := y
      have gx := gO x (List.mem_of_getElem? hx)
      refine ⟨_, rfl, .inl ⟨rfl, _, SqL.of hS⟩, _, rfl, (by show 2 ≤ sizeLine; decide), fun p101 n101 => ?_⟩
      have s101 := same_upd (o := .tup [.str ("code" : String), x]) n101
      have e101 := upd_same (H := H2) (a := p101) (o := .tup [.str ("code" : String), x])
      refine (fun (G : ∀ H_101 : Hp, Same H2 H_101 → H_101 p101 = some (.tup [.str ("code" : String), x]) → _) => G _ s101 e101) (fun H_101 s101 e101 => ?_)
      have w101 := wo_at (S := [p5]) e101 (fun X hX => by rw [List.mem_singleton.mp hX]; exact (ne_of_none hS n101).symm)
      have gy := gy.same (wo_same (S := [p5]) s101)
      have gO := gO.same (wo_same (S := [p5]) s101)
      have gx := gx.same (wo_same (S := [p5]) s101)
      have hS := s101 _ _ hS
      have hO := s101 _ _ hO
      have sA := sA.trans s101
      have g7 : GN K (wo [p5] H_101) 1407 2 (.ref p101) := gn_tup (L := 700) (n := 1) (SqT.of w101) (GNs.cons ((gn_s "code").mono (by decide) (by decide)) (GNs.cons gx (GNs.nil))) (by show 2 * (700 + 2) + 3 ≤ 1407; decide)
      refine ⟨p5, _, _, rfl, rfl, hS, by rw [hyl, sizeLine_eq]; omega, Same.off sA nS0 off_upd, ?_, ys ++ [.ref p101], _, rfl, upd_same, ?_, by rw [List.length_append, hyl]; rfl, gO.same (wo_upd (by simp))⟩
      · rw [upd_ne OS]; exact hO
      · exact GIs.app (gy.same (wo_upd (by simp))) (.cons ((g7.gi (by decide) (by decide)).same (wo_upd (by simp))) .nil)
    · obtain ⟨sA, hO, xs, y2, rfl, hS, gS, hxl, gO⟩ := p
      have gS := gS.same wo_all
      rw [hol] at hxl
      have gi : GIs K H1 [] := GIs.nil
      refine ⟨_, rfl, (by show 2 ≤ sizeLine; decide), fun p201 n201 => ?_⟩
      have s201 := same_upd (o := .lst [.str ("code" : String), .str ("a" : String)]) n201
      have e201 := upd_same (H := H1) (a := p201) (o := .lst [.str ("code" : String), .str ("a" : String)])
      refine (fun (G : ∀ H_201 : Hp, Same H1 H_201 → H_201 p201 = some (.lst [.str ("code" : String), .str ("a" : String)]) → _) => G _ s201 e201) (fun H_201 s201 e201 => ?_)
      have gS := gS.same s201
      have gi := gi.same s201
      have hS := s201 _ _ hS
      have sA := sA.trans s201
      have g8 : GN K H_201 427 1 (.ref p201) := gn_lst (L := 210) (n := 0) (SqL.of e201) (GNs.cons (gn_s "code") (GNs.cons (gn_s "a") (GNs.nil))) (by show 2 * (210 + 2) + 3 ≤ 427; decide) (by show 2 ≤ 400; decide)
      have gi := GIs.app gi (.cons (g8.gi (by decide) (by decide)) .nil)
      refine ⟨(by show 3 ≤ sizeLine; decide), fun p202 n202 => ?_⟩
      have s202 := same_upd (o := .tup [.str ("code" : String), .str ("a" : String), .str ("b" : String)]) n202
      have e202 := upd_same (H := H_201) (a := p202) (o := .tup [.str ("code" : String), .str ("a" : String), .str ("b" : String)])
      refine (fun (G : ∀ H_202 : Hp, Same H_201 H_202 → H_202 p202 = some (.tup [.str ("code" : String), .str ("a" : String), .str ("b" : String)]) → _) => G _ s202 e202) (fun H_202 s202 e202 => ?_)
      have gS := gS.same s202
      have gi := gi.same s202
      have hS := s202 _ _ hS
      have sA := sA.trans s202
      have g9 : GN K H_202 639 1 (.ref p202) := gn_tup (L := 210) (n := 0) (SqT.of e202) (GNs.cons (gn_s "code") (GNs.cons (gn_s "a") (GNs.cons (gn_s "b") (GNs.nil)))) (by show 3 * (210 + 2) + 3 ≤ 639; decide)
      have gi := GIs.app gi (.cons (g9.gi (by decide) (by decide)) .nil)
      refine ⟨(by show 2 ≤ sizeLine; decide), fun p203 n203 => ?_⟩
      have s203 := same_upd (o := .tup [.str ("press" : String), .str ("a" : String)]) n203
      have e203 := upd_same (H := H_202) (a := p203) (o := .tup [.str ("press" : String), .str ("a" : String)])
      refine (fun (G : ∀ H_203 : Hp, Same H_202 H_203 → H_203 p203 = some (.tup [.str ("press" : String), .str ("a" : String)]) → _) => G _ s203 e203) (fun H_203 s203 e203 => ?_)
      have gS := gS.same s203
      have gi := gi.same s203
      have hS := s203 _ _ hS
      have sA := sA.trans s203
      have g10 : GN K H_203 427 1 (.ref p203) := gn_tup (L := 210) (n := 0) (SqT.of e203) (GNs.cons (gn_s "press") (GNs.cons (gn_s "a") (GNs.nil))) (by show 2 * (210 + 2) + 3 ≤ 427; decide)
      have gi := GIs.app gi (.cons (g10.gi (by decide) (by decide)) .nil)
      refine ⟨(by show 2 ≤ sizeLine; decide), fun p204 n204 => ?_⟩
      have s204 := same_upd (o := .tup [.str ("key" : String), .int 1]) n204
      have e204 := upd_same (H := H_203) (a := p204) (o := .tup [.str ("key" : String), .int 1])
      refine (fun (G : ∀ H_204 : Hp, Same H_203 H_204 → H_204 p204 = some (.tup [.str ("key" : String), .int 1]) → _) => G _ s204 e204) (fun H_204 s204 e204 => ?_)
      have gS := gS.same s204
      have gi := gi.same s204
      have hS := s204 _ _ hS
      have sA := sA.trans s204
      have g11 : GN K H_204 427 1 (.ref p204) := gn_tup (L := 210) (n := 0) (SqT.of e204) (GNs.cons (gn_s "key") (GNs.cons (gn_int (i := 1) (by decide)) (GNs.nil))) (by show 2 * (210 + 2) + 3 ≤ 427; decide)
      have gi := GIs.app gi (.cons (g11.gi (by decide) (by decide)) .nil)
      refine ⟨(by show 2 ≤ sizeLine; decide), fun p205 n205 => ?_⟩
      have s205 := same_upd (o := .tup [.str ("layer" : String), .str ("1" : String)]) n205
      have e205 := upd_same (H := H_204) (a := p205) (o := .tup [.str ("layer" : String), .str ("1" : String)])
      refine (fun (G : ∀ H_205 : Hp, Same H_204 H_205 → H_205 p205 = some (.tup [.str ("layer" : String), .str ("1" : String)]) → _) => G _ s205 e205) (fun H_205 s205 e205 => ?_)
      have gS := gS.same s205
      have gi := gi.same s205
      have hS := s205 _ _ hS
      have sA := sA.trans s205
      have g12 : GN K H_205 427 1 (.ref p205) := gn_tup (L := 210) (n := 0) (SqT.of e205) (GNs.cons (gn_s "layer") (GNs.cons (gn_s "1") (GNs.nil))) (by show 2 * (210 + 2) + 3 ≤ 427; decide)
      have gi := GIs.app gi (.cons (g12.gi (by decide) (by decide)) .nil)
      refine ⟨(by show 2 ≤ sizeLine; decide), fun p206 n206 => ?_⟩
      have s206 := same_upd (o := .tup [.str ("layer" : String), .non]) n206
      have e206 := upd_same (H := H_205) (a := p206) (o := .tup [.str ("layer" : String), .non])
      refine (fun (G : ∀ H_206 : Hp, Same H_205 H_206 → H_206 p206 = some (.tup [.str ("layer" : String), .non]) → _) => G _ s206 e206) (fun H_206 s206 e206 => ?_)
      have gS := gS.same s206
      have gi := gi.same s206
      have hS := s206 _ _ hS
      have sA := sA.trans s206
      have g13 : GN K H_206 427 1 (.ref p206) := gn_tup (L := 210) (n := 0) (SqT.of e206) (GNs.cons (gn_s "layer") (GNs.cons gn_none (GNs.nil))) (by show 2 * (210 + 2) + 3 ≤ 427; decide)
      have gi := GIs.app gi (.cons (g13.gi (by decide) (by decide)) .nil)
      refine ⟨(by show 6 ≤ sizeLine; decide), fun p207 n207 => ?_⟩
      have s207 := same_upd (o := .lst [.ref p201, .ref p202, .ref p203, .ref p204, .ref p205, .ref p206]) n207
      have e207 := upd_same (H := H_206) (a := p207) (o := .lst [.ref p201, .ref p202, .ref p203, .ref p204, .ref p205, .ref p206])
      refine (fun (G : ∀ H_207 : Hp, Same H_206 H_207 → H_207 p207 = some (.lst [.ref p201, .ref p202, .ref p203, .ref p204, .ref p205, .ref p206]) → _) => G _ s207 e207) (fun H_207 s207 e207 => ?_)
      have gS := gS.same s207
      have gi := gi.same s207
      have hS := s207 _ _ hS
      have sA := sA.trans s207
      obtain ⟨zs, hZ, gZ, hzl⟩ : ∃ zs, H_207 p207 = some (.lst zs) ∧ GIs K H_207 zs ∧ zs.length = 6 := ⟨_, e207, gi, rfl⟩
      refine ⟨p5, p207, _, _, rfl, rfl, hS, hZ, (by rw [hxl, hzl, sizeLine_eq]; omega), fun p208 n208 => ?_⟩
      have s208 := same_upd (o := .lst (xs ++ zs)) n208
      have e208 := upd_same (H := H_207) (a := p208) (o := .lst (xs ++ zs))
      refine (fun (G : ∀ H_208 : Hp, Same H_207 H_208 → H_208 p208 = some (.lst (xs ++ zs)) → _) => G _ s208 e208) (fun H_208 s208 e208 => ?_)
      have gS := gS.same s208
      have gZ := gZ.same s208
      have hS := s208 _ _ hS
      have sA := sA.trans s208
      obtain ⟨xs, hS, gS, hxl⟩ : ∃ xs, H_208 p208 = some (.lst xs) ∧ GIs K H_208 xs ∧ xs.length = 32 := ⟨_, e208, GIs.app gS gZ, by rw [List.length_append, hxl, hzl]⟩
      dsimp only [gName]
      rw [show List.set ([some (V.int n), some (V.ref p5), y2, none, none, none, none] : List (Option V)) 1 (some (V.ref p208)) = [some (V.int n), some (V.ref p208), y2, none, none, none, none] from rfl]
      have gp : GNs K H_208 700 1 [] := GNs.nil
      have gp := GNs.app gp (.cons ((gn_s "layer").mono (by decide) (by decide)) .nil)
      have gp := GNs.app gp (.cons ((gn_s "lock").mono (by decide) (by decide)) .nil)
      have gp := GNs.app gp (.cons ((gn_s "once").mono (by decide) (by decide)) .nil)
      have gp := GNs.app gp (.cons ((gn_s "hold").mono (by decide) (by decide)) .nil)
      have gp := GNs.app gp (.cons (gn_none.mono (by decide) (by decide)) .nil)
      refine ⟨(by show 1 ≤ sizeLine; decide), fun p209 n209 => ?_⟩
      have s209 := same_upd (o := .lst [.str ("lock" : String)]) n209
      have e209 := upd_same (H := H_208) (a := p209) (o := .lst [.str ("lock" : String)])
      refine (fun (G : ∀ H_209 : Hp, Same H_208 H_209 → H_209 p209 = some (.lst [.str ("lock" : String)]) → _) => G _ s209 e209) (fun H_209 s209 e209 => ?_)
      have gS := gS.same s209
      have gp := gp.same s209
      have hS := s209 _ _ hS
      have sA := sA.trans s209
      have g14 : GN K H_209 215 1 (.ref p209) := gn_lst (L := 210) (n := 0) (SqL.of e209) (GNs.cons (gn_s "lock") (GNs.nil)) (by show 1 * (210 + 2) + 3 ≤ 215; decide) (by show 1 ≤ 400; decide)
      have gp := GNs.app gp (.cons (g14.mono (by decide) (by decide)) .nil)
      refine ⟨(by show 6 ≤ sizeLine; decide), fun p210 n210 => ?_⟩
      have s210 := same_upd (o := .lst [.str ("layer" : String), .str ("lock" : String), .str ("once" : String), .str ("hold" : String), .non, .ref p209]) n210
      have e210 := upd_same (H := H_209) (a := p210) (o := .lst [.str ("layer" : String), .str ("lock" : String), .str ("once" : String), .str ("hold" : String), .non, .ref p209])
      refine (fun (G : ∀ H_210 : Hp, Same H_209 H_210 → H_210 p210 = some (.lst [.str ("layer" : String), .str ("lock" : String), .str ("once" : String), .str ("hold" : String), .non, .ref p209]) → _) => G _ s210 e210) (fun H_210 s210 e210 => ?_)
      have gS := gS.same s210
      have gp := gp.same s210
      have hS := s210 _ _ hS
      have sA := sA.trans s210
      obtain ⟨wds, hW, gW, hwl⟩ : ∃ wds, H_210 p210 = some (.lst wds) ∧ GNs K H_210 700 1 wds ∧ wds.length = 6 := ⟨_, e210, gp, rfl⟩
      refine ⟨p210, rfl, ⟨_, SqL.of hW⟩, for_it (walk_list (xs := wds)) (fun i σ H' => Same H_210 H' ∧ ∃ S ys y3, σ = [some (V.int n), some (V.ref S), y2, y3, none, none, none] ∧ H' S = some (.lst ys) ∧ GIs K H' ys ∧ ys.length = 32 + 7 * i) ⟨Same.refl _, p208, xs, none, rfl, hS, gS, by omega⟩ (fun i σ H' _ p => SqL.of (p.1 _ _ hW)) (fun i x σ HA HB hi p y => ?_) (fun σ HA p => ?_)⟩
      · obtain ⟨sB, S, ys, y3, rfl, hS, gy, hyl⟩ := p
        obtain ⟨rfl, hx⟩ := y
        have gx := (gW x (List.mem_of_getElem? hx)).same sB
        have sA := sB
        have gz : GNs K HB 210 0 [] := GNs.nil
        have gz := GNs.app gz (.cons ((gn_int (i := 0) (by decide)).mono (by decide) (by decide)) .nil)
        have gz := GNs.app gz (.cons ((gn_int (i := 1) (by decide)).mono (by decide) (by decide)) .nil)
        have gz := GNs.app gz (.cons ((gn_int (i := n - 1) (by omega)).mono (by decide) (by decide)) .nil)
        have gz := GNs.app gz (.cons ((gn_int (i := n) (by omega)).mono (by decide) (by decide)) .nil)
        have gz := GNs.app gz (.cons ((gn_int (i := -1) (by decide)).mono (by decide) (by decide)) .nil)
        have gz := GNs.app gz (.cons ((gn_bool true).mono (by decide) (by decide)) .nil)
        have gz := GNs.app gz (.cons ((gn_int (i := 10 ^ Int.toNat 30) (by decide +kernel)).mono (by decide) (by decide)) .nil)
        refine ⟨_, rfl, _, rfl, _, _, rfl, rfl, _, rfl, 1, rfl, _, _, rfl, rfl, powW (n := 40) (k := 30) (by decide) (by decide), (by show 7 ≤ sizeLine; decide), fun p301 n301 => ?_⟩
        have s301 := same_upd (o := .lst [.int 0, .int 1, .int (n - 1), .int n, .int (-1), .bl true, .int (10 ^ Int.toNat 30)]) n301
        have e301 := upd_same (H := HB) (a := p301) (o := .lst [.int 0, .int 1, .int (n - 1), .int n, .int (-1), .bl true, .int (10 ^ Int.toNat 30)])
        refine (fun (G : ∀ H_301 : Hp, Same HB H_301 → H_301 p301 = some (.lst [.int 0, .int 1, .int (n - 1), .int n, .int (-1), .bl true, .int (10 ^ Int.toNat 30)]) → _) => G _ s301 e301) (fun H_301 s301 e301 => ?_)
        have gy := gy.same s301
        have gx := gx.same s301
        have gz := gz.same s301
        have hS := s301 _ _ hS
        have sA := sA.trans s301
        obtain ⟨zs, hZ, gZ, hzl⟩ : ∃ zs, H_301 p301 = some (.lst zs) ∧ GNs K H_301 210 0 zs ∧ zs.length = 7 := ⟨_, e301, gz, rfl⟩
        refine ⟨p301, rfl, ⟨_, SqL.of hZ⟩, fun M nM => lc_it (walk_list (xs := zs)) (fun j H' => Same H_301 H' ∧ ∃ ws, H' M = some (.lst ws) ∧ GIs K (wo [M] H') ws ∧ ws.length = j) ⟨same_upd nM, [], upd_same, GIs.nil, rfl⟩ (fun j H' _ p => SqL.of (p.1 _ _ hZ)) (fun j x2 HC HD hj p y => ?_) (fun HC p => ?_)⟩
        · obtain ⟨sc, ws, hM, gw, hwl2⟩ := p
          obtain ⟨rfl, hx2⟩ := y
          have gx := gx.same (same_wo (S := [M]) sc (fun X hX => by rw [List.mem_singleton.mp hX]; exact nM))
          have gx2 := (gZ x2 (List.mem_of_getElem? hx2)).same (same_wo (S := [M]) sc (fun X hX => by rw [List.mem_singleton.mp hX]; exact nM))
          have sA := sc
          refine ⟨rfl, ?_⟩
          refine ⟨_, rfl, _, rfl, (by show 2 ≤ sizeLine; decide), fun p401 n401 => ?_⟩
          have s401 := same_upd (o := .tup [x, x2]) n401
          have e401 := upd_same (H := HD) (a := p401) (o := .tup [x, x2])
          refine (fun (G : ∀ H_401 : Hp, Same HD H_401 → H_401 p401 = some (.tup [x, x2]) → _) => G _ s401 e401) (fun H_401 s401 e401 => ?_)
          have w401 := wo_at (S := [M]) e401 (fun X hX => by rw [List.mem_singleton.mp hX]; exact (ne_of_none hM n401).symm)
          have gw := gw.same (wo_same (S := [M]) s401)
          have gx := gx.same (wo_same (S := [M]) s401)
          have gx2 := gx2.same (wo_same (S := [M]) s401)
          have hM := s401 _ _ hM
          have sA := sA.trans s401
          have g15 : GN K (wo [M] H_401) 1407 2 (.ref p401) := gn_tup (L := 700) (n := 1) (SqT.of w401) (GNs.cons gx (GNs.cons (gx2.mono (by decide) (by decide)) (GNs.nil))) (by show 2 * (700 + 2) + 3 ≤ 1407; decide)
          exact ⟨_, hM, by rw [hwl2, sizeLine_eq]; omega, Same.off sA nM off_upd, ws ++ [.ref p401], upd_same, GIs.app (gw.same (wo_upd (by simp))) (.cons ((g15.gi (by decide) (by decide)).same (wo_upd (by simp))) .nil), by rw [List.length_append, hwl2]; rfl⟩
        · obtain ⟨sc, ws, hM, gw, hwl2⟩ := p
          have gw := gw.same wo_all
          have hS := sc _ _ hS
          have gy := gy.same sc
          have sA := sA.trans sc
          refine ⟨S, M, _, _, rfl, rfl, hS, hM, (by rw [hyl, hwl2, hzl, sizeLine_eq]; omega), fun p501 n501 => ?_⟩
          have s501 := same_upd (o := .lst (ys ++ ws)) n501
          have e501 := upd_same (H := HC) (a := p501) (o := .lst (ys ++ ws))
          refine (fun (G : ∀ H_501 : Hp, Same HC H_501 → H_501 p501 = some (.lst (ys ++ ws)) → _) => G _ s501 e501) (fun H_501 s501 e501 => ?_)
          have gy := gy.same s501
          have gw := gw.same s501
          have sA := sA.trans s501
          exact ⟨sA, p501, _, _, rfl, e501, GIs.app gy gw, by rw [List.length_append, hyl, hwl2, hzl]; omega⟩
      · obtain ⟨sB, S, xs, y3, rfl, hS, gS, hxl⟩ := p
        rw [hwl] at hxl
        have sA := sA.trans sB
        have gp : GNs K HA 3600 2 [] := GNs.nil
        refine ⟨(by show 2 ≤ sizeLine; decide), fun p601 n601 => ?_⟩
        have s601 := same_upd (o := .tup [.str ("code" : String), .str ("b" : String)]) n601
        have e601 := upd_same (H := HA) (a := p601) (o := .tup [.str ("code" : String), .str ("b" : String)])
        refine (fun (G : ∀ H_601 : Hp, Same HA H_601 → H_601 p601 = some (.tup [.str ("code" : String), .str ("b" : String)]) → _) => G _ s601 e601) (fun H_601 s601 e601 => ?_)
        have gS := gS.same s601
        have gp := gp.same s601
        have hS := s601 _ _ hS
        have sA := sA.trans s601
        have g16 : GN K H_601 427 1 (.ref p601) := gn_tup (L := 210) (n := 0) (SqT.of e601) (GNs.cons (gn_s "code") (GNs.cons (gn_s "b") (GNs.nil))) (by show 2 * (210 + 2) + 3 ≤ 427; decide)
        have gp := GNs.app gp (.cons (g16.mono (by decide) (by decide)) .nil)
        refine ⟨_, rfl, _, _, rfl, rfl, (by show 2 ≤ sizeLine; decide), fun p602 n602 => ?_⟩
        have s602 := same_upd (o := .tup [.str ("layer" : String), .int (n - 1)]) n602
        have e602 := upd_same (H := H_601) (a := p602) (o := .tup [.str ("layer" : String), .int (n - 1)])
        refine (fun (G : ∀ H_602 : Hp, Same H_601 H_602 → H_602 p602 = some (.tup [.str ("layer" : String), .int (n - 1)]) → _) => G _ s602 e602) (fun H_602 s602 e602 => ?_)
        have gS := gS.same s602
        have gp := gp.same s602
        have hS := s602 _ _ hS
        have sA := sA.trans s602
        have g17 : GN K H_602 427 1 (.ref p602) := gn_tup (L := 210) (n := 0) (SqT.of e602) (GNs.cons (gn_s "layer") (GNs.cons (gn_int (i := n - 1) (by omega)) (GNs.nil))) (by show 2 * (210 + 2) + 3 ≤ 427; decide)
        have gp := GNs.app gp (.cons (g17.mono (by decide) (by decide)) .nil)
        refine ⟨_, rfl, (by show 2 ≤ sizeLine; decide), fun p603 n603 => ?_⟩
        have s603 := same_upd (o := .tup [.str ("layer" : String), .int n]) n603
        have e603 := upd_same (H := H_602) (a := p603) (o := .tup [.str ("layer" : String), .int n])
        refine (fun (G : ∀ H_603 : Hp, Same H_602 H_603 → H_603 p603 = some (.tup [.str ("layer" : String), .int n]) → _) => G _ s603 e603) (fun H_603 s603 e603 => ?_)
        have gS := gS.same s603
        have gp := gp.same s603
        have hS := s603 _ _ hS
        have sA := sA.trans s603
        have g18 : GN K H_603 427 1 (.ref p603) := gn_tup (L := 210) (n := 0) (SqT.of e603) (GNs.cons (gn_s "layer") (GNs.cons (gn_int (i := n) (by omega)) (GNs.nil))) (by show 2 * (210 + 2) + 3 ≤ 427; decide)
        have gp := GNs.app gp (.cons (g18.mono (by decide) (by decide)) .nil)
        refine ⟨(by show 2 ≤ sizeLine; decide), fun p604 n604 => ?_⟩
        have s604 := same_upd (o := .tup [.str ("lock" : String), .int 1]) n604
        have e604 := upd_same (H := H_603) (a := p604) (o := .tup [.str ("lock" : String), .int 1])
        refine (fun (G : ∀ H_604 : Hp, Same H_603 H_604 → H_604 p604 = some (.tup [.str ("lock" : String), .int 1]) → _) => G _ s604 e604) (fun H_604 s604 e604 => ?_)
        have gS := gS.same s604
        have gp := gp.same s604
        have hS := s604 _ _ hS
        have sA := sA.trans s604
        have g19 : GN K H_604 427 1 (.ref p604) := gn_tup (L := 210) (n := 0) (SqT.of e604) (GNs.cons (gn_s "lock") (GNs.cons (gn_int (i := 1) (by decide)) (GNs.nil))) (by show 2 * (210 + 2) + 3 ≤ 427; decide)
        have gp := GNs.app gp (.cons (g19.mono (by decide) (by decide)) .nil)
        refine ⟨(by show 2 ≤ sizeLine; decide), fun p605 n605 => ?_⟩
        have s605 := same_upd (o := .tup [.str ("once" : String), .int 1]) n605
        have e605 := upd_same (H := H_604) (a := p605) (o := .tup [.str ("once" : String), .int 1])
        refine (fun (G : ∀ H_605 : Hp, Same H_604 H_605 → H_605 p605 = some (.tup [.str ("once" : String), .int 1]) → _) => G _ s605 e605) (fun H_605 s605 e605 => ?_)
        have gS := gS.same s605
        have gp := gp.same s605
        have hS := s605 _ _ hS
        have sA := sA.trans s605
        have g20 : GN K H_605 427 1 (.ref p605) := gn_tup (L := 210) (n := 0) (SqT.of e605) (GNs.cons (gn_s "once") (GNs.cons (gn_int (i := 1) (by decide)) (GNs.nil))) (by show 2 * (210 + 2) + 3 ≤ 427; decide)
        have gp := GNs.app gp (.cons (g20.mono (by decide) (by decide)) .nil)
        have gp := GNs.app gp (.cons ((gn_s "none").mono (by decide) (by decide)) .nil)
        have gp := GNs.app gp (.cons ((gn_s "through").mono (by decide) (by decide)) .nil)
        refine ⟨(by show 7 ≤ sizeLine; decide), fun p606 n606 => ?_⟩
        have s606 := same_upd (o := .lst [.ref p601, .ref p602, .ref p603, .ref p604, .ref p605, .str ("none" : String), .str ("through" : String)]) n606
        have e606 := upd_same (H := H_605) (a := p606) (o := .lst [.ref p601, .ref p602, .ref p603, .ref p604, .ref p605, .str ("none" : String), .str ("through" : String)])
        refine (fun (G : ∀ H_606 : Hp, Same H_605 H_606 → H_606 p606 = some (.lst [.ref p601, .ref p602, .ref p603, .ref p604, .ref p605, .str ("none" : String), .str ("through" : String)]) → _) => G _ s606 e606) (fun H_606 s606 e606 => ?_)
        have gS := gS.same s606
        have gp := gp.same s606
        have hS := s606 _ _ hS
        have sA := sA.trans s606
        obtain ⟨hs1, hH, gH, hhl⟩ : ∃ xs, H_606 p606 = some (.lst xs) ∧ GNs K H_606 3600 2 xs ∧ xs.length = 7 := ⟨_, e606, gp, rfl⟩
        dsimp only [gName]
        rw [show List.set ([some (V.int n), some (V.ref S), y2, y3, none, none, none] : List (Option V)) 4 (some (V.ref p606)) = [some (V.int n), some (V.ref S), y2, y3, some (V.ref p606), none, none] from rfl]
        have gp : GNs K H_606 3600 2 [] := GNs.nil
        have gp := GNs.app gp (.cons (gn_none.mono (by decide) (by decide)) .nil)
        refine ⟨_, rfl, (by show 2 ≤ sizeLine; decide), fun p607 n607 => ?_⟩
        have s607 := same_upd (o := .tup [.str ("code" : String), .str ("" : String)]) n607
        have e607 := upd_same (H := H_606) (a := p607) (o := .tup [.str ("code" : String), .str ("" : String)])
        refine (fun (G : ∀ H_607 : Hp, Same H_606 H_607 → H_607 p607 = some (.tup [.str ("code" : String), .str ("" : String)]) → _) => G _ s607 e607) (fun H_607 s607 e607 => ?_)
        have gS := gS.same s607
        have gH := gH.same s607
        have gp := gp.same s607
        have hS := s607 _ _ hS
        have hH := s607 _ _ hH
        have sA := sA.trans s607
        have g21 : GN K H_607 427 1 (.ref p607) := gn_tup (L := 210) (n := 0) (SqT.of e607) (GNs.cons (gn_s "code") (GNs.cons (gn_s "") (GNs.nil))) (by show 2 * (210 + 2) + 3 ≤ 427; decide)
        have gp := GNs.app gp (.cons (g21.mono (by decide) (by decide)) .nil)
        refine ⟨(by show 3 ≤ sizeLine; decide), fun p608 n608 => ?_⟩
        have s608 := same_upd (o := .tup [.str ("code" : String), .str ("b" : String), .str ("c" : String)]) n608
        have e608 := upd_same (H := H_607) (a := p608) (o := .tup [.str ("code" : String), .str ("b" : String), .str ("c" : String)])
        refine (fun (G : ∀ H_608 : Hp, Same H_607 H_608 → H_608 p608 = some (.tup [.str ("code" : String), .str ("b" : String), .str ("c" : String)]) → _) => G _ s608 e608) (fun H_608 s608 e608 => ?_)
        have gS := gS.same s608
        have gH := gH.same s608
        have gp := gp.same s608
        have hS := s608 _ _ hS
        have hH := s608 _ _ hH
        have sA := sA.trans s608
        have g22 : GN K H_608 639 1 (.ref p608) := gn_tup (L := 210) (n := 0) (SqT.of e608) (GNs.cons (gn_s "code") (GNs.cons (gn_s "b") (GNs.cons (gn_s "c") (GNs.nil)))) (by show 3 * (210 + 2) + 3 ≤ 639; decide)
        have gp := GNs.app gp (.cons (g22.mono (by decide) (by decide)) .nil)
        refine ⟨(by show 2 ≤ sizeLine; decide), fun p609 n609 => ?_⟩
        have s609 := same_upd (o := .lst [.str ("code" : String), .str ("b" : String)]) n609
        have e609 := upd_same (H := H_608) (a := p609) (o := .lst [.str ("code" : String), .str ("b" : String)])
        refine (fun (G : ∀ H_609 : Hp, Same H_608 H_609 → H_609 p609 = some (.lst [.str ("code" : String), .str ("b" : String)]) → _) => G _ s609 e609) (fun H_609 s609 e609 => ?_)
        have gS := gS.same s609
        have gH := gH.same s609
        have gp := gp.same s609
        have hS := s609 _ _ hS
        have hH := s609 _ _ hH
        have sA := sA.trans s609
        have g23 : GN K H_609 427 1 (.ref p609) := gn_lst (L := 210) (n := 0) (SqL.of e609) (GNs.cons (gn_s "code") (GNs.cons (gn_s "b") (GNs.nil))) (by show 2 * (210 + 2) + 3 ≤ 427; decide) (by show 2 ≤ 400; decide)
        have gp := GNs.app gp (.cons (g23.mono (by decide) (by decide)) .nil)
        refine ⟨(by show 2 ≤ sizeLine; decide), fun p610 n610 => ?_⟩
        have s610 := same_upd (o := .tup [.str ("layer" : String), .bl true]) n610
        have e610 := upd_same (H := H_609) (a := p610) (o := .tup [.str ("layer" : String), .bl true])
        refine (fun (G : ∀ H_610 : Hp, Same H_609 H_610 → H_610 p610 = some (.tup [.str ("layer" : String), .bl true]) → _) => G _ s610 e610) (fun H_610 s610 e610 => ?_)
        have gS := gS.same s610
        have gH := gH.same s610
        have gp := gp.same s610
        have hS := s610 _ _ hS
        have hH := s610 _ _ hH
        have sA := sA.trans s610
        have g24 : GN K H_610 427 1 (.ref p610) := gn_tup (L := 210) (n := 0) (SqT.of e610) (GNs.cons (gn_s "layer") (GNs.cons (gn_bool true) (GNs.nil))) (by show 2 * (210 + 2) + 3 ≤ 427; decide)
        have gp := GNs.app gp (.cons (g24.mono (by decide) (by decide)) .nil)
        refine ⟨(by show 2 ≤ sizeLine; decide), fun p611 n611 => ?_⟩
        have s611 := same_upd (o := .tup [.str ("layer" : String), .int 0]) n611
        have e611 := upd_same (H := H_610) (a := p611) (o := .tup [.str ("layer" : String), .int 0])
        refine (fun (G : ∀ H_611 : Hp, Same H_610 H_611 → H_611 p611 = some (.tup [.str ("layer" : String), .int 0]) → _) => G _ s611 e611) (fun H_611 s611 e611 => ?_)
        have gS := gS.same s611
        have gH := gH.same s611
        have gp := gp.same s611
        have hS := s611 _ _ hS
        have hH := s611 _ _ hH
        have sA := sA.trans s611
        have g25 : GN K H_611 427 1 (.ref p611) := gn_tup (L := 210) (n := 0) (SqT.of e611) (GNs.cons (gn_s "layer") (GNs.cons (gn_int (i := 0) (by decide)) (GNs.nil))) (by show 2 * (210 + 2) + 3 ≤ 427; decide)
        have gp := GNs.app gp (.cons (g25.mono (by decide) (by decide)) .nil)
        refine ⟨(by show 6 ≤ sizeLine; decide), fun p612 n612 => ?_⟩
        have s612 := same_upd (o := .lst [.non, .ref p607, .ref p608, .ref p609, .ref p610, .ref p611]) n612
        have e612 := upd_same (H := H_611) (a := p612) (o := .lst [.non, .ref p607, .ref p608, .ref p609, .ref p610, .ref p611])
        refine (fun (G : ∀ H_612 : Hp, Same H_611 H_612 → H_612 p612 = some (.lst [.non, .ref p607, .ref p608, .ref p609, .ref p610, .ref p611]) → _) => G _ s612 e612) (fun H_612 s612 e612 => ?_)
        have gS := gS.same s612
        have gH := gH.same s612
        have gp := gp.same s612
        have hS := s612 _ _ hS
        have hH := s612 _ _ hH
        have sA := sA.trans s612
        obtain ⟨hs2, hH2, gH2, hhl2⟩ : ∃ xs, H_612 p612 = some (.lst xs) ∧ GNs K H_612 3600 2 xs ∧ xs.length = 6 := ⟨_, e612, gp, rfl⟩
        have sA0 := sA
        have hS_ := hS
        refine ⟨p606, p612, _, _, rfl, rfl, hH, hH2, (by rw [hhl, hhl2, sizeLine_eq]; omega), fun p613 n613 => ?_⟩
        have s613 := same_upd (o := .lst (hs1 ++ hs2)) n613
        have e613 := upd_same (H := H_612) (a := p613) (o := .lst (hs1 ++ hs2))
        refine (fun (G : ∀ H_613 : Hp, Same H_612 H_613 → H_613 p613 = some (.lst (hs1 ++ hs2)) → _) => G _ s613 e613) (fun H_613 s613 e613 => ?_)
        have gS := gS.same (same_wo (S := [p613]) s613 (fun X hX => by rw [List.mem_singleton.mp hX]; exact n613))
        have gH := gH.same (same_wo (S := [p613]) s613 (fun X hX => by rw [List.mem_singleton.mp hX]; exact n613))
        have gH2 := gH2.same (same_wo (S := [p613]) s613 (fun X hX => by rw [List.mem_singleton.mp hX]; exact n613))
        have hS := s613 _ _ hS
        have sA := sA.trans s613
        have SD : S ≠ p613 := ne_of_none hS_ n613
        obtain ⟨hs, hH, gH, hhl⟩ : ∃ xs, H_613 p613 = some (.lst xs) ∧ GNs K (wo [p613] H_613) 3600 2 xs ∧ xs.length = 13 := ⟨_, e613, GNs.app gH gH2, by rw [List.length_append, hhl, hhl2]⟩
        have nD0 : H p613 = none := sfree sA0 n613
        dsimp only [gName]
        rw [show List.set ([some (V.int n), some (V.ref S), y2, y3, some (V.ref p606), none, none] : List (Option V)) 4 (some (V.ref p613)) = [some (V.int n), some (V.ref S), y2, y3, some (V.ref p613), none, none] from rfl]
        refine ⟨_, rfl, .inl ⟨rfl, _, SqL.of hH⟩, (by show 2 ≤ sizeLine; decide), fun p614 n614 => ?_⟩
        have s614 := same_upd (o := .tup [.str ("code" : String), .str ("b" : String)]) n614
        have e614 := upd_same (H := H_613) (a := p614) (o := .tup [.str ("code" : String), .str ("b" : String)])
        refine (fun (G : ∀ H_614 : Hp, Same H_613 H_614 → H_614 p614 = some (.tup [.str ("code" : String), .str ("b" : String)]) → _) => G _ s614 e614) (fun H_614 s614 e614 => ?_)
        have w614 := wo_at (S := [p613]) e614 (fun X hX => by rw [List.mem_singleton.mp hX]; exact (ne_of_none hH n614).symm)
        have gS := gS.same (wo_same (S := [p613]) s614)
        have gH := gH.same (wo_same (S := [p613]) s614)
        have hS := s614 _ _ hS
        have hH := s614 _ _ hH
        have sA := sA.trans s614
        have g26 : GN K (wo [p613] H_614) 427 1 (.ref p614) := gn_tup (L := 210) (n := 0) (SqT.of w614) (GNs.cons (gn_s "code") (GNs.cons (gn_s "b") (GNs.nil))) (by show 2 * (210 + 2) + 3 ≤ 427; decide)
        refine ⟨(by show 5 ≤ sizeLine; decide), fun p615 n615 => ?_⟩
        have s615 := same_upd (o := .tup [.str ("dual" : String), .str ("a" : String), .ref p614, .int 1, .str ("time" : String)]) n615
        have e615 := upd_same (H := H_614) (a := p615) (o := .tup [.str ("dual" : String), .str ("a" : String), .ref p614, .int 1, .str ("time" : String)])
        refine (fun (G : ∀ H_615 : Hp, Same H_614 H_615 → H_615 p615 = some (.tup [.str ("dual" : String), .str ("a" : String), .ref p614, .int 1, .str ("time" : String)]) → _) => G _ s615 e615) (fun H_615 s615 e615 => ?_)
        have w615 := wo_at (S := [p613]) e615 (fun X hX => by rw [List.mem_singleton.mp hX]; exact (ne_of_none hH n615).symm)
        have gS := gS.same (wo_same (S := [p613]) s615)
        have gH := gH.same (wo_same (S := [p613]) s615)
        have g26 := g26.same (wo_same (S := [p613]) s615)
        have hS := s615 _ _ hS
        have hH := s615 _ _ hH
        have sA := sA.trans s615
        have g27 : GN K (wo [p613] H_615) 2148 2 (.ref p615) := gn_tup (L := 427) (n := 1) (SqT.of w615) (GNs.cons ((gn_s "dual").mono (by decide) (by decide)) (GNs.cons ((gn_s "a").mono (by decide) (by decide)) (GNs.cons g26 (GNs.cons ((gn_int (i := 1) (by decide)).mono (by decide) (by decide)) (GNs.cons ((gn_s "time").mono (by decide) (by decide)) (GNs.nil)))))) (by show 5 * (427 + 2) + 3 ≤ 2148; decide)
        refine ⟨p613, _, _, rfl, rfl, hH, by rw [hhl, sizeLine_eq]; omega, ?_⟩
        have f1 : Same H (upd H_615 p613 (.lst (hs ++ [.ref p615]))) := Same.off sA nD0 off_upd
        have f2 : upd H_615 p613 (.lst (hs ++ [.ref p615])) p613 = some (.lst (hs ++ [.ref p615])) := upd_same
        have f3 : upd H_615 p613 (.lst (hs ++ [.ref p615])) S = some (.lst xs) := by rw [upd_ne SD]; exact hS
        have f4 : GIs K (upd H_615 p613 (.lst (hs ++ [.ref p615]))) xs := (gS.same (wo_upd (S := [p613]) (by simp))).same wo_all
        have f5 : GNs K (upd H_615 p613 (.lst (hs ++ [.ref p615]))) 3600 2 (hs ++ [.ref p615]) := ((GNs.app gH (.cons (g27.mono (by decide) (by decide)) .nil)).same (wo_upd (S := [p613]) (by simp))).same wo_all
        refine (fun (G : ∀ HE : Hp, Same H HE → HE p613 = some (.lst (hs ++ [.ref p615])) → HE S = some (.lst xs) → GIs K HE xs → GNs K HE 3600 2 (hs ++ [.ref p615]) → _) => G _ f1 f2 f3 f4 f5) (fun HE sA hH hS gS gH => ?_)
        obtain ⟨hs, hH, gH, hhl⟩ : ∃ xs, HE p613 = some (.lst xs) ∧ GNs K HE 3600 2 xs ∧ xs.length = 14 := ⟨_, hH, gH, by rw [List.length_append, hhl]; rfl⟩
        refine ⟨_, rfl, _, rfl, p613, rfl, ⟨_, SqL.of hH⟩, fun M nM => lc_it (walk_list (xs := hs)) (fun i H' => Same HE H' ∧ ∃ ws, H' M = some (.lst ws) ∧ GIs K (wo [M] H') ws ∧ ws.length = i) ⟨same_upd nM, [], upd_same, GIs.nil, rfl⟩ (fun i H' _ p => SqL.of (p.1 _ _ hH)) (fun i x HF HG hi p y => ?_) (fun HF p => ?_)⟩
        · obtain ⟨sc, ws, hM, gw, hwl2⟩ := p
          obtain ⟨rfl, hx⟩ := y
          have gx := (gH x (List.mem_of_getElem? hx)).same (same_wo (S := [M]) sc (fun X hX => by rw [List.mem_singleton.mp hX]; exact nM))
          have sA := sc
          refine ⟨rfl, ?_⟩
          refine ⟨_, rfl, (by show 5 ≤ sizeLine; decide), fun p751 n751 => ?_⟩
          have s751 := same_upd (o := .tup [.str ("dual" : String), .str ("a" : String), x, .int 3, .str ("time" : String)]) n751
          have e751 := upd_same (H := HG) (a := p751) (o := .tup [.str ("dual" : String), .str ("a" : String), x, .int 3, .str ("time" : String)])
          refine (fun (G : ∀ H_751 : Hp, Same HG H_751 → H_751 p751 = some (.tup [.str ("dual" : String), .str ("a" : String), x, .int 3, .str ("time" : String)]) → _) => G _ s751 e751) (fun H_751 s751 e751 => ?_)
          have w751 := wo_at (S := [M]) e751 (fun X hX => by rw [List.mem_singleton.mp hX]; exact (ne_of_none hM n751).symm)
          have gw := gw.same (wo_same (S := [M]) s751)
          have gx := gx.same (wo_same (S := [M]) s751)
          have hM := s751 _ _ hM
          have sA := sA.trans s751
          have g28 : GN K (wo [M] H_751) 18013 3 (.ref p751) := gn_tup (L := 3600) (n := 2) (SqT.of w751) (GNs.cons ((gn_s "dual").mono (by decide) (by decide)) (GNs.cons ((gn_s "a").mono (by decide) (by decide)) (GNs.cons gx (GNs.cons ((gn_int (i := 3) (by decide)).mono (by decide) (by decide)) (GNs.cons ((gn_s "time").mono (by decide) (by decide)) (GNs.nil)))))) (by show 5 * (3600 + 2) + 3 ≤ 18013; decide)
          exact ⟨_, hM, by rw [hwl2, sizeLine_eq]; omega, Same.off sA nM off_upd, ws ++ [.ref p751], upd_same, GIs.app (gw.same (wo_upd (by simp))) (.cons ((g28.gi (by decide) (by decide)).same (wo_upd (by simp))) .nil), by rw [List.length_append, hwl2]; rfl⟩
        · obtain ⟨sc, ws, hM, gw, hwl2⟩ := p
          have gw := gw.same wo_all
          have gS := gS.same sc
          have sA := sA.trans sc
          have hS := sc _ _ hS
          have hH := sc _ _ hH
          rw [hhl] at hwl2
          refine ⟨S, M, _, _, rfl, rfl, hS, hM, (by rw [hxl, hwl2, sizeLine_eq]; omega), fun p801 n801 => ?_⟩
          have s801 := same_upd (o := .lst (xs ++ ws)) n801
          have e801 := upd_same (H := HF) (a := p801) (o := .lst (xs ++ ws))
          refine (fun (G : ∀ H_801 : Hp, Same HF H_801 → H_801 p801 = some (.lst (xs ++ ws)) → _) => G _ s801 e801) (fun H_801 s801 e801 => ?_)
          have gS := gS.same s801
          have gw := gw.same s801
          have hS := s801 _ _ hS
          have hH := s801 _ _ hH
          have sA := sA.trans s801
          obtain ⟨xs, hS, gS, hxl⟩ : ∃ xs, H_801 p801 = some (.lst xs) ∧ GIs K H_801 xs ∧ xs.length = 88 := ⟨_, e801, GIs.app gS gw, by rw [List.length_append, hxl, hwl2]⟩
          dsimp only [gName]
          rw [show List.set ([some (V.int n), some (V.ref S), y2, y3, some (V.ref p613), none, none] : List (Option V)) 1 (some (V.ref p801)) = [some (V.int n), some (V.ref p801), y2, y3, some (V.ref p613), none, none] from rfl]
          have gp : GNs K H_801 210 0 [] := GNs.nil
          have gp := GNs.app gp (.cons ((gn_int (i := 0) (by decide)).mono (by decide) (by decide)) .nil)
          have gp := GNs.app gp (.cons ((gn_int (i := 1) (by decide)).mono (by decide) (by decide)) .nil)
          have gp := GNs.app gp (.cons ((gn_int (i := 10 ^ Int.toNat 9) (by decide +kernel)).mono (by decide) (by decide)) .nil)
          have gp := GNs.app gp (.cons ((gn_int (i := 10 ^ Int.toNat 9 + 1) (by decide +kernel)).mono (by decide) (by decide)) .nil)
          have gp := GNs.app gp (.cons ((gn_int (i := -1) (by decide)).mono (by decide) (by decide)) .nil)
          have gp := GNs.app gp (.cons ((gn_bool true).mono (by decide) (by decide)) .nil)
          have gp := GNs.app gp (.cons ((gn_s "3").mono (by decide) (by decide)) .nil)
          have gp := GNs.app gp (.cons (gn_none.mono (by decide) (by decide)) .nil)
          refine ⟨_, _, rfl, rfl, powW (n := 40) (k := 9) (by decide) (by decide), _, _, rfl, rfl, powW (n := 40) (k := 9) (by decide) (by decide), _, _, rfl, rfl, 1, rfl, (by show 8 ≤ sizeLine; decide), fun p802 n802 => ?_⟩
          have s802 := same_upd (o := .lst [.int 0, .int 1, .int (10 ^ Int.toNat 9), .int (10 ^ Int.toNat 9 + 1), .int (-1), .bl true, .str ("3" : String), .non]) n802
          have e802 := upd_same (H := H_801) (a := p802) (o := .lst [.int 0, .int 1, .int (10 ^ Int.toNat 9), .int (10 ^ Int.toNat 9 + 1), .int (-1), .bl true, .str ("3" : String), .non])
          refine (fun (G : ∀ H_802 : Hp, Same H_801 H_802 → H_802 p802 = some (.lst [.int 0, .int 1, .int (10 ^ Int.toNat 9), .int (10 ^ Int.toNat 9 + 1), .int (-1), .bl true, .str ("3" : String), .non]) → _) => G _ s802 e802) (fun H_802 s802 e802 => ?_)
          have gS := gS.same s802
          have gp := gp.same s802
          have hS := s802 _ _ hS
          have sA := sA.trans s802
          obtain ⟨ods, hO, gO, hol⟩ : ∃ xs, H_802 p802 = some (.lst xs) ∧ GNs K H_802 210 0 xs ∧ xs.length = 8 := ⟨_, e802, gp, rfl⟩
          dsimp only [gName]
          rw [show List.set ([some (V.int n), some (V.ref p801), y2, y3, some (V.ref p613), none, none] : List (Option V)) 5 (some (V.ref p802)) = [some (V.int n), some (V.ref p801), y2, y3, some (V.ref p613), some (V.ref p802), none] from rfl]
          refine ⟨_, rfl, _, rfl, p802, rfl, ⟨_, SqL.of hO⟩, fun M nM => lc_it (walk_list (xs := ods)) (fun i H' => Same H_802 H' ∧ ∃ ws, H' M = some (.lst ws) ∧ GIs K (wo [M] H') ws ∧ ws.length = i) ⟨same_upd nM, [], upd_same, GIs.nil, rfl⟩ (fun i H' _ p => SqL.of (p.1 _ _ hO)) (fun i x HF HG hi p y => ?_) (fun HF p => ?_)⟩
          · obtain ⟨sc, ws, hM, gw, hwl2⟩ := p
            obtain ⟨rfl, hx⟩ := y
            have gx := (gO x (List.mem_of_getElem? hx)).same (same_wo (S := [M]) sc (fun X hX => by rw [List.mem_singleton.mp hX]; exact nM))
            have sA := sc
            refine ⟨rfl, ?_⟩
            refine ⟨(by show 2 ≤ sizeLine; decide), fun p853 n853 => ?_⟩
            have s853 := same_upd (o := .tup [.str ("code" : String), .str ("b" : String)]) n853
            have e853 := upd_same (H := HG) (a := p853) (o := .tup [.str ("code" : String), .str ("b" : String)])
            refine (fun (G : ∀ H_853 : Hp, Same HG H_853 → H_853 p853 = some (.tup [.str ("code" : String), .str ("b" : String)]) → _) => G _ s853 e853) (fun H_853 s853 e853 => ?_)
            have w853 := wo_at (S := [M]) e853 (fun X hX => by rw [List.mem_singleton.mp hX]; exact (ne_of_none hM n853).symm)
            have gw := gw.same (wo_same (S := [M]) s853)
            have gx := gx.same (wo_same (S := [M]) s853)
            have hM := s853 _ _ hM
            have sA := sA.trans s853
            have g29 : GN K (wo [M] H_853) 427 1 (.ref p853) := gn_tup (L := 210) (n := 0) (SqT.of w853) (GNs.cons (gn_s "code") (GNs.cons (gn_s "b") (GNs.nil))) (by show 2 * (210 + 2) + 3 ≤ 427; decide)
            refine ⟨_, rfl, (by show 5 ≤ sizeLine; decide), fun p854 n854 => ?_⟩
            have s854 := same_upd (o := .tup [.str ("dual" : String), .str ("a" : String), .ref p853, x, .str ("other" : String)]) n854
            have e854 := upd_same (H := H_853) (a := p854) (o := .tup [.str ("dual" : String), .str ("a" : String), .ref p853, x, .str ("other" : String)])
            refine (fun (G : ∀ H_854 : Hp, Same H_853 H_854 → H_854 p854 = some (.tup [.str ("dual" : String), .str ("a" : String), .ref p853, x, .str ("other" : String)]) → _) => G _ s854 e854) (fun H_854 s854 e854 => ?_)
            have w854 := wo_at (S := [M]) e854 (fun X hX => by rw [List.mem_singleton.mp hX]; exact (ne_of_none hM n854).symm)
            have gw := gw.same (wo_same (S := [M]) s854)
            have gx := gx.same (wo_same (S := [M]) s854)
            have g29 := g29.same (wo_same (S := [M]) s854)
            have hM := s854 _ _ hM
            have sA := sA.trans s854
            have g30 : GN K (wo [M] H_854) 2148 2 (.ref p854) := gn_tup (L := 427) (n := 1) (SqT.of w854) (GNs.cons ((gn_s "dual").mono (by decide) (by decide)) (GNs.cons ((gn_s "a").mono (by decide) (by decide)) (GNs.cons g29 (GNs.cons (gx.mono (by decide) (by decide)) (GNs.cons ((gn_s "other").mono (by decide) (by decide)) (GNs.nil)))))) (by show 5 * (427 + 2) + 3 ≤ 2148; decide)
            exact ⟨_, hM, by rw [hwl2, sizeLine_eq]; omega, Same.off sA nM off_upd, ws ++ [.ref p854], upd_same, GIs.app (gw.same (wo_upd (by simp))) (.cons ((g30.gi (by decide) (by decide)).same (wo_upd (by simp))) .nil), by rw [List.length_append, hwl2]; rfl⟩
          · obtain ⟨sc, ws, hM, gw, hwl2⟩ := p
            have gw := gw.same wo_all
            have gS := gS.same sc
            have sA := sA.trans sc
            have hS := sc _ _ hS
            rw [hol] at hwl2
            refine ⟨p801, M, _, _, rfl, rfl, hS, hM, (by rw [hxl, hwl2, sizeLine_eq]; omega), fun p903 n903 => ?_⟩
            have s903 := same_upd (o := .lst (xs ++ ws)) n903
            have e903 := upd_same (H := HF) (a := p903) (o := .lst (xs ++ ws))
            refine (fun (G : ∀ H_903 : Hp, Same HF H_903 → H_903 p903 = some (.lst (xs ++ ws)) → _) => G _ s903 e903) (fun H_903 s903 e903 => ?_)
            have gS := gS.same s903
            have gw := gw.same s903
            have hS := s903 _ _ hS
            have sA := sA.trans s903
            obtain ⟨xs, hS, gS, hxl⟩ : ∃ xs, H_903 p903 = some (.lst xs) ∧ GIs K H_903 xs ∧ xs.length = 96 := ⟨_, e903, GIs.app gS gw, by rw [List.length_append, hxl, hwl2]⟩
            dsimp only [gName]
            rw [show List.set ([some (V.int n), some (V.ref p801), y2, y3, some (V.ref p613), some (V.ref p802), none] : List (Option V)) 1 (some (V.ref p903)) = [some (V.int n), some (V.ref p903), y2, y3, some (V.ref p613), some (V.ref p802), none] from rfl]
            have gp : GNs K H_903 700 1 [] := GNs.nil
            have gp := GNs.app gp (.cons ((gn_s "time").mono (by decide) (by decide)) .nil)
            have gp := GNs.app gp (.cons ((gn_s "other").mono (by decide) (by decide)) .nil)
            have gp := GNs.app gp (.cons ((gn_s "within").mono (by decide) (by decide)) .nil)
            have gp := GNs.app gp (.cons ((gn_s "Time").mono (by decide) (by decide)) .nil)
            have gp := GNs.app gp (.cons ((gn_s "").mono (by decide) (by decide)) .nil)
            have gp := GNs.app gp (.cons (gn_none.mono (by decide) (by decide)) .nil)
            have gp := GNs.app gp (.cons ((gn_int (i := 0) (by decide)).mono (by decide) (by decide)) .nil)
            refine ⟨(by show 1 ≤ sizeLine; decide), fun p904 n904 => ?_⟩
            have s904 := same_upd (o := .lst [.str ("time" : String)]) n904
            have e904 := upd_same (H := H_903) (a := p904) (o := .lst [.str ("time" : String)])
            refine (fun (G : ∀ H_904 : Hp, Same H_903 H_904 → H_904 p904 = some (.lst [.str ("time" : String)]) → _) => G _ s904 e904) (fun H_904 s904 e904 => ?_)
            have gS := gS.same s904
            have gp := gp.same s904
            have hS := s904 _ _ hS
            have sA := sA.trans s904
            have g31 : GN K H_904 215 1 (.ref p904) := gn_lst (L := 210) (n := 0) (SqL.of e904) (GNs.cons (gn_s "time") (GNs.nil)) (by show 1 * (210 + 2) + 3 ≤ 215; decide) (by show 1 ≤ 400; decide)
            have gp := GNs.app gp (.cons (g31.mono (by decide) (by decide)) .nil)
            refine ⟨(by show 1 ≤ sizeLine; decide), fun p905 n905 => ?_⟩
            have s905 := same_upd (o := .tup [.str ("time" : String)]) n905
            have e905 := upd_same (H := H_904) (a := p905) (o := .tup [.str ("time" : String)])
            refine (fun (G : ∀ H_905 : Hp, Same H_904 H_905 → H_905 p905 = some (.tup [.str ("time" : String)]) → _) => G _ s905 e905) (fun H_905 s905 e905 => ?_)
            have gS := gS.same s905
            have gp := gp.same s905
            have hS := s905 _ _ hS
            have sA := sA.trans s905
            have g32 : GN K H_905 215 1 (.ref p905) := gn_tup (L := 210) (n := 0) (SqT.of e905) (GNs.cons (gn_s "time") (GNs.nil)) (by show 1 * (210 + 2) + 3 ≤ 215; decide)
            have gp := GNs.app gp (.cons (g32.mono (by decide) (by decide)) .nil)
            have gp := GNs.app gp (.cons ((gn_s "tap").mono (by decide) (by decide)) .nil)
            refine ⟨(by show 10 ≤ sizeLine; decide), fun p906 n906 => ?_⟩
            have s906 := same_upd (o := .lst [.str ("time" : String), .str ("other" : String), .str ("within" : String), .str ("Time" : String), .str ("" : String), .non, .int 0, .ref p904, .ref p905, .str ("tap" : String)]) n906
            have e906 := upd_same (H := H_905) (a := p906) (o := .lst [.str ("time" : String), .str ("other" : String), .str ("within" : String), .str ("Time" : String), .str ("" : String), .non, .int 0, .ref p904, .ref p905, .str ("tap" : String)])
            refine (fun (G : ∀ H_906 : Hp, Same H_905 H_906 → H_906 p906 = some (.lst [.str ("time" : String), .str ("other" : String), .str ("within" : String), .str ("Time" : String), .str ("" : String), .non, .int 0, .ref p904, .ref p905, .str ("tap" : String)]) → _) => G _ s906 e906) (fun H_906 s906 e906 => ?_)
            have gS := gS.same s906
            have gp := gp.same s906
            have hS := s906 _ _ hS
            have sA := sA.trans s906
            obtain ⟨ods, hO, gO, hol⟩ : ∃ xs, H_906 p906 = some (.lst xs) ∧ GNs K H_906 700 1 xs ∧ xs.length = 10 := ⟨_, e906, gp, rfl⟩
            dsimp only [gName]
            rw [show List.set ([some (V.int n), some (V.ref p903), y2, y3, some (V.ref p613), some (V.ref p802), none] : List (Option V)) 6 (some (V.ref p906)) = [some (V.int n), some (V.ref p903), y2, y3, some (V.ref p613), some (V.ref p802), some (V.ref p906)] from rfl]
            refine ⟨_, rfl, _, rfl, p906, rfl, ⟨_, SqL.of hO⟩, fun M nM => lc_it (walk_list (xs := ods)) (fun i H' => Same H_906 H' ∧ ∃ ws, H' M = some (.lst ws) ∧ GIs K (wo [M] H') ws ∧ ws.length = i) ⟨same_upd nM, [], upd_same, GIs.nil, rfl⟩ (fun i H' _ p => SqL.of (p.1 _ _ hO)) (fun i x HF HG hi p y => ?_) (fun HF p => ?_)⟩
            · obtain ⟨sc, ws, hM, gw, hwl2⟩ := p
              obtain ⟨rfl, hx⟩ := y
              have gx := (gO x (List.mem_of_getElem? hx)).same (same_wo (S := [M]) sc (fun X hX => by rw [List.mem_singleton.mp hX]; exact nM))
              have sA := sc
              refine ⟨rfl, ?_⟩
              refine ⟨(by show 2 ≤ sizeLine; decide), fun p957 n957 => ?_⟩
              have s957 := same_upd (o := .tup [.str ("code" : String), .str ("b" : String)]) n957
              have e957 := upd_same (H := HG) (a := p957) (o := .tup [.str ("code" : String), .str ("b" : String)])
              refine (fun (G : ∀ H_957 : Hp, Same HG H_957 → H_957 p957 = some (.tup [.str ("code" : String), .str ("b" : String)]) → _) => G _ s957 e957) (fun H_957 s957 e957 => ?_)
              have w957 := wo_at (S := [M]) e957 (fun X hX => by rw [List.mem_singleton.mp hX]; exact (ne_of_none hM n957).symm)
              have gw := gw.same (wo_same (S := [M]) s957)
              have gx := gx.same (wo_same (S := [M]) s957)
              have hM := s957 _ _ hM
              have sA := sA.trans s957
              have g33 : GN K (wo [M] H_957) 427 1 (.ref p957) := gn_tup (L := 210) (n := 0) (SqT.of w957) (GNs.cons (gn_s "code") (GNs.cons (gn_s "b") (GNs.nil))) (by show 2 * (210 + 2) + 3 ≤ 427; decide)
              refine ⟨_, rfl, (by show 5 ≤ sizeLine; decide), fun p958 n958 => ?_⟩
              have s958 := same_upd (o := .tup [.str ("dual" : String), .str ("a" : String), .ref p957, .int 3, x]) n958
              have e958 := upd_same (H := H_957) (a := p958) (o := .tup [.str ("dual" : String), .str ("a" : String), .ref p957, .int 3, x])
              refine (fun (G : ∀ H_958 : Hp, Same H_957 H_958 → H_958 p958 = some (.tup [.str ("dual" : String), .str ("a" : String), .ref p957, .int 3, x]) → _) => G _ s958 e958) (fun H_958 s958 e958 => ?_)
              have w958 := wo_at (S := [M]) e958 (fun X hX => by rw [List.mem_singleton.mp hX]; exact (ne_of_none hM n958).symm)
              have gw := gw.same (wo_same (S := [M]) s958)
              have gx := gx.same (wo_same (S := [M]) s958)
              have g33 := g33.same (wo_same (S := [M]) s958)
              have hM := s958 _ _ hM
              have sA := sA.trans s958
              have g34 : GN K (wo [M] H_958) 3513 2 (.ref p958) := gn_tup (L := 700) (n := 1) (SqT.of w958) (GNs.cons ((gn_s "dual").mono (by decide) (by decide)) (GNs.cons ((gn_s "a").mono (by decide) (by decide)) (GNs.cons (g33.mono (by decide) (by decide)) (GNs.cons ((gn_int (i := 3) (by decide)).mono (by decide) (by decide)) (GNs.cons gx (GNs.nil)))))) (by show 5 * (700 + 2) + 3 ≤ 3513; decide)
              exact ⟨_, hM, by rw [hwl2, sizeLine_eq]; omega, Same.off sA nM off_upd, ws ++ [.ref p958], upd_same, GIs.app (gw.same (wo_upd (by simp))) (.cons ((g34.gi (by decide) (by decide)).same (wo_upd (by simp))) .nil), by rw [List.length_append, hwl2]; rfl⟩
            · obtain ⟨sc, ws, hM, gw, hwl2⟩ := p
              have gw := gw.same wo_all
              have gS := gS.same sc
              have sA := sA.trans sc
              have hS := sc _ _ hS
              rw [hol] at hwl2
              refine ⟨p903, M, _, _, rfl, rfl, hS, hM, (by rw [hxl, hwl2, sizeLine_eq]; omega), fun p1007 n1007 => ?_⟩
              have s1007 := same_upd (o := .lst (xs ++ ws)) n1007
              have e1007 := upd_same (H := HF) (a := p1007) (o := .lst (xs ++ ws))
              refine (fun (G : ∀ H_1007 : Hp, Same HF H_1007 → H_1007 p1007 = some (.lst (xs ++ ws)) → _) => G _ s1007 e1007) (fun H_1007 s1007 e1007 => ?_)
              have gS := gS.same s1007
              have gw := gw.same s1007
              have hS := s1007 _ _ hS
              have sA := sA.trans s1007
              obtain ⟨xs, hS, gS, hxl⟩ : ∃ xs, H_1007 p1007 = some (.lst xs) ∧ GIs K H_1007 xs ∧ xs.length = 106 := ⟨_, e1007, GIs.app gS gw, by rw [List.length_append, hxl, hwl2]⟩
              dsimp only [gName]
              rw [show List.set ([some (V.int n), some (V.ref p903), y2, y3, some (V.ref p613), some (V.ref p802), some (V.ref p906)] : List (Option V)) 1 (some (V.ref p1007)) = [some (V.int n), some (V.ref p1007), y2, y3, some (V.ref p613), some (V.ref p802), some (V.ref p906)] from rfl]
              have gp : GNs K H_1007 700 1 [] := GNs.nil
              have gp := GNs.app gp (.cons ((gn_s "").mono (by decide) (by decide)) .nil)
              have gp := GNs.app gp (.cons ((gn_s "A").mono (by decide) (by decide)) .nil)
              have gp := GNs.app gp (.cons (gn_none.mono (by decide) (by decide)) .nil)
              have gp := GNs.app gp (.cons ((gn_int (i := 5) (by decide)).mono (by decide) (by decide)) .nil)
              have gp := GNs.app gp (.cons ((gn_s "aaaaaaaaa").mono (by decide) (by decide)) .nil)
              refine ⟨_, rfl, (by show 1 ≤ sizeLine; decide), fun p1008 n1008 => ?_⟩
              have s1008 := same_upd (o := .tup [.str ("a" : String)]) n1008
              have e1008 := upd_same (H := H_1007) (a := p1008) (o := .tup [.str ("a" : String)])
              refine (fun (G : ∀ H_1008 : Hp, Same H_1007 H_1008 → H_1008 p1008 = some (.tup [.str ("a" : String)]) → _) => G _ s1008 e1008) (fun H_1008 s1008 e1008 => ?_)
              have gS := gS.same s1008
              have gp := gp.same s1008
              have hS := s1008 _ _ hS
              have sA := sA.trans s1008
              have g35 : GN K H_1008 215 1 (.ref p1008) := gn_tup (L := 210) (n := 0) (SqT.of e1008) (GNs.cons (gn_s "a") (GNs.nil)) (by show 1 * (210 + 2) + 3 ≤ 215; decide)
              have gp := GNs.app gp (.cons (g35.mono (by decide) (by decide)) .nil)
              refine ⟨(by show 6 ≤ sizeLine; decide), fun p1009 n1009 => ?_⟩
              have s1009 := same_upd (o := .lst [.str ("" : String), .str ("A" : String), .non, .int 5, .str ("aaaaaaaaa" : String), .ref p1008]) n1009
              have e1009 := upd_same (H := H_1008) (a := p1009) (o := .lst [.str ("" : String), .str ("A" : String), .non, .int 5, .str ("aaaaaaaaa" : String), .ref p1008])
              refine (fun (G : ∀ H_1009 : Hp, Same H_1008 H_1009 → H_1009 p1009 = some (.lst [.str ("" : String), .str ("A" : String), .non, .int 5, .str ("aaaaaaaaa" : String), .ref p1008]) → _) => G _ s1009 e1009) (fun H_1009 s1009 e1009 => ?_)
              have gS := gS.same s1009
              have gp := gp.same s1009
              have hS := s1009 _ _ hS
              have sA := sA.trans s1009
              obtain ⟨ods, hO, gO, hol⟩ : ∃ xs, H_1009 p1009 = some (.lst xs) ∧ GNs K H_1009 700 1 xs ∧ xs.length = 6 := ⟨_, e1009, gp, rfl⟩
              refine ⟨p1009, rfl, ⟨_, SqL.of hO⟩, fun M nM => lc_it (walk_list (xs := ods)) (fun i H' => Same H_1009 H' ∧ ∃ ws, H' M = some (.lst ws) ∧ GIs K (wo [M] H') ws ∧ ws.length = i) ⟨same_upd nM, [], upd_same, GIs.nil, rfl⟩ (fun i H' _ p => SqL.of (p.1 _ _ hO)) (fun i x HF HG hi p y => ?_) (fun HF p => ?_)⟩
              · obtain ⟨sc, ws, hM, gw, hwl2⟩ := p
                obtain ⟨rfl, hx⟩ := y
                have gx := (gO x (List.mem_of_getElem? hx)).same (same_wo (S := [M]) sc (fun X hX => by rw [List.mem_singleton.mp hX]; exact nM))
                have sA := sc
                refine ⟨rfl, ?_⟩
                refine ⟨_, rfl, (by show 2 ≤ sizeLine; decide), fun p1060 n1060 => ?_⟩
                have s1060 := same_upd (o := .tup [.str ("code" : String), .str ("b" : String)]) n1060
                have e1060 := upd_same (H := HG) (a := p1060) (o := .tup [.str ("code" : String), .str ("b" : String)])
                refine (fun (G : ∀ H_1060 : Hp, Same HG H_1060 → H_1060 p1060 = some (.tup [.str ("code" : String), .str ("b" : String)]) → _) => G _ s1060 e1060) (fun H_1060 s1060 e1060 => ?_)
                have w1060 := wo_at (S := [M]) e1060 (fun X hX => by rw [List.mem_singleton.mp hX]; exact (ne_of_none hM n1060).symm)
                have gw := gw.same (wo_same (S := [M]) s1060)
                have gx := gx.same (wo_same (S := [M]) s1060)
                have hM := s1060 _ _ hM
                have sA := sA.trans s1060
                have g36 : GN K (wo [M] H_1060) 427 1 (.ref p1060) := gn_tup (L := 210) (n := 0) (SqT.of w1060) (GNs.cons (gn_s "code") (GNs.cons (gn_s "b") (GNs.nil))) (by show 2 * (210 + 2) + 3 ≤ 427; decide)
                refine ⟨(by show 5 ≤ sizeLine; decide), fun p1061 n1061 => ?_⟩
                have s1061 := same_upd (o := .tup [.str ("dual" : String), x, .ref p1060, .int 3, .str ("time" : String)]) n1061
                have e1061 := upd_same (H := H_1060) (a := p1061) (o := .tup [.str ("dual" : String), x, .ref p1060, .int 3, .str ("time" : String)])
                refine (fun (G : ∀ H_1061 : Hp, Same H_1060 H_1061 → H_1061 p1061 = some (.tup [.str ("dual" : String), x, .ref p1060, .int 3, .str ("time" : String)]) → _) => G _ s1061 e1061) (fun H_1061 s1061 e1061 => ?_)
                have w1061 := wo_at (S := [M]) e1061 (fun X hX => by rw [List.mem_singleton.mp hX]; exact (ne_of_none hM n1061).symm)
                have gw := gw.same (wo_same (S := [M]) s1061)
                have gx := gx.same (wo_same (S := [M]) s1061)
                have g36 := g36.same (wo_same (S := [M]) s1061)
                have hM := s1061 _ _ hM
                have sA := sA.trans s1061
                have g37 : GN K (wo [M] H_1061) 3513 2 (.ref p1061) := gn_tup (L := 700) (n := 1) (SqT.of w1061) (GNs.cons ((gn_s "dual").mono (by decide) (by decide)) (GNs.cons gx (GNs.cons (g36.mono (by decide) (by decide)) (GNs.cons ((gn_int (i := 3) (by decide)).mono (by decide) (by decide)) (GNs.cons ((gn_s "time").mono (by decide) (by decide)) (GNs.nil)))))) (by show 5 * (700 + 2) + 3 ≤ 3513; decide)
                exact ⟨_, hM, by rw [hwl2, sizeLine_eq]; omega, Same.off sA nM off_upd, ws ++ [.ref p1061], upd_same, GIs.app (gw.same (wo_upd (by simp))) (.cons ((g37.gi (by decide) (by decide)).same (wo_upd (by simp))) .nil), by rw [List.length_append, hwl2]; rfl⟩
              · obtain ⟨sc, ws, hM, gw, hwl2⟩ := p
                have gw := gw.same wo_all
                have gS := gS.same sc
                have sA := sA.trans sc
                have hS := sc _ _ hS
                rw [hol] at hwl2
                refine ⟨p1007, M, _, _, rfl, rfl, hS, hM, (by rw [hxl, hwl2, sizeLine_eq]; omega), fun p1110 n1110 => ?_⟩
                have s1110 := same_upd (o := .lst (xs ++ ws)) n1110
                have e1110 := upd_same (H := HF) (a := p1110) (o := .lst (xs ++ ws))
                refine (fun (G : ∀ H_1110 : Hp, Same HF H_1110 → H_1110 p1110 = some (.lst (xs ++ ws)) → _) => G _ s1110 e1110) (fun H_1110 s1110 e1110 => ?_)
                have gS := gS.same s1110
                have gw := gw.same s1110
                have hS := s1110 _ _ hS
                have sA := sA.trans s1110
                obtain ⟨xs, hS, gS, hxl⟩ : ∃ xs, H_1110 p1110 = some (.lst xs) ∧ GIs K H_1110 xs ∧ xs.length = 112 := ⟨_, e1110, GIs.app gS gw, by rw [List.length_append, hxl, hwl2]⟩
                dsimp only [gName]
                rw [show List.set ([some (V.int n), some (V.ref p1007), y2, y3, some (V.ref p613), some (V.ref p802), some (V.ref p906)] : List (Option V)) 1 (some (V.ref p1110)) = [some (V.int n), some (V.ref p1110), y2, y3, some (V.ref p613), some (V.ref p802), some (V.ref p906)] from rfl]
                have gi : GIs K H_1110 [] := GIs.nil
                refine ⟨_, rfl, (by show 2 ≤ sizeLine; decide), fun p1111 n1111 => ?_⟩
                have s1111 := same_upd (o := .tup [.str ("code" : String), .str ("b" : String)]) n1111
                have e1111 := upd_same (H := H_1110) (a := p1111) (o := .tup [.str ("code" : String), .str ("b" : String)])
                refine (fun (G : ∀ H_1111 : Hp, Same H_1110 H_1111 → H_1111 p1111 = some (.tup [.str ("code" : String), .str ("b" : String)]) → _) => G _ s1111 e1111) (fun H_1111 s1111 e1111 => ?_)
                have gS := gS.same s1111
                have gi := gi.same s1111
                have hS := s1111 _ _ hS
                have sA := sA.trans s1111
                have g38 : GN K H_1111 427 1 (.ref p1111) := gn_tup (L := 210) (n := 0) (SqT.of e1111) (GNs.cons (gn_s "code") (GNs.cons (gn_s "b") (GNs.nil))) (by show 2 * (210 + 2) + 3 ≤ 427; decide)
                refine ⟨(by show 4 ≤ sizeLine; decide), fun p1112 n1112 => ?_⟩
                have s1112 := same_upd (o := .tup [.str ("dual" : String), .str ("a" : String), .ref p1111, .int 3]) n1112
                have e1112 := upd_same (H := H_1111) (a := p1112) (o := .tup [.str ("dual" : String), .str ("a" : String), .ref p1111, .int 3])
                refine (fun (G : ∀ H_1112 : Hp, Same H_1111 H_1112 → H_1112 p1112 = some (.tup [.str ("dual" : String), .str ("a" : String), .ref p1111, .int 3]) → _) => G _ s1112 e1112) (fun H_1112 s1112 e1112 => ?_)
                have gS := gS.same s1112
                have gi := gi.same s1112
                have g38 := g38.same s1112
                have hS := s1112 _ _ hS
                have sA := sA.trans s1112
                have g39 : GN K H_1112 1719 2 (.ref p1112) := gn_tup (L := 427) (n := 1) (SqT.of e1112) (GNs.cons ((gn_s "dual").mono (by decide) (by decide)) (GNs.cons ((gn_s "a").mono (by decide) (by decide)) (GNs.cons g38 (GNs.cons ((gn_int (i := 3) (by decide)).mono (by decide) (by decide)) (GNs.nil))))) (by show 4 * (427 + 2) + 3 ≤ 1719; decide)
                have gi := GIs.app gi (.cons (g39.gi (by decide) (by decide)) .nil)
                refine ⟨(by show 2 ≤ sizeLine; decide), fun p1113 n1113 => ?_⟩
                have s1113 := same_upd (o := .tup [.str ("code" : String), .str ("b" : String)]) n1113
                have e1113 := upd_same (H := H_1112) (a := p1113) (o := .tup [.str ("code" : String), .str ("b" : String)])
                refine (fun (G : ∀ H_1113 : Hp, Same H_1112 H_1113 → H_1113 p1113 = some (.tup [.str ("code" : String), .str ("b" : String)]) → _) => G _ s1113 e1113) (fun H_1113 s1113 e1113 => ?_)
                have gS := gS.same s1113
                have gi := gi.same s1113
                have hS := s1113 _ _ hS
                have sA := sA.trans s1113
                have g40 : GN K H_1113 427 1 (.ref p1113) := gn_tup (L := 210) (n := 0) (SqT.of e1113) (GNs.cons (gn_s "code") (GNs.cons (gn_s "b") (GNs.nil))) (by show 2 * (210 + 2) + 3 ≤ 427; decide)
                refine ⟨(by show 6 ≤ sizeLine; decide), fun p1114 n1114 => ?_⟩
                have s1114 := same_upd (o := .tup [.str ("dual" : String), .str ("a" : String), .ref p1113, .int 3, .str ("time" : String), .int 0]) n1114
                have e1114 := upd_same (H := H_1113) (a := p1114) (o := .tup [.str ("dual" : String), .str ("a" : String), .ref p1113, .int 3, .str ("time" : String), .int 0])
                refine (fun (G : ∀ H_1114 : Hp, Same H_1113 H_1114 → H_1114 p1114 = some (.tup [.str ("dual" : String), .str ("a" : String), .ref p1113, .int 3, .str ("time" : String), .int 0]) → _) => G _ s1114 e1114) (fun H_1114 s1114 e1114 => ?_)
                have gS := gS.same s1114
                have gi := gi.same s1114
                have g40 := g40.same s1114
                have hS := s1114 _ _ hS
                have sA := sA.trans s1114
                have g41 : GN K H_1114 2577 2 (.ref p1114) := gn_tup (L := 427) (n := 1) (SqT.of e1114) (GNs.cons ((gn_s "dual").mono (by decide) (by decide)) (GNs.cons ((gn_s "a").mono (by decide) (by decide)) (GNs.cons g40 (GNs.cons ((gn_int (i := 3) (by decide)).mono (by decide) (by decide)) (GNs.cons ((gn_s "time").mono (by decide) (by decide)) (GNs.cons ((gn_int (i := 0) (by decide)).mono (by decide) (by decide)) (GNs.nil))))))) (by show 6 * (427 + 2) + 3 ≤ 2577; decide)
                have gi := GIs.app gi (.cons (g41.gi (by decide) (by decide)) .nil)
                refine ⟨(by show 1 ≤ sizeLine; decide), fun p1115 n1115 => ?_⟩
                have s1115 := same_upd (o := .tup [.str ("dual" : String)]) n1115
                have e1115 := upd_same (H := H_1114) (a := p1115) (o := .tup [.str ("dual" : String)])
                refine (fun (G : ∀ H_1115 : Hp, Same H_1114 H_1115 → H_1115 p1115 = some (.tup [.str ("dual" : String)]) → _) => G _ s1115 e1115) (fun H_1115 s1115 e1115 => ?_)
                have gS := gS.same s1115
                have gi := gi.same s1115
                have hS := s1115 _ _ hS
                have sA := sA.trans s1115
                have g42 : GN K H_1115 215 1 (.ref p1115) := gn_tup (L := 210) (n := 0) (SqT.of e1115) (GNs.cons (gn_s "dual") (GNs.nil)) (by show 1 * (210 + 2) + 3 ≤ 215; decide)
                have gi := GIs.app gi (.cons (g42.gi (by decide) (by decide)) .nil)
                refine ⟨(by show 3 ≤ sizeLine; decide), fun p1116 n1116 => ?_⟩
                have s1116 := same_upd (o := .lst [.ref p1112, .ref p1114, .ref p1115]) n1116
                have e1116 := upd_same (H := H_1115) (a := p1116) (o := .lst [.ref p1112, .ref p1114, .ref p1115])
                refine (fun (G : ∀ H_1116 : Hp, Same H_1115 H_1116 → H_1116 p1116 = some (.lst [.ref p1112, .ref p1114, .ref p1115]) → _) => G _ s1116 e1116) (fun H_1116 s1116 e1116 => ?_)
                have gS := gS.same s1116
                have gi := gi.same s1116
                have hS := s1116 _ _ hS
                have sA := sA.trans s1116
                obtain ⟨zs, hZ, gZ, hzl⟩ : ∃ zs, H_1116 p1116 = some (.lst zs) ∧ GIs K H_1116 zs ∧ zs.length = 3 := ⟨_, e1116, gi, rfl⟩
                refine ⟨p1110, p1116, _, _, rfl, rfl, hS, hZ, (by rw [hxl, hzl, sizeLine_eq]; omega), fun p1117 n1117 => ?_⟩
                have s1117 := same_upd (o := .lst (xs ++ zs)) n1117
                have e1117 := upd_same (H := H_1116) (a := p1117) (o := .lst (xs ++ zs))
                refine (fun (G : ∀ H_1117 : Hp, Same H_1116 H_1117 → H_1117 p1117 = some (.lst (xs ++ zs)) → _) => G _ s1117 e1117) (fun H_1117 s1117 e1117 => ?_)
                have gS := gS.same s1117
                have gZ := gZ.same s1117
                have hS := s1117 _ _ hS
                have sA := sA.trans s1117
                obtain ⟨xs, hS, gS, hxl⟩ : ∃ xs, H_1117 p1117 = some (.lst xs) ∧ GIs K H_1117 xs ∧ xs.length = 115 := ⟨_, e1117, GIs.app gS gZ, by rw [List.length_append, hxl, hzl]⟩
                dsimp only [gName]
                rw [show List.set ([some (V.int n), some (V.ref p1110), y2, y3, some (V.ref p613), some (V.ref p802), some (V.ref p906)] : List (Option V)) 1 (some (V.ref p1117)) = [some (V.int n), some (V.ref p1117), y2, y3, some (V.ref p613), some (V.ref p802), some (V.ref p906)] from rfl]
                have gi : GIs K H_1117 [] := GIs.nil
                refine ⟨_, rfl, (by show 2 ≤ sizeLine; decide), fun p1118 n1118 => ?_⟩
                have s1118 := same_upd (o := .tup [.str ("code" : String), .str ("b" : String)]) n1118
                have e1118 := upd_same (H := H_1117) (a := p1118) (o := .tup [.str ("code" : String), .str ("b" : String)])
                refine (fun (G : ∀ H_1118 : Hp, Same H_1117 H_1118 → H_1118 p1118 = some (.tup [.str ("code" : String), .str ("b" : String)]) → _) => G _ s1118 e1118) (fun H_1118 s1118 e1118 => ?_)
                have gS := gS.same s1118
                have gi := gi.same s1118
                have hS := s1118 _ _ hS
                have sA := sA.trans s1118
                have g43 : GN K H_1118 427 1 (.ref p1118) := gn_tup (L := 210) (n := 0) (SqT.of e1118) (GNs.cons (gn_s "code") (GNs.cons (gn_s "b") (GNs.nil))) (by show 2 * (210 + 2) + 3 ≤ 427; decide)
                refine ⟨(by show 5 ≤ sizeLine; decide), fun p1119 n1119 => ?_⟩
                have s1119 := same_upd (o := .lst [.str ("dual" : String), .str ("a" : String), .ref p1118, .int 3, .str ("time" : String)]) n1119
                have e1119 := upd_same (H := H_1118) (a := p1119) (o := .lst [.str ("dual" : String), .str ("a" : String), .ref p1118, .int 3, .str ("time" : String)])
                refine (fun (G : ∀ H_1119 : Hp, Same H_1118 H_1119 → H_1119 p1119 = some (.lst [.str ("dual" : String), .str ("a" : String), .ref p1118, .int 3, .str ("time" : String)]) → _) => G _ s1119 e1119) (fun H_1119 s1119 e1119 => ?_)
                have gS := gS.same s1119
                have gi := gi.same s1119
                have g43 := g43.same s1119
                have hS := s1119 _ _ hS
                have sA := sA.trans s1119
                have g44 : GN K H_1119 2148 2 (.ref p1119) := gn_lst (L := 427) (n := 1) (SqL.of e1119) (GNs.cons ((gn_s "dual").mono (by decide) (by decide)) (GNs.cons ((gn_s "a").mono (by decide) (by decide)) (GNs.cons g43 (GNs.cons ((gn_int (i := 3) (by decide)).mono (by decide) (by decide)) (GNs.cons ((gn_s "time").mono (by decide) (by decide)) (GNs.nil)))))) (by show 5 * (427 + 2) + 3 ≤ 2148; decide) (by show 5 ≤ 400; decide)
                have gi := GIs.app gi (.cons (g44.gi (by decide) (by decide)) .nil)
                refine ⟨(by show 2 ≤ sizeLine; decide), fun p1120 n1120 => ?_⟩
                have s1120 := same_upd (o := .tup [.str ("code" : String), .str ("b" : String)]) n1120
                have e1120 := upd_same (H := H_1119) (a := p1120) (o := .tup [.str ("code" : String), .str ("b" : String)])
                refine (fun (G : ∀ H_1120 : Hp, Same H_1119 H_1120 → H_1120 p1120 = some (.tup [.str ("code" : String), .str ("b" : String)]) → _) => G _ s1120 e1120) (fun H_1120 s1120 e1120 => ?_)
                have gS := gS.same s1120
                have gi := gi.same s1120
                have hS := s1120 _ _ hS
                have sA := sA.trans s1120
                have g45 : GN K H_1120 427 1 (.ref p1120) := gn_tup (L := 210) (n := 0) (SqT.of e1120) (GNs.cons (gn_s "code") (GNs.cons (gn_s "b") (GNs.nil))) (by show 2 * (210 + 2) + 3 ≤ 427; decide)
                refine ⟨(by show 5 ≤ sizeLine; decide), fun p1121 n1121 => ?_⟩
                have s1121 := same_upd (o := .tup [.str ("Dual" : String), .str ("a" : String), .ref p1120, .int 3, .str ("time" : String)]) n1121
                have e1121 := upd_same (H := H_1120) (a := p1121) (o := .tup [.str ("Dual" : String), .str ("a" : String), .ref p1120, .int 3, .str ("time" : String)])
                refine (fun (G : ∀ H_1121 : Hp, Same H_1120 H_1121 → H_1121 p1121 = some (.tup [.str ("Dual" : String), .str ("a" : String), .ref p1120, .int 3, .str ("time" : String)]) → _) => G _ s1121 e1121) (fun H_1121 s1121 e1121 => ?_)
                have gS := gS.same s1121
                have gi := gi.same s1121
                have g45 := g45.same s1121
                have hS := s1121 _ _ hS
                have sA := sA.trans s1121
                have g46 : GN K H_1121 2148 2 (.ref p1121) := gn_tup (L := 427) (n := 1) (SqT.of e1121) (GNs.cons ((gn_s "Dual").mono (by decide) (by decide)) (GNs.cons ((gn_s "a").mono (by decide) (by decide)) (GNs.cons g45 (GNs.cons ((gn_int (i := 3) (by decide)).mono (by decide) (by decide)) (GNs.cons ((gn_s "time").mono (by decide) (by decide)) (GNs.nil)))))) (by show 5 * (427 + 2) + 3 ≤ 2148; decide)
                have gi := GIs.app gi (.cons (g46.gi (by decide) (by decide)) .nil)
                refine ⟨Nat.zero_le _, fun p1122 n1122 => ?_⟩
                have s1122 := same_upd (o := .lst []) n1122
                have e1122 := upd_same (H := H_1121) (a := p1122) (o := .lst [])
                refine (fun (G : ∀ H_1122 : Hp, Same H_1121 H_1122 → H_1122 p1122 = some (.lst []) → _) => G _ s1122 e1122) (fun H_1122 s1122 e1122 => ?_)
                have gS := gS.same s1122
                have gi := gi.same s1122
                have hS := s1122 _ _ hS
                have sA := sA.trans s1122
                have g47 : GN K H_1122 3 1 (.ref p1122) := gn_lst (L := 210) (n := 0) (SqL.of e1122) (GNs.nil) (by show 0 * (210 + 2) + 3 ≤ 3; decide) (by show 0 ≤ 400; decide)
                have gi := GIs.app gi (.cons (g47.gi (by decide) (by decide)) .nil)
                refine fun p1123 n1123 => ?_
                have s1123 := same_upd (o := .dK []) n1123
                have e1123 := upd_same (H := H_1122) (a := p1123) (o := .dK [])
                refine (fun (G : ∀ H_1123 : Hp, Same H_1122 H_1123 → H_1123 p1123 = some (.dK []) → _) => G _ s1123 e1123) (fun H_1123 s1123 e1123 => ?_)
                have gS := gS.same s1123
                have gi := gi.same s1123
                have hS := s1123 _ _ hS
                have sA := sA.trans s1123
                have gi := GIs.app gi (.cons ⟨_, dict0 e1123, ag_d0⟩ .nil)
                refine ⟨(by show 4 ≤ sizeLine; decide), fun p1124 n1124 => ?_⟩
                have s1124 := same_upd (o := .lst [.ref p1119, .ref p1121, .ref p1122, .ref p1123]) n1124
                have e1124 := upd_same (H := H_1123) (a := p1124) (o := .lst [.ref p1119, .ref p1121, .ref p1122, .ref p1123])
                refine (fun (G : ∀ H_1124 : Hp, Same H_1123 H_1124 → H_1124 p1124 = some (.lst [.ref p1119, .ref p1121, .ref p1122, .ref p1123]) → _) => G _ s1124 e1124) (fun H_1124 s1124 e1124 => ?_)
                have gS := gS.same s1124
                have gi := gi.same s1124
                have hS := s1124 _ _ hS
                have sA := sA.trans s1124
                obtain ⟨zs, hZ, gZ, hzl⟩ : ∃ zs, H_1124 p1124 = some (.lst zs) ∧ GIs K H_1124 zs ∧ zs.length = 4 := ⟨_, e1124, gi, rfl⟩
                refine ⟨p1117, p1124, _, _, rfl, rfl, hS, hZ, (by rw [hxl, hzl, sizeLine_eq]; omega), fun p1125 n1125 => ?_⟩
                have s1125 := same_upd (o := .lst (xs ++ zs)) n1125
                have e1125 := upd_same (H := H_1124) (a := p1125) (o := .lst (xs ++ zs))
                refine (fun (G : ∀ H_1125 : Hp, Same H_1124 H_1125 → H_1125 p1125 = some (.lst (xs ++ zs)) → _) => G _ s1125 e1125) (fun H_1125 s1125 e1125 => ?_)
                have gS := gS.same s1125
                have gZ := gZ.same s1125
                have hS := s1125 _ _ hS
                have sA := sA.trans s1125
                exact q H_1125 p1125 _ sA e1125 (GIs.app gS gZ) (by rw [List.length_append, hxl, hzl])
end
end K01

set_option Elab.async false
set_option linter.all false
set_option maxRecDepth 100000
set_option maxHeartbeats 8000000
namespace K01
open PySem PySem.Spec PyProof.Rows L2 Gd Rm La
theorem fit_dict1 {L n : Nat} {d : PyData} (f : Fit L n d) : Fit (L + 10) (n + 1) (.dict [(.int 0, d)]) := by
  refine ⟨?_, ?_, ?_⟩
  · show (((PyData.int 0).showable && d.showable) && true) = true
    rw [f.sh]; decide +kernel
  · show max (max 0 d.depth) 0 + 1 ≤ n + 1
    have := f.dp
    omega
  · rw [PyData.shown.eq_7, PyData.shownKv.eq_2, PyData.shownKv.eq_1]
    unfold dictText
    rw [strLen_append, strLen_append]
    have j : ∀ x : Str, (Str.join (Str.ofString ", ") [x]) = x := fun x => rfl
    rw [j]
    simp only [strLen_append]
    have := f.ln
    have e : (PyData.int 0).shown.length = 1 := by decide +kernel
    have e1 : (Str.ofString "{").length = 1 := by decide +kernel
    have e2 : (Str.ofString "}").length = 1 := by decide +kernel
    have e3 : (Str.ofString ": ").length = 2 := by decide +kernel
    omega
theorem flat_rep {v : V} (m : Nat) : (List.replicate m [v]).flatten = List.replicate m v := by
  induction m with
  | zero => rfl
  | succ m ih => rw [List.replicate_succ, List.flatten_cons, ih, List.replicate_succ]; rfl
theorem cut_mem {xs : List V} {a b : Option Int} {v : V} (h : v ∈ cutV xs a b) : v ∈ xs := by
  unfold cutV at h
  exact List.mem_of_mem_drop (List.mem_of_mem_take h)
theorem cut_len {xs : List V} {a b : Option Int} : (cutV xs a b).length ≤ xs.length := by
  unfold cutV
  rw [List.length_take, List.length_drop]
  omega
section
variable {P : Program} {w : World} {K : PySem.W.Frag} {mg : Str → Option Value} {base : Heap}
section
variable {K : PySem.W.Frag} {H H' : Hp} {L n L' n' : Nat} {v : V} {vs ws : List V}
theorem GNs.rep (g : GN K H L n v) (k : Nat) : GNs K H L n (List.replicate k v) := fun x hx => by
  rw [(List.mem_replicate.mp hx).2]; exact g
theorem GNs.cut (g : GNs K H L n vs) (a b : Option Int) : GNs K H L n (cutV vs a b) := fun x hx => g x (cut_mem hx)
theorem gv_tup {p : Addr} (hp : SqT K H p vs) (g : GNs K H L n vs) (hl : vs.length * (L + 2) + 3 ≤ 3000000) (hn : n ≤ 6) : GV K H (.ref p) := by
  obtain ⟨ds, a, b, c, d, e, f, _⟩ := gn_seq g
  exact gv_else (.tup hp a) (d.mono hl (by omega)) (show ¬ ("tuple" : String) = "list" by decide)
theorem gv_seq {p : Addr} (hp : SqL K H p vs) (g : GNs K H L n vs) (hl : vs.length * (L + 2) + 3 ≤ 3000000) (hn : n ≤ 6) : GV K H (.ref p) := by
  obtain ⟨ds, a, b, c, d, e, f, h⟩ := gn_seq g
  have pl : ∀ r ∈ ds, PL r := fun r hr => ⟨(h r hr).2.2.1, by have := (h r hr).1.dp; omega, (h r hr).2.1⟩
  refine ⟨.list ds, .lst hp a, c.mono hl (by omega), ⟨fun r hr => ?_, fun r hr => (h r hr).2.2.2⟩, fun r hr ds' e => ?_, .inr pl⟩
  · cases r with
    | list es =>
      have pe := (pl _ hr).lmem
      exact fun d hd => ⟨(pe d hd).sz, fun _ => (pe d hd).sh⟩
    | _ => trivial
  · subst e
    exact ⟨fun d hd _ => (pl _ hr).lmem d hd, (h _ hr).2.2.2⟩
theorem gv_int (i : Int) (h : i.natAbs < 2 ^ 200) : GV K H (.int i) := gv_else (.int i) ((fit_int h).mono (by decide) (by decide)) (show ¬ ("int" : String) = "list" by decide)
theorem gv_bool (b : Bool) : GV K H (.bl b) := gv_else (.bl b) ((fit_bool b).mono (by decide) (by decide)) (show ¬ ("bool" : String) = "list" by decide)
theorem gv_none : GV K H .non := gv_else .non (fit_none.mono (by decide) (by decide)) (by decide)
theorem gv_str (s : String) (h : (reprText (s : Str)).length ≤ 210 := by decide +kernel) : GV K H (.str (s : String)) := gv_else (.str _) ⟨rfl, Nat.zero_le _, Nat.le_trans h (by decide)⟩ (show ¬ ("str" : String) = "list" by decide)
theorem gv_dict0 {p : Addr} (hp : H p = some (.dK [])) : GV K H (.ref p) := gv_else (dict0 hp) (ag_d0.f.mono (by decide) (by decide)) (by decide +kernel)
theorem gv_dict1 {p : Addr} (hp : H p = some (.dK [(.inl 0, v)])) (g : GN K H 52000 3 v) : GV K H (.ref p) := by
  obtain ⟨d, a, b, _⟩ := g
  exact gv_else (d := .dict ([PyData.int 0].zip [d])) (.dct hp (.cons (.int 0) .nil) (.cons a .nil)) ((fit_dict1 b).mono (by decide) (by decide)) (show ¬ ("dict" : String) = "list" by decide)
theorem Tb.row {c : Addr} {rs : List Addr} {vss : List (List V)} {m : Nat} (t : Tb K H c rs vss m) : GNs K H 52000 3 (rs.map V.ref) := fun v hv => by
  obtain ⟨r, hr, rfl⟩ := List.mem_map.mp hv
  obtain ⟨i, hi⟩ := List.getElem?_of_mem hr
  obtain ⟨vs, e1, e2⟩ := t.rv.at2 hi
  obtain ⟨g1, g2⟩ := t.g vs (List.mem_of_getElem? e1)
  have := t.m16
  exact gn_lst (SqL.of e2) g2 (by omega) (by omega)
theorem Tb.all {c : Addr} {rs : List Addr} {vss : List (List V)} {m : Nat} (t : Tb K H c rs vss m) : GN K H 320000 4 (.ref c) := by
  have := t.n6
  have := t.rv.len
  exact gn_lst (SqL.of t.at_) t.row (by rw [List.length_map]; omega) (by rw [List.length_map]; omega)
end
def spTabs (K : PySem.W.Frag) : Sp := fun vs H Q _ => ∃ (c : Addr) (rs : List Addr) (vss : List (List V)) (m : Nat), vs = [.ref c] ∧ Tb K H c rs vss m ∧ ∀ H' p xs, Same H H' → H' p = some (.lst xs) → GVs K H' xs → xs.length = 27 → Q (.ref p) H'
theorem ok__law_odd_tables (bt : Bt mg) (a : At K mg "_law_odd_tables" s__law_odd_tables ["_law_layout_here"]) : Cl P w K mg base 1 "_law_odd_tables" (spTabs K) := by
  refine clG a sc__law_odd_tables (fun vs H Q E h => ?_) (fun f cdv A outer s H vs Q hg hr h => ?_)
  · obtain ⟨c, rs, vss, m, rfl, _⟩ := h
    rfl
  · obtain ⟨c, rs, vss, m, rfl, T, q⟩ := h
    refine ⟨_, (pss_cons (ps_set (i := 1) sc__law_odd_tables.nd rfl (Or.inl rfl) (pe_callTy call_list_of (by rfl) bt.m_list (by decide +kernel) (pa_cons (pe_ix ix_list (pv 0) pe_int (fun _ _ => rfl)) pa_nil)))
      (pss_cons (ps_set (i := 2) sc__law_odd_tables.nd rfl (Or.inl rfl) (pe_lst (pa_cons pe_non (pa_cons pe_int (pa_cons pe_bl (pa_cons pe_str (pa_cons pe_str (pa_cons (pe_tup pa_nil) (pa_cons pe_dnewK (pa_cons (pe_lst pa_nil) (pa_cons (pe_lst (pa_cons (pe_lst pa_nil) pa_nil)) (pa_cons (pe_lst (pa_cons pe_non pa_nil)) (pa_cons (pe_lst (pa_cons (pe_lst pa_nil) (pa_cons (pv 1) pa_nil))) (pa_cons (pe_lst (pa_cons (pv 1) (pa_cons pe_non pa_nil))) (pa_cons (pe_callTy call_tuple_of (by rfl) bt.m_tuple (by decide +kernel) (pa_cons (pv 0) pa_nil)) (pa_cons (pe_lst (pa_cons (pe_callTy call_tuple_of (by rfl) bt.m_tuple (by decide +kernel) (pa_cons (pv 1) pa_nil)) pa_nil)) pa_nil))))))))))))))))
      (pss_cons (ps_set (i := 2) sc__law_odd_tables.nd rfl (Or.inl rfl) (pe_op op_cat (pv 2) (pe_lst (pa_cons (pe_lst (pa_cons pe_str pa_nil)) (pa_cons (pv 1) (pa_cons (pe_lst (pa_cons (pv 0) pa_nil)) (pa_cons (pe_lst (pa_cons (pv 1) (pa_cons (pe_slice sl_list (pv 1) po_none (po_some (pe_un un_neg pe_int))) pa_nil))) (pa_cons (pe_lst (pa_cons (pv 1) (pa_cons (pe_op op_cat (pv 1) (pe_lst (pa_cons pe_str pa_nil))) pa_nil))) (pa_cons (pe_lst (pa_cons (pe_op op_rep (pe_lst (pa_cons pe_str pa_nil)) pe_int) pa_nil)) (pa_cons (pe_disp (pps_cons pe_int (pv 1) pps_nil) (by rfl) (by rfl) (List.cons_ne_nil _ _) (by decide)) pa_nil))))))))))
      (pss_cons (ps_set (i := 2) sc__law_odd_tables.nd rfl (Or.inl rfl) (pe_op op_cat (pv 2) (pe_lst (pa_cons (pe_op op_rep (pe_lst (pa_cons (pe_op op_rep (pe_lst (pa_cons pe_str pa_nil)) pe_int) pa_nil)) pe_int) (pa_cons (pe_op op_rep (pe_lst (pa_cons (pe_op op_rep (pe_lst (pa_cons pe_str pa_nil)) pe_int) pa_nil)) pe_int) (pa_cons (pe_lst (pa_cons (pe_lst (pa_cons pe_str pa_nil)) pa_nil)) (pa_cons (pe_lst (pa_cons (pe_op op_rep (pe_lst (pa_cons pe_str pa_nil)) pe_int) pa_nil)) (pa_cons (pe_op op_rep (pe_lst (pa_cons (pe_lst (pa_cons pe_str pa_nil)) pa_nil)) pe_int) pa_nil))))))))
      (pss_one (ps_ret (pe_op op_cat (pv 2) (pe_lst (pa_cons (pe_lst (pa_cons (pe_op op_rep (pe_lst (pa_cons pe_str pa_nil)) pe_int) (pa_cons (pe_op op_rep (pe_lst (pa_cons pe_str pa_nil)) pe_int) pa_nil))) pa_nil))))))))), ?_⟩
    have sA := Same.refl H
    have hC := T.at_
    have n1 := T.n1
    have n6 := T.n6
    have m16 := T.m16
    have rl := T.rv.len
    have gC : GN K H 320000 4 (.ref c) := T.all
    have gRs := T.row
    obtain ⟨r0, hr0, hv0⟩ := T.rv.at_ (i := 0) (List.getElem?_eq_getElem (by omega))
    obtain ⟨vl, gv0⟩ := T.g _ (List.getElem_mem (show 0 < vss.length by omega))
    obtain ⟨v0, hv0, vl, gv0⟩ : ∃ v0, H r0 = some (.lst v0) ∧ v0.length = m ∧ GNs K H 3000 2 v0 := ⟨_, hv0, vl, gv0⟩
    rw [show L2.start n__law_odd_tables [V.ref c] = [some (V.ref c), none, none] from rfl]
    refine ⟨_, rfl, c, _, 0, .ref r0, rfl, rfl, SqL.of hC, atI_nat (j := 0) (get_map_ref hr0), r0, _, rfl, .inl (SqL.of hv0), fun p1 n1 => ?_⟩
    have s1 := same_upd (o := .lst v0) n1
    have e1 := upd_same (H := H) (a := p1) (o := .lst v0)
    refine (fun (G : ∀ H_1 : Hp, Same H H_1 → H_1 p1 = some (.lst v0) → _) => G _ s1 e1) (fun H_1 s1 e1 => ?_)
    have gC := gC.same s1
    have gRs := gRs.same s1
    have gv0 := gv0.same s1
    have hC := s1 _ _ hC
    have hv0 := s1 _ _ hv0
    have sA := sA.trans s1
    skip
    skip
    have hR := e1
    have gR : GN K H_1 52000 3 (.ref p1) := gn_lst (SqL.of hR) gv0 (by omega) (by omega)
    dsimp only [gName]
    rw [show List.set ([some (V.ref c), none, none] : List (Option V)) 1 (some (V.ref p1)) = [some (V.ref c), some (V.ref p1), none] from rfl]
    have gi : GVs K H_1 [] := GVs.nil
    have gi := GVs.app gi (.cons gv_none .nil)
    have gi := GVs.app gi (.cons (gv_int 0 (by decide)) .nil)
    have gi := GVs.app gi (.cons (gv_bool true) .nil)
    have gi := GVs.app gi (.cons (gv_str "") .nil)
    have gi := GVs.app gi (.cons (gv_str "none") .nil)
    refine ⟨Nat.zero_le _, fun p2 n2 => ?_⟩
    have s2 := same_upd (o := .tup []) n2
    have e2 := upd_same (H := H_1) (a := p2) (o := .tup [])
    refine (fun (G : ∀ H_2 : Hp, Same H_1 H_2 → H_2 p2 = some (.tup []) → _) => G _ s2 e2) (fun H_2 s2 e2 => ?_)
    have gC := gC.same s2
    have gRs := gRs.same s2
    have gv0 := gv0.same s2
    have gR := gR.same s2
    have gi := gi.same s2
    have hC := s2 _ _ hC
    have hR := s2 _ _ hR
    have sA := sA.trans s2
    have g1 : GN K H_2 3 1 (.ref p2) := gn_tup (L := 210) (n := 0) (SqT.of e2) (GNs.nil) (by show 0 * (210 + 2) + 3 ≤ 3; decide)
    have gi := GVs.app gi (.cons (gv_tup (L := 210) (n := 0) (SqT.of e2) GNs.nil (by decide) (by decide)) .nil)
    refine fun p3 n3 => ?_
    have s3 := same_upd (o := .dK []) n3
    have e3 := upd_same (H := H_2) (a := p3) (o := .dK [])
    refine (fun (G : ∀ H_3 : Hp, Same H_2 H_3 → H_3 p3 = some (.dK []) → _) => G _ s3 e3) (fun H_3 s3 e3 => ?_)
    have gC := gC.same s3
    have gRs := gRs.same s3
    have gv0 := gv0.same s3
    have gR := gR.same s3
    have gi := gi.same s3
    have hC := s3 _ _ hC
    have hR := s3 _ _ hR
    have sA := sA.trans s3
    have gi := GVs.app gi (.cons (gv_dict0 e3) .nil)
    refine ⟨Nat.zero_le _, fun p4 n4 => ?_⟩
    have s4 := same_upd (o := .lst []) n4
    have e4 := upd_same (H := H_3) (a := p4) (o := .lst [])
    refine (fun (G : ∀ H_4 : Hp, Same H_3 H_4 → H_4 p4 = some (.lst []) → _) => G _ s4 e4) (fun H_4 s4 e4 => ?_)
    have gC := gC.same s4
    have gRs := gRs.same s4
    have gv0 := gv0.same s4
    have gR := gR.same s4
    have gi := gi.same s4
    have hC := s4 _ _ hC
    have hR := s4 _ _ hR
    have sA := sA.trans s4
    have gi := GVs.app gi (.cons (gv_seq (L := 400000) (n := 6) (SqL.of e4) (GNs.nil) (by show 0 * 400002 + 3 ≤ 3000000; decide) (by decide)) .nil)
    refine ⟨Nat.zero_le _, fun p5 n5 => ?_⟩
    have s5 := same_upd (o := .lst []) n5
    have e5 := upd_same (H := H_4) (a := p5) (o := .lst [])
    refine (fun (G : ∀ H_5 : Hp, Same H_4 H_5 → H_5 p5 = some (.lst []) → _) => G _ s5 e5) (fun H_5 s5 e5 => ?_)
    have gC := gC.same s5
    have gRs := gRs.same s5
    have gv0 := gv0.same s5
    have gR := gR.same s5
    have gi := gi.same s5
    have hC := s5 _ _ hC
    have hR := s5 _ _ hR
    have sA := sA.trans s5
    have g2 : GN K H_5 3 1 (.ref p5) := gn_lst (L := 210) (n := 0) (SqL.of e5) (GNs.nil) (by show 0 * (210 + 2) + 3 ≤ 3; decide) (by show 0 ≤ 400; decide)
    refine ⟨(by show 1 ≤ sizeLine; decide), fun p6 n6 => ?_⟩
    have s6 := same_upd (o := .lst [.ref p5]) n6
    have e6 := upd_same (H := H_5) (a := p6) (o := .lst [.ref p5])
    refine (fun (G : ∀ H_6 : Hp, Same H_5 H_6 → H_6 p6 = some (.lst [.ref p5]) → _) => G _ s6 e6) (fun H_6 s6 e6 => ?_)
    have gC := gC.same s6
    have gRs := gRs.same s6
    have gv0 := gv0.same s6
    have gR := gR.same s6
    have gi := gi.same s6
    have g2 := g2.same s6
    have hC := s6 _ _ hC
    have hR := s6 _ _ hR
    have sA := sA.trans s6
    have gi := GVs.app gi (.cons (gv_seq (L := 400000) (n := 6) (SqL.of e6) (GNs.cons (g2.mono (by decide) (by decide)) (GNs.nil)) (by show 1 * 400002 + 3 ≤ 3000000; decide) (by decide)) .nil)
    refine ⟨(by show 1 ≤ sizeLine; decide), fun p7 n7 => ?_⟩
    have s7 := same_upd (o := .lst [.non]) n7
    have e7 := upd_same (H := H_6) (a := p7) (o := .lst [.non])
    refine (fun (G : ∀ H_7 : Hp, Same H_6 H_7 → H_7 p7 = some (.lst [.non]) → _) => G _ s7 e7) (fun H_7 s7 e7 => ?_)
    have gC := gC.same s7
    have gRs := gRs.same s7
    have gv0 := gv0.same s7
    have gR := gR.same s7
    have gi := gi.same s7
    have hC := s7 _ _ hC
    have hR := s7 _ _ hR
    have sA := sA.trans s7
    have gi := GVs.app gi (.cons (gv_seq (L := 400000) (n := 6) (SqL.of e7) (GNs.cons (gn_none.mono (by decide) (by decide)) (GNs.nil)) (by show 1 * 400002 + 3 ≤ 3000000; decide) (by decide)) .nil)
    refine ⟨Nat.zero_le _, fun p8 n8 => ?_⟩
    have s8 := same_upd (o := .lst []) n8
    have e8 := upd_same (H := H_7) (a := p8) (o := .lst [])
    refine (fun (G : ∀ H_8 : Hp, Same H_7 H_8 → H_8 p8 = some (.lst []) → _) => G _ s8 e8) (fun H_8 s8 e8 => ?_)
    have gC := gC.same s8
    have gRs := gRs.same s8
    have gv0 := gv0.same s8
    have gR := gR.same s8
    have gi := gi.same s8
    have hC := s8 _ _ hC
    have hR := s8 _ _ hR
    have sA := sA.trans s8
    have g3 : GN K H_8 3 1 (.ref p8) := gn_lst (L := 210) (n := 0) (SqL.of e8) (GNs.nil) (by show 0 * (210 + 2) + 3 ≤ 3; decide) (by show 0 ≤ 400; decide)
    refine ⟨_, rfl, (by show 2 ≤ sizeLine; decide), fun p9 n9 => ?_⟩
    have s9 := same_upd (o := .lst [.ref p8, .ref p1]) n9
    have e9 := upd_same (H := H_8) (a := p9) (o := .lst [.ref p8, .ref p1])
    refine (fun (G : ∀ H_9 : Hp, Same H_8 H_9 → H_9 p9 = some (.lst [.ref p8, .ref p1]) → _) => G _ s9 e9) (fun H_9 s9 e9 => ?_)
    have gC := gC.same s9
    have gRs := gRs.same s9
    have gv0 := gv0.same s9
    have gR := gR.same s9
    have gi := gi.same s9
    have g3 := g3.same s9
    have hC := s9 _ _ hC
    have hR := s9 _ _ hR
    have sA := sA.trans s9
    have gi := GVs.app gi (.cons (gv_seq (L := 400000) (n := 6) (SqL.of e9) (GNs.cons (g3.mono (by decide) (by decide)) (GNs.cons (gR.mono (by decide) (by decide)) (GNs.nil))) (by show 2 * 400002 + 3 ≤ 3000000; decide) (by decide)) .nil)
    refine ⟨_, rfl, (by show 2 ≤ sizeLine; decide), fun p10 n10 => ?_⟩
    have s10 := same_upd (o := .lst [.ref p1, .non]) n10
    have e10 := upd_same (H := H_9) (a := p10) (o := .lst [.ref p1, .non])
    refine (fun (G : ∀ H_10 : Hp, Same H_9 H_10 → H_10 p10 = some (.lst [.ref p1, .non]) → _) => G _ s10 e10) (fun H_10 s10 e10 => ?_)
    have gC := gC.same s10
    have gRs := gRs.same s10
    have gv0 := gv0.same s10
    have gR := gR.same s10
    have gi := gi.same s10
    have hC := s10 _ _ hC
    have hR := s10 _ _ hR
    have sA := sA.trans s10
    have gi := GVs.app gi (.cons (gv_seq (L := 400000) (n := 6) (SqL.of e10) (GNs.cons (gR.mono (by decide) (by decide)) (GNs.cons (gn_none.mono (by decide) (by decide)) (GNs.nil))) (by show 2 * 400002 + 3 ≤ 3000000; decide) (by decide)) .nil)
    refine ⟨_, rfl, c, _, rfl, .inl ⟨SqL.of hC, ?_⟩⟩
    refine fun p11 n11 => ?_
    have s11 := same_upd (o := .tup (rs.map V.ref)) n11
    have e11 := upd_same (H := H_10) (a := p11) (o := .tup (rs.map V.ref))
    refine (fun (G : ∀ H_11 : Hp, Same H_10 H_11 → H_11 p11 = some (.tup (rs.map V.ref)) → _) => G _ s11 e11) (fun H_11 s11 e11 => ?_)
    have gC := gC.same s11
    have gRs := gRs.same s11
    have gv0 := gv0.same s11
    have gR := gR.same s11
    have gi := gi.same s11
    have hC := s11 _ _ hC
    have hR := s11 _ _ hR
    have sA := sA.trans s11
    have gi := GVs.app gi (.cons (gv_tup (SqT.of e11) gRs (by rw [List.length_map]; omega) (by decide)) .nil)
    refine ⟨_, rfl, p1, _, rfl, .inl ⟨SqL.of hR, ?_⟩⟩
    refine fun p12 n12 => ?_
    have s12 := same_upd (o := .tup v0) n12
    have e12 := upd_same (H := H_11) (a := p12) (o := .tup v0)
    refine (fun (G : ∀ H_12 : Hp, Same H_11 H_12 → H_12 p12 = some (.tup v0) → _) => G _ s12 e12) (fun H_12 s12 e12 => ?_)
    have gC := gC.same s12
    have gRs := gRs.same s12
    have gv0 := gv0.same s12
    have gR := gR.same s12
    have gi := gi.same s12
    have hC := s12 _ _ hC
    have hR := s12 _ _ hR
    have sA := sA.trans s12
    have g4 : GN K H_12 52000 3 (.ref p12) := gn_tup (SqT.of e12) gv0 (by omega)
    refine ⟨(by show 1 ≤ sizeLine; decide), fun p13 n13 => ?_⟩
    have s13 := same_upd (o := .lst [.ref p12]) n13
    have e13 := upd_same (H := H_12) (a := p13) (o := .lst [.ref p12])
    refine (fun (G : ∀ H_13 : Hp, Same H_12 H_13 → H_13 p13 = some (.lst [.ref p12]) → _) => G _ s13 e13) (fun H_13 s13 e13 => ?_)
    have gC := gC.same s13
    have gRs := gRs.same s13
    have gv0 := gv0.same s13
    have gR := gR.same s13
    have gi := gi.same s13
    have g4 := g4.same s13
    have hC := s13 _ _ hC
    have hR := s13 _ _ hR
    have sA := sA.trans s13
    have gi := GVs.app gi (.cons (gv_seq (L := 400000) (n := 6) (SqL.of e13) (GNs.cons (g4.mono (by decide) (by decide)) (GNs.nil)) (by show 1 * 400002 + 3 ≤ 3000000; decide) (by decide)) .nil)
    refine ⟨(by show 14 ≤ sizeLine; decide), fun p14 n14 => ?_⟩
    have s14 := same_upd (o := .lst [.non, .int 0, .bl true, .str ("" : String), .str ("none" : String), .ref p2, .ref p3, .ref p4, .ref p6, .ref p7, .ref p9, .ref p10, .ref p11, .ref p13]) n14
    have e14 := upd_same (H := H_13) (a := p14) (o := .lst [.non, .int 0, .bl true, .str ("" : String), .str ("none" : String), .ref p2, .ref p3, .ref p4, .ref p6, .ref p7, .ref p9, .ref p10, .ref p11, .ref p13])
    refine (fun (G : ∀ H_14 : Hp, Same H_13 H_14 → H_14 p14 = some (.lst [.non, .int 0, .bl true, .str ("" : String), .str ("none" : String), .ref p2, .ref p3, .ref p4, .ref p6, .ref p7, .ref p9, .ref p10, .ref p11, .ref p13]) → _) => G _ s14 e14) (fun H_14 s14 e14 => ?_)
    have gC := gC.same s14
    have gRs := gRs.same s14
    have gv0 := gv0.same s14
    have gR := gR.same s14
    have gi := gi.same s14
    have hC := s14 _ _ hC
    have hR := s14 _ _ hR
    have sA := sA.trans s14
    obtain ⟨xs, hS, gS, hxl⟩ : ∃ xs, H_14 p14 = some (.lst xs) ∧ GVs K H_14 xs ∧ xs.length = 14 := ⟨_, e14, gi, rfl⟩
    dsimp only [gName]
    rw [show List.set ([some (V.ref c), some (V.ref p1), none] : List (Option V)) 2 (some (V.ref p14)) = [some (V.ref c), some (V.ref p1), some (V.ref p14)] from rfl]
    have gi : GVs K H_14 [] := GVs.nil
    refine ⟨_, rfl, (by show 1 ≤ sizeLine; decide), fun p15 n15 => ?_⟩
    have s15 := same_upd (o := .lst [.str ("none" : String)]) n15
    have e15 := upd_same (H := H_14) (a := p15) (o := .lst [.str ("none" : String)])
    refine (fun (G : ∀ H_15 : Hp, Same H_14 H_15 → H_15 p15 = some (.lst [.str ("none" : String)]) → _) => G _ s15 e15) (fun H_15 s15 e15 => ?_)
    have gC := gC.same s15
    have gRs := gRs.same s15
    have gv0 := gv0.same s15
    have gR := gR.same s15
    have gS := gS.same s15
    have gi := gi.same s15
    have hC := s15 _ _ hC
    have hR := s15 _ _ hR
    have hS := s15 _ _ hS
    have sA := sA.trans s15
    have gi := GVs.app gi (.cons (gv_seq (L := 400000) (n := 6) (SqL.of e15) (GNs.cons ((gn_s "none").mono (by decide) (by decide)) (GNs.nil)) (by show 1 * 400002 + 3 ≤ 3000000; decide) (by decide)) .nil)
    have gi := GVs.app gi (.cons (gv_seq (SqL.of hR) gv0 (by omega) (by decide)) .nil)
    refine ⟨_, rfl, _, rfl, (by show 1 ≤ sizeLine; decide), fun p16 n16 => ?_⟩
    have s16 := same_upd (o := .lst [.ref c]) n16
    have e16 := upd_same (H := H_15) (a := p16) (o := .lst [.ref c])
    refine (fun (G : ∀ H_16 : Hp, Same H_15 H_16 → H_16 p16 = some (.lst [.ref c]) → _) => G _ s16 e16) (fun H_16 s16 e16 => ?_)
    have gC := gC.same s16
    have gRs := gRs.same s16
    have gv0 := gv0.same s16
    have gR := gR.same s16
    have gS := gS.same s16
    have gi := gi.same s16
    have hC := s16 _ _ hC
    have hR := s16 _ _ hR
    have hS := s16 _ _ hS
    have sA := sA.trans s16
    have gi := GVs.app gi (.cons (gv_seq (L := 400000) (n := 6) (SqL.of e16) (GNs.cons (gC.mono (by decide) (by decide)) (GNs.nil)) (by show 1 * 400002 + 3 ≤ 3000000; decide) (by decide)) .nil)
    refine ⟨_, rfl, _, rfl, 1, rfl, (-1 : Int), rfl, p1, _, rfl, SqL.of hR, fun p17 n17 => ?_⟩
    have s17 := same_upd (o := .lst (cutV v0 none (some (-1)))) n17
    have e17 := upd_same (H := H_16) (a := p17) (o := .lst (cutV v0 none (some (-1))))
    refine (fun (G : ∀ H_17 : Hp, Same H_16 H_17 → H_17 p17 = some (.lst (cutV v0 none (some (-1)))) → _) => G _ s17 e17) (fun H_17 s17 e17 => ?_)
    have gC := gC.same s17
    have gRs := gRs.same s17
    have gv0 := gv0.same s17
    have gR := gR.same s17
    have gS := gS.same s17
    have gi := gi.same s17
    have hC := s17 _ _ hC
    have hR := s17 _ _ hR
    have hS := s17 _ _ hS
    have sA := sA.trans s17
    have g5 : GN K H_17 52000 3 (.ref p17) := gn_lst (SqL.of e17) (gv0.cut none (some (-1))) (by have := cut_len (xs := v0) (a := none) (b := some (-1)); omega) (by have := cut_len (xs := v0) (a := none) (b := some (-1)); omega)
    refine ⟨(by show 2 ≤ sizeLine; decide), fun p18 n18 => ?_⟩
    have s18 := same_upd (o := .lst [.ref p1, .ref p17]) n18
    have e18 := upd_same (H := H_17) (a := p18) (o := .lst [.ref p1, .ref p17])
    refine (fun (G : ∀ H_18 : Hp, Same H_17 H_18 → H_18 p18 = some (.lst [.ref p1, .ref p17]) → _) => G _ s18 e18) (fun H_18 s18 e18 => ?_)
    have gC := gC.same s18
    have gRs := gRs.same s18
    have gv0 := gv0.same s18
    have gR := gR.same s18
    have gS := gS.same s18
    have gi := gi.same s18
    have g5 := g5.same s18
    have hC := s18 _ _ hC
    have hR := s18 _ _ hR
    have hS := s18 _ _ hS
    have sA := sA.trans s18
    have gi := GVs.app gi (.cons (gv_seq (L := 400000) (n := 6) (SqL.of e18) (GNs.cons (gR.mono (by decide) (by decide)) (GNs.cons (g5.mono (by decide) (by decide)) (GNs.nil))) (by show 2 * 400002 + 3 ≤ 3000000; decide) (by decide)) .nil)
    refine ⟨_, rfl, _, rfl, (by show 1 ≤ sizeLine; decide), fun p19 n19 => ?_⟩
    have s19 := same_upd (o := .lst [.str ("none" : String)]) n19
    have e19 := upd_same (H := H_18) (a := p19) (o := .lst [.str ("none" : String)])
    refine (fun (G : ∀ H_19 : Hp, Same H_18 H_19 → H_19 p19 = some (.lst [.str ("none" : String)]) → _) => G _ s19 e19) (fun H_19 s19 e19 => ?_)
    have gC := gC.same s19
    have gRs := gRs.same s19
    have gv0 := gv0.same s19
    have gR := gR.same s19
    have gS := gS.same s19
    have gi := gi.same s19
    have hC := s19 _ _ hC
    have hR := s19 _ _ hR
    have hS := s19 _ _ hS
    have sA := sA.trans s19
    refine ⟨p1, p19, _, _, rfl, rfl, hR, e19, (by rw [vl, sizeLine_eq]; show m + 1 ≤ _; omega), fun p20 n20 => ?_⟩
    have s20 := same_upd (o := .lst (v0 ++ [.str ("none" : String)])) n20
    have e20 := upd_same (H := H_19) (a := p20) (o := .lst (v0 ++ [.str ("none" : String)]))
    refine (fun (G : ∀ H_20 : Hp, Same H_19 H_20 → H_20 p20 = some (.lst (v0 ++ [.str ("none" : String)])) → _) => G _ s20 e20) (fun H_20 s20 e20 => ?_)
    have gC := gC.same s20
    have gRs := gRs.same s20
    have gv0 := gv0.same s20
    have gR := gR.same s20
    have gS := gS.same s20
    have gi := gi.same s20
    have hC := s20 _ _ hC
    have hR := s20 _ _ hR
    have hS := s20 _ _ hS
    have sA := sA.trans s20
    have g6 : GN K H_20 52000 3 (.ref p20) := gn_lst (SqL.of e20) (gv0.app (GNs.cons ((gn_s "none").mono (by decide) (by decide)) GNs.nil)) (by rw [List.length_append, vl]; show (m + 1) * _ + _ ≤ _; omega) (by rw [List.length_append, vl]; show m + 1 ≤ _; omega)
    refine ⟨(by show 2 ≤ sizeLine; decide), fun p21 n21 => ?_⟩
    have s21 := same_upd (o := .lst [.ref p1, .ref p20]) n21
    have e21 := upd_same (H := H_20) (a := p21) (o := .lst [.ref p1, .ref p20])
    refine (fun (G : ∀ H_21 : Hp, Same H_20 H_21 → H_21 p21 = some (.lst [.ref p1, .ref p20]) → _) => G _ s21 e21) (fun H_21 s21 e21 => ?_)
    have gC := gC.same s21
    have gRs := gRs.same s21
    have gv0 := gv0.same s21
    have gR := gR.same s21
    have gS := gS.same s21
    have gi := gi.same s21
    have g6 := g6.same s21
    have hC := s21 _ _ hC
    have hR := s21 _ _ hR
    have hS := s21 _ _ hS
    have sA := sA.trans s21
    have gi := GVs.app gi (.cons (gv_seq (L := 400000) (n := 6) (SqL.of e21) (GNs.cons (gR.mono (by decide) (by decide)) (GNs.cons (g6.mono (by decide) (by decide)) (GNs.nil))) (by show 2 * 400002 + 3 ≤ 3000000; decide) (by decide)) .nil)
    refine ⟨(by show 1 ≤ sizeLine; decide), fun p22 n22 => ?_⟩
    have s22 := same_upd (o := .lst [.str ("none" : String)]) n22
    have e22 := upd_same (H := H_21) (a := p22) (o := .lst [.str ("none" : String)])
    refine (fun (G : ∀ H_22 : Hp, Same H_21 H_22 → H_22 p22 = some (.lst [.str ("none" : String)]) → _) => G _ s22 e22) (fun H_22 s22 e22 => ?_)
    have gC := gC.same s22
    have gRs := gRs.same s22
    have gv0 := gv0.same s22
    have gR := gR.same s22
    have gS := gS.same s22
    have gi := gi.same s22
    have hC := s22 _ _ hC
    have hR := s22 _ _ hR
    have hS := s22 _ _ hS
    have sA := sA.trans s22
    refine ⟨p22, 17, _, rfl, rfl, e22, by decide, by decide, (by show 1 * 17 ≤ sizeLine; decide), fun p23 n23 => ?_⟩
    have s23 := same_upd (o := .lst (List.replicate 17 [.str ("none" : String)]).flatten) n23
    have e23 := upd_same (H := H_22) (a := p23) (o := .lst (List.replicate 17 [.str ("none" : String)]).flatten)
    refine (fun (G : ∀ H_23 : Hp, Same H_22 H_23 → H_23 p23 = some (.lst (List.replicate 17 [.str ("none" : String)]).flatten) → _) => G _ s23 e23) (fun H_23 s23 e23 => ?_)
    have gC := gC.same s23
    have gRs := gRs.same s23
    have gv0 := gv0.same s23
    have gR := gR.same s23
    have gS := gS.same s23
    have gi := gi.same s23
    have hC := s23 _ _ hC
    have hR := s23 _ _ hR
    have hS := s23 _ _ hS
    have sA := sA.trans s23
    rw [flat_rep] at e23
    have g7 : GN K H_23 3607 1 (.ref p23) := gn_lst (L := 210) (n := 0) (SqL.of e23) (GNs.rep (gn_s "none") 17) (by rw [List.length_replicate]; decide) (by rw [List.length_replicate]; decide)
    refine ⟨(by show 1 ≤ sizeLine; decide), fun p24 n24 => ?_⟩
    have s24 := same_upd (o := .lst [.ref p23]) n24
    have e24 := upd_same (H := H_23) (a := p24) (o := .lst [.ref p23])
    refine (fun (G : ∀ H_24 : Hp, Same H_23 H_24 → H_24 p24 = some (.lst [.ref p23]) → _) => G _ s24 e24) (fun H_24 s24 e24 => ?_)
    have gC := gC.same s24
    have gRs := gRs.same s24
    have gv0 := gv0.same s24
    have gR := gR.same s24
    have gS := gS.same s24
    have gi := gi.same s24
    have g7 := g7.same s24
    have hC := s24 _ _ hC
    have hR := s24 _ _ hR
    have hS := s24 _ _ hS
    have sA := sA.trans s24
    have gi := GVs.app gi (.cons (gv_seq (L := 400000) (n := 6) (SqL.of e24) (GNs.cons (g7.mono (by decide) (by decide)) (GNs.nil)) (by show 1 * 400002 + 3 ≤ 3000000; decide) (by decide)) .nil)
    refine fun D nD => ⟨_, rfl, upd_same, [(.inl 0, .ref p1)], rfl, (by show 1 ≤ 15; decide), ?_⟩
    rw [upd_upd, show mergeK [] [((.inl 0 : Key), V.ref p1)] = [(.inl 0, .ref p1)] from rfl]
    have sD := same_upd (o := .dK [(.inl 0, .ref p1)]) nD
    have hD := upd_same (H := H_24) (a := D) (o := .dK [(.inl 0, .ref p1)])
    refine (fun (G : ∀ HD : Hp, Same H_24 HD → HD D = some (.dK [(.inl 0, .ref p1)]) → _) => G _ sD hD) (fun HD sD hD => ?_)
    have gC := gC.same sD
    have gRs := gRs.same sD
    have gv0 := gv0.same sD
    have gR := gR.same sD
    have gS := gS.same sD
    have gi := gi.same sD
    have hC := sD _ _ hC
    have hR := sD _ _ hR
    have hS := sD _ _ hS
    have sA := sA.trans sD
    have gi := GVs.app gi (.cons (gv_dict1 hD gR) .nil)
    refine ⟨(by show 7 ≤ sizeLine; decide), fun p25 n25 => ?_⟩
    have s25 := same_upd (o := .lst [.ref p15, .ref p1, .ref p16, .ref p18, .ref p21, .ref p24, .ref D]) n25
    have e25 := upd_same (H := HD) (a := p25) (o := .lst [.ref p15, .ref p1, .ref p16, .ref p18, .ref p21, .ref p24, .ref D])
    refine (fun (G : ∀ H_25 : Hp, Same HD H_25 → H_25 p25 = some (.lst [.ref p15, .ref p1, .ref p16, .ref p18, .ref p21, .ref p24, .ref D]) → _) => G _ s25 e25) (fun H_25 s25 e25 => ?_)
    have gC := gC.same s25
    have gRs := gRs.same s25
    have gv0 := gv0.same s25
    have gR := gR.same s25
    have gS := gS.same s25
    have gi := gi.same s25
    have hC := s25 _ _ hC
    have hR := s25 _ _ hR
    have hS := s25 _ _ hS
    have sA := sA.trans s25
    obtain ⟨zs, hZ, gZ, hzl⟩ : ∃ xs, H_25 p25 = some (.lst xs) ∧ GVs K H_25 xs ∧ xs.length = 7 := ⟨_, e25, gi, rfl⟩
    refine ⟨p14, p25, _, _, rfl, rfl, hS, hZ, (by rw [hxl, hzl, sizeLine_eq]; omega), fun p26 n26 => ?_⟩
    have s26 := same_upd (o := .lst (xs ++ zs)) n26
    have e26 := upd_same (H := H_25) (a := p26) (o := .lst (xs ++ zs))
    refine (fun (G : ∀ H_26 : Hp, Same H_25 H_26 → H_26 p26 = some (.lst (xs ++ zs)) → _) => G _ s26 e26) (fun H_26 s26 e26 => ?_)
    have gC := gC.same s26
    have gRs := gRs.same s26
    have gv0 := gv0.same s26
    have gR := gR.same s26
    have gS := gS.same s26
    have gZ := gZ.same s26
    have hC := s26 _ _ hC
    have hR := s26 _ _ hR
    have hS := s26 _ _ hS
    have sA := sA.trans s26
    obtain ⟨xs, hS, gS, hxl⟩ : ∃ xs, H_26 p26 = some (.lst xs) ∧ GVs K H_26 xs ∧ xs.length = 21 := ⟨_, e26, GVs.app gS gZ, by rw [List.length_append, hxl, hzl]⟩
    dsimp only [gName]
    rw [show List.set ([some (V.ref c), some (V.ref p1), some (V.ref p14)] : List (Option V)) 2 (some (V.ref p26)) = [some (V.ref c), some (V.ref p1), some (V.ref p26)] from rfl]
    have gi : GVs K H_26 [] := GVs.nil
    refine ⟨_, rfl, (by show 1 ≤ sizeLine; decide), fun p27 n27 => ?_⟩
    have s27 := same_upd (o := .lst [.str ("none" : String)]) n27
    have e27 := upd_same (H := H_26) (a := p27) (o := .lst [.str ("none" : String)])
    refine (fun (G : ∀ H_27 : Hp, Same H_26 H_27 → H_27 p27 = some (.lst [.str ("none" : String)]) → _) => G _ s27 e27) (fun H_27 s27 e27 => ?_)
    have gC := gC.same s27
    have gRs := gRs.same s27
    have gv0 := gv0.same s27
    have gR := gR.same s27
    have gS := gS.same s27
    have gi := gi.same s27
    have hC := s27 _ _ hC
    have hR := s27 _ _ hR
    have hS := s27 _ _ hS
    have sA := sA.trans s27
    refine ⟨p27, 16, _, rfl, rfl, e27, by decide, by decide, (by show 1 * 16 ≤ sizeLine; decide), fun p28 n28 => ?_⟩
    have s28 := same_upd (o := .lst (List.replicate 16 [.str ("none" : String)]).flatten) n28
    have e28 := upd_same (H := H_27) (a := p28) (o := .lst (List.replicate 16 [.str ("none" : String)]).flatten)
    refine (fun (G : ∀ H_28 : Hp, Same H_27 H_28 → H_28 p28 = some (.lst (List.replicate 16 [.str ("none" : String)]).flatten) → _) => G _ s28 e28) (fun H_28 s28 e28 => ?_)
    have gC := gC.same s28
    have gRs := gRs.same s28
    have gv0 := gv0.same s28
    have gR := gR.same s28
    have gS := gS.same s28
    have gi := gi.same s28
    have hC := s28 _ _ hC
    have hR := s28 _ _ hR
    have hS := s28 _ _ hS
    have sA := sA.trans s28
    rw [flat_rep] at e28
    have g8 : GN K H_28 3395 1 (.ref p28) := gn_lst (L := 210) (n := 0) (SqL.of e28) (GNs.rep (gn_s "none") 16) (by rw [List.length_replicate]; decide) (by rw [List.length_replicate]; decide)
    refine ⟨(by show 1 ≤ sizeLine; decide), fun p29 n29 => ?_⟩
    have s29 := same_upd (o := .lst [.ref p28]) n29
    have e29 := upd_same (H := H_28) (a := p29) (o := .lst [.ref p28])
    refine (fun (G : ∀ H_29 : Hp, Same H_28 H_29 → H_29 p29 = some (.lst [.ref p28]) → _) => G _ s29 e29) (fun H_29 s29 e29 => ?_)
    have gC := gC.same s29
    have gRs := gRs.same s29
    have gv0 := gv0.same s29
    have gR := gR.same s29
    have gS := gS.same s29
    have gi := gi.same s29
    have g8 := g8.same s29
    have hC := s29 _ _ hC
    have hR := s29 _ _ hR
    have hS := s29 _ _ hS
    have sA := sA.trans s29
    refine ⟨p29, 7, _, rfl, rfl, e29, by decide, by decide, (by show 1 * 7 ≤ sizeLine; decide), fun p30 n30 => ?_⟩
    have s30 := same_upd (o := .lst (List.replicate 7 [.ref p28]).flatten) n30
    have e30 := upd_same (H := H_29) (a := p30) (o := .lst (List.replicate 7 [.ref p28]).flatten)
    refine (fun (G : ∀ H_30 : Hp, Same H_29 H_30 → H_30 p30 = some (.lst (List.replicate 7 [.ref p28]).flatten) → _) => G _ s30 e30) (fun H_30 s30 e30 => ?_)
    have gC := gC.same s30
    have gRs := gRs.same s30
    have gv0 := gv0.same s30
    have gR := gR.same s30
    have gS := gS.same s30
    have gi := gi.same s30
    have g8 := g8.same s30
    have hC := s30 _ _ hC
    have hR := s30 _ _ hR
    have hS := s30 _ _ hS
    have sA := sA.trans s30
    rw [flat_rep] at e30
    have g9 : GN K H_30 23782 2 (.ref p30) := gn_lst (L := 3395) (n := 1) (SqL.of e30) (GNs.rep g8 7) (by rw [List.length_replicate]; decide) (by rw [List.length_replicate]; decide)
    have gi := GVs.app gi (.cons (gv_seq (L := 3395) (n := 1) (SqL.of e30) (GNs.rep g8 7) (by rw [List.length_replicate]; decide) (by decide)) .nil)
    refine ⟨(by show 1 ≤ sizeLine; decide), fun p31 n31 => ?_⟩
    have s31 := same_upd (o := .lst [.str ("none" : String)]) n31
    have e31 := upd_same (H := H_30) (a := p31) (o := .lst [.str ("none" : String)])
    refine (fun (G : ∀ H_31 : Hp, Same H_30 H_31 → H_31 p31 = some (.lst [.str ("none" : String)]) → _) => G _ s31 e31) (fun H_31 s31 e31 => ?_)
    have gC := gC.same s31
    have gRs := gRs.same s31
    have gv0 := gv0.same s31
    have gR := gR.same s31
    have gS := gS.same s31
    have gi := gi.same s31
    have hC := s31 _ _ hC
    have hR := s31 _ _ hR
    have hS := s31 _ _ hS
    have sA := sA.trans s31
    refine ⟨p31, 16, _, rfl, rfl, e31, by decide, by decide, (by show 1 * 16 ≤ sizeLine; decide), fun p32 n32 => ?_⟩
    have s32 := same_upd (o := .lst (List.replicate 16 [.str ("none" : String)]).flatten) n32
    have e32 := upd_same (H := H_31) (a := p32) (o := .lst (List.replicate 16 [.str ("none" : String)]).flatten)
    refine (fun (G : ∀ H_32 : Hp, Same H_31 H_32 → H_32 p32 = some (.lst (List.replicate 16 [.str ("none" : String)]).flatten) → _) => G _ s32 e32) (fun H_32 s32 e32 => ?_)
    have gC := gC.same s32
    have gRs := gRs.same s32
    have gv0 := gv0.same s32
    have gR := gR.same s32
    have gS := gS.same s32
    have gi := gi.same s32
    have hC := s32 _ _ hC
    have hR := s32 _ _ hR
    have hS := s32 _ _ hS
    have sA := sA.trans s32
    rw [flat_rep] at e32
    have g10 : GN K H_32 3395 1 (.ref p32) := gn_lst (L := 210) (n := 0) (SqL.of e32) (GNs.rep (gn_s "none") 16) (by rw [List.length_replicate]; decide) (by rw [List.length_replicate]; decide)
    refine ⟨(by show 1 ≤ sizeLine; decide), fun p33 n33 => ?_⟩
    have s33 := same_upd (o := .lst [.ref p32]) n33
    have e33 := upd_same (H := H_32) (a := p33) (o := .lst [.ref p32])
    refine (fun (G : ∀ H_33 : Hp, Same H_32 H_33 → H_33 p33 = some (.lst [.ref p32]) → _) => G _ s33 e33) (fun H_33 s33 e33 => ?_)
    have gC := gC.same s33
    have gRs := gRs.same s33
    have gv0 := gv0.same s33
    have gR := gR.same s33
    have gS := gS.same s33
    have gi := gi.same s33
    have g10 := g10.same s33
    have hC := s33 _ _ hC
    have hR := s33 _ _ hR
    have hS := s33 _ _ hS
    have sA := sA.trans s33
    refine ⟨p33, 6, _, rfl, rfl, e33, by decide, by decide, (by show 1 * 6 ≤ sizeLine; decide), fun p34 n34 => ?_⟩
    have s34 := same_upd (o := .lst (List.replicate 6 [.ref p32]).flatten) n34
    have e34 := upd_same (H := H_33) (a := p34) (o := .lst (List.replicate 6 [.ref p32]).flatten)
    refine (fun (G : ∀ H_34 : Hp, Same H_33 H_34 → H_34 p34 = some (.lst (List.replicate 6 [.ref p32]).flatten) → _) => G _ s34 e34) (fun H_34 s34 e34 => ?_)
    have gC := gC.same s34
    have gRs := gRs.same s34
    have gv0 := gv0.same s34
    have gR := gR.same s34
    have gS := gS.same s34
    have gi := gi.same s34
    have g10 := g10.same s34
    have hC := s34 _ _ hC
    have hR := s34 _ _ hR
    have hS := s34 _ _ hS
    have sA := sA.trans s34
    rw [flat_rep] at e34
    have g11 : GN K H_34 20385 2 (.ref p34) := gn_lst (L := 3395) (n := 1) (SqL.of e34) (GNs.rep g10 6) (by rw [List.length_replicate]; decide) (by rw [List.length_replicate]; decide)
    have gi := GVs.app gi (.cons (gv_seq (L := 3395) (n := 1) (SqL.of e34) (GNs.rep g10 6) (by rw [List.length_replicate]; decide) (by decide)) .nil)
    refine ⟨(by show 1 ≤ sizeLine; decide), fun p35 n35 => ?_⟩
    have s35 := same_upd (o := .lst [.str ("none" : String)]) n35
    have e35 := upd_same (H := H_34) (a := p35) (o := .lst [.str ("none" : String)])
    refine (fun (G : ∀ H_35 : Hp, Same H_34 H_35 → H_35 p35 = some (.lst [.str ("none" : String)]) → _) => G _ s35 e35) (fun H_35 s35 e35 => ?_)
    have gC := gC.same s35
    have gRs := gRs.same s35
    have gv0 := gv0.same s35
    have gR := gR.same s35
    have gS := gS.same s35
    have gi := gi.same s35
    have hC := s35 _ _ hC
    have hR := s35 _ _ hR
    have hS := s35 _ _ hS
    have sA := sA.trans s35
    have g12 : GN K H_35 215 1 (.ref p35) := gn_lst (L := 210) (n := 0) (SqL.of e35) (GNs.cons (gn_s "none") (GNs.nil)) (by show 1 * (210 + 2) + 3 ≤ 215; decide) (by show 1 ≤ 400; decide)
    refine ⟨(by show 1 ≤ sizeLine; decide), fun p36 n36 => ?_⟩
    have s36 := same_upd (o := .lst [.ref p35]) n36
    have e36 := upd_same (H := H_35) (a := p36) (o := .lst [.ref p35])
    refine (fun (G : ∀ H_36 : Hp, Same H_35 H_36 → H_36 p36 = some (.lst [.ref p35]) → _) => G _ s36 e36) (fun H_36 s36 e36 => ?_)
    have gC := gC.same s36
    have gRs := gRs.same s36
    have gv0 := gv0.same s36
    have gR := gR.same s36
    have gS := gS.same s36
    have gi := gi.same s36
    have g12 := g12.same s36
    have hC := s36 _ _ hC
    have hR := s36 _ _ hR
    have hS := s36 _ _ hS
    have sA := sA.trans s36
    have gi := GVs.app gi (.cons (gv_seq (L := 400000) (n := 6) (SqL.of e36) (GNs.cons (g12.mono (by decide) (by decide)) (GNs.nil)) (by show 1 * 400002 + 3 ≤ 3000000; decide) (by decide)) .nil)
    refine ⟨(by show 1 ≤ sizeLine; decide), fun p37 n37 => ?_⟩
    have s37 := same_upd (o := .lst [.str ("none" : String)]) n37
    have e37 := upd_same (H := H_36) (a := p37) (o := .lst [.str ("none" : String)])
    refine (fun (G : ∀ H_37 : Hp, Same H_36 H_37 → H_37 p37 = some (.lst [.str ("none" : String)]) → _) => G _ s37 e37) (fun H_37 s37 e37 => ?_)
    have gC := gC.same s37
    have gRs := gRs.same s37
    have gv0 := gv0.same s37
    have gR := gR.same s37
    have gS := gS.same s37
    have gi := gi.same s37
    have hC := s37 _ _ hC
    have hR := s37 _ _ hR
    have hS := s37 _ _ hS
    have sA := sA.trans s37
    refine ⟨p37, 16, _, rfl, rfl, e37, by decide, by decide, (by show 1 * 16 ≤ sizeLine; decide), fun p38 n38 => ?_⟩
    have s38 := same_upd (o := .lst (List.replicate 16 [.str ("none" : String)]).flatten) n38
    have e38 := upd_same (H := H_37) (a := p38) (o := .lst (List.replicate 16 [.str ("none" : String)]).flatten)
    refine (fun (G : ∀ H_38 : Hp, Same H_37 H_38 → H_38 p38 = some (.lst (List.replicate 16 [.str ("none" : String)]).flatten) → _) => G _ s38 e38) (fun H_38 s38 e38 => ?_)
    have gC := gC.same s38
    have gRs := gRs.same s38
    have gv0 := gv0.same s38
    have gR := gR.same s38
    have gS := gS.same s38
    have gi := gi.same s38
    have hC := s38 _ _ hC
    have hR := s38 _ _ hR
    have hS := s38 _ _ hS
    have sA := sA.trans s38
    rw [flat_rep] at e38
    have g13 : GN K H_38 3395 1 (.ref p38) := gn_lst (L := 210) (n := 0) (SqL.of e38) (GNs.rep (gn_s "none") 16) (by rw [List.length_replicate]; decide) (by rw [List.length_replicate]; decide)
    refine ⟨(by show 1 ≤ sizeLine; decide), fun p39 n39 => ?_⟩
    have s39 := same_upd (o := .lst [.ref p38]) n39
    have e39 := upd_same (H := H_38) (a := p39) (o := .lst [.ref p38])
    refine (fun (G : ∀ H_39 : Hp, Same H_38 H_39 → H_39 p39 = some (.lst [.ref p38]) → _) => G _ s39 e39) (fun H_39 s39 e39 => ?_)
    have gC := gC.same s39
    have gRs := gRs.same s39
    have gv0 := gv0.same s39
    have gR := gR.same s39
    have gS := gS.same s39
    have gi := gi.same s39
    have g13 := g13.same s39
    have hC := s39 _ _ hC
    have hR := s39 _ _ hR
    have hS := s39 _ _ hS
    have sA := sA.trans s39
    have gi := GVs.app gi (.cons (gv_seq (L := 400000) (n := 6) (SqL.of e39) (GNs.cons (g13.mono (by decide) (by decide)) (GNs.nil)) (by show 1 * 400002 + 3 ≤ 3000000; decide) (by decide)) .nil)
    refine ⟨(by show 1 ≤ sizeLine; decide), fun p40 n40 => ?_⟩
    have s40 := same_upd (o := .lst [.str ("none" : String)]) n40
    have e40 := upd_same (H := H_39) (a := p40) (o := .lst [.str ("none" : String)])
    refine (fun (G : ∀ H_40 : Hp, Same H_39 H_40 → H_40 p40 = some (.lst [.str ("none" : String)]) → _) => G _ s40 e40) (fun H_40 s40 e40 => ?_)
    have gC := gC.same s40
    have gRs := gRs.same s40
    have gv0 := gv0.same s40
    have gR := gR.same s40
    have gS := gS.same s40
    have gi := gi.same s40
    have hC := s40 _ _ hC
    have hR := s40 _ _ hR
    have hS := s40 _ _ hS
    have sA := sA.trans s40
    have g14 : GN K H_40 215 1 (.ref p40) := gn_lst (L := 210) (n := 0) (SqL.of e40) (GNs.cons (gn_s "none") (GNs.nil)) (by show 1 * (210 + 2) + 3 ≤ 215; decide) (by show 1 ≤ 400; decide)
    refine ⟨(by show 1 ≤ sizeLine; decide), fun p41 n41 => ?_⟩
    have s41 := same_upd (o := .lst [.ref p40]) n41
    have e41 := upd_same (H := H_40) (a := p41) (o := .lst [.ref p40])
    refine (fun (G : ∀ H_41 : Hp, Same H_40 H_41 → H_41 p41 = some (.lst [.ref p40]) → _) => G _ s41 e41) (fun H_41 s41 e41 => ?_)
    have gC := gC.same s41
    have gRs := gRs.same s41
    have gv0 := gv0.same s41
    have gR := gR.same s41
    have gS := gS.same s41
    have gi := gi.same s41
    have g14 := g14.same s41
    have hC := s41 _ _ hC
    have hR := s41 _ _ hR
    have hS := s41 _ _ hS
    have sA := sA.trans s41
    refine ⟨p41, 6, _, rfl, rfl, e41, by decide, by decide, (by show 1 * 6 ≤ sizeLine; decide), fun p42 n42 => ?_⟩
    have s42 := same_upd (o := .lst (List.replicate 6 [.ref p40]).flatten) n42
    have e42 := upd_same (H := H_41) (a := p42) (o := .lst (List.replicate 6 [.ref p40]).flatten)
    refine (fun (G : ∀ H_42 : Hp, Same H_41 H_42 → H_42 p42 = some (.lst (List.replicate 6 [.ref p40]).flatten) → _) => G _ s42 e42) (fun H_42 s42 e42 => ?_)
    have gC := gC.same s42
    have gRs := gRs.same s42
    have gv0 := gv0.same s42
    have gR := gR.same s42
    have gS := gS.same s42
    have gi := gi.same s42
    have g14 := g14.same s42
    have hC := s42 _ _ hC
    have hR := s42 _ _ hR
    have hS := s42 _ _ hS
    have sA := sA.trans s42
    rw [flat_rep] at e42
    have g15 : GN K H_42 1305 2 (.ref p42) := gn_lst (L := 215) (n := 1) (SqL.of e42) (GNs.rep g14 6) (by rw [List.length_replicate]; decide) (by rw [List.length_replicate]; decide)
    have gi := GVs.app gi (.cons (gv_seq (L := 215) (n := 1) (SqL.of e42) (GNs.rep g14 6) (by rw [List.length_replicate]; decide) (by decide)) .nil)
    refine ⟨(by show 5 ≤ sizeLine; decide), fun p43 n43 => ?_⟩
    have s43 := same_upd (o := .lst [.ref p30, .ref p34, .ref p36, .ref p39, .ref p42]) n43
    have e43 := upd_same (H := H_42) (a := p43) (o := .lst [.ref p30, .ref p34, .ref p36, .ref p39, .ref p42])
    refine (fun (G : ∀ H_43 : Hp, Same H_42 H_43 → H_43 p43 = some (.lst [.ref p30, .ref p34, .ref p36, .ref p39, .ref p42]) → _) => G _ s43 e43) (fun H_43 s43 e43 => ?_)
    have gC := gC.same s43
    have gRs := gRs.same s43
    have gv0 := gv0.same s43
    have gR := gR.same s43
    have gS := gS.same s43
    have gi := gi.same s43
    have hC := s43 _ _ hC
    have hR := s43 _ _ hR
    have hS := s43 _ _ hS
    have sA := sA.trans s43
    obtain ⟨zs, hZ, gZ, hzl⟩ : ∃ xs, H_43 p43 = some (.lst xs) ∧ GVs K H_43 xs ∧ xs.length = 5 := ⟨_, e43, gi, rfl⟩
    refine ⟨p26, p43, _, _, rfl, rfl, hS, hZ, (by rw [hxl, hzl, sizeLine_eq]; omega), fun p44 n44 => ?_⟩
    have s44 := same_upd (o := .lst (xs ++ zs)) n44
    have e44 := upd_same (H := H_43) (a := p44) (o := .lst (xs ++ zs))
    refine (fun (G : ∀ H_44 : Hp, Same H_43 H_44 → H_44 p44 = some (.lst (xs ++ zs)) → _) => G _ s44 e44) (fun H_44 s44 e44 => ?_)
    have gC := gC.same s44
    have gRs := gRs.same s44
    have gv0 := gv0.same s44
    have gR := gR.same s44
    have gS := gS.same s44
    have gZ := gZ.same s44
    have hC := s44 _ _ hC
    have hR := s44 _ _ hR
    have hS := s44 _ _ hS
    have sA := sA.trans s44
    obtain ⟨xs, hS, gS, hxl⟩ : ∃ xs, H_44 p44 = some (.lst xs) ∧ GVs K H_44 xs ∧ xs.length = 26 := ⟨_, e44, GVs.app gS gZ, by rw [List.length_append, hxl, hzl]⟩
    dsimp only [gName]
    rw [show List.set ([some (V.ref c), some (V.ref p1), some (V.ref p26)] : List (Option V)) 2 (some (V.ref p44)) = [some (V.ref c), some (V.ref p1), some (V.ref p44)] from rfl]
    have gi : GVs K H_44 [] := GVs.nil
    refine ⟨_, rfl, (by show 1 ≤ sizeLine; decide), fun p45 n45 => ?_⟩
    have s45 := same_upd (o := .lst [.str ("none" : String)]) n45
    have e45 := upd_same (H := H_44) (a := p45) (o := .lst [.str ("none" : String)])
    refine (fun (G : ∀ H_45 : Hp, Same H_44 H_45 → H_45 p45 = some (.lst [.str ("none" : String)]) → _) => G _ s45 e45) (fun H_45 s45 e45 => ?_)
    have gC := gC.same s45
    have gRs := gRs.same s45
    have gv0 := gv0.same s45
    have gR := gR.same s45
    have gS := gS.same s45
    have gi := gi.same s45
    have hC := s45 _ _ hC
    have hR := s45 _ _ hR
    have hS := s45 _ _ hS
    have sA := sA.trans s45
    refine ⟨p45, 2, _, rfl, rfl, e45, by decide, by decide, (by show 1 * 2 ≤ sizeLine; decide), fun p46 n46 => ?_⟩
    have s46 := same_upd (o := .lst (List.replicate 2 [.str ("none" : String)]).flatten) n46
    have e46 := upd_same (H := H_45) (a := p46) (o := .lst (List.replicate 2 [.str ("none" : String)]).flatten)
    refine (fun (G : ∀ H_46 : Hp, Same H_45 H_46 → H_46 p46 = some (.lst (List.replicate 2 [.str ("none" : String)]).flatten) → _) => G _ s46 e46) (fun H_46 s46 e46 => ?_)
    have gC := gC.same s46
    have gRs := gRs.same s46
    have gv0 := gv0.same s46
    have gR := gR.same s46
    have gS := gS.same s46
    have gi := gi.same s46
    have hC := s46 _ _ hC
    have hR := s46 _ _ hR
    have hS := s46 _ _ hS
    have sA := sA.trans s46
    rw [flat_rep] at e46
    have g16 : GN K H_46 427 1 (.ref p46) := gn_lst (L := 210) (n := 0) (SqL.of e46) (GNs.rep (gn_s "none") 2) (by rw [List.length_replicate]; decide) (by rw [List.length_replicate]; decide)
    refine ⟨(by show 1 ≤ sizeLine; decide), fun p47 n47 => ?_⟩
    have s47 := same_upd (o := .lst [.str ("none" : String)]) n47
    have e47 := upd_same (H := H_46) (a := p47) (o := .lst [.str ("none" : String)])
    refine (fun (G : ∀ H_47 : Hp, Same H_46 H_47 → H_47 p47 = some (.lst [.str ("none" : String)]) → _) => G _ s47 e47) (fun H_47 s47 e47 => ?_)
    have gC := gC.same s47
    have gRs := gRs.same s47
    have gv0 := gv0.same s47
    have gR := gR.same s47
    have gS := gS.same s47
    have gi := gi.same s47
    have g16 := g16.same s47
    have hC := s47 _ _ hC
    have hR := s47 _ _ hR
    have hS := s47 _ _ hS
    have sA := sA.trans s47
    refine ⟨p47, 3, _, rfl, rfl, e47, by decide, by decide, (by show 1 * 3 ≤ sizeLine; decide), fun p48 n48 => ?_⟩
    have s48 := same_upd (o := .lst (List.replicate 3 [.str ("none" : String)]).flatten) n48
    have e48 := upd_same (H := H_47) (a := p48) (o := .lst (List.replicate 3 [.str ("none" : String)]).flatten)
    refine (fun (G : ∀ H_48 : Hp, Same H_47 H_48 → H_48 p48 = some (.lst (List.replicate 3 [.str ("none" : String)]).flatten) → _) => G _ s48 e48) (fun H_48 s48 e48 => ?_)
    have gC := gC.same s48
    have gRs := gRs.same s48
    have gv0 := gv0.same s48
    have gR := gR.same s48
    have gS := gS.same s48
    have gi := gi.same s48
    have g16 := g16.same s48
    have hC := s48 _ _ hC
    have hR := s48 _ _ hR
    have hS := s48 _ _ hS
    have sA := sA.trans s48
    rw [flat_rep] at e48
    have g17 : GN K H_48 639 1 (.ref p48) := gn_lst (L := 210) (n := 0) (SqL.of e48) (GNs.rep (gn_s "none") 3) (by rw [List.length_replicate]; decide) (by rw [List.length_replicate]; decide)
    refine ⟨(by show 2 ≤ sizeLine; decide), fun p49 n49 => ?_⟩
    have s49 := same_upd (o := .lst [.ref p46, .ref p48]) n49
    have e49 := upd_same (H := H_48) (a := p49) (o := .lst [.ref p46, .ref p48])
    refine (fun (G : ∀ H_49 : Hp, Same H_48 H_49 → H_49 p49 = some (.lst [.ref p46, .ref p48]) → _) => G _ s49 e49) (fun H_49 s49 e49 => ?_)
    have gC := gC.same s49
    have gRs := gRs.same s49
    have gv0 := gv0.same s49
    have gR := gR.same s49
    have gS := gS.same s49
    have gi := gi.same s49
    have g16 := g16.same s49
    have g17 := g17.same s49
    have hC := s49 _ _ hC
    have hR := s49 _ _ hR
    have hS := s49 _ _ hS
    have sA := sA.trans s49
    have gi := GVs.app gi (.cons (gv_seq (L := 400000) (n := 6) (SqL.of e49) (GNs.cons (g16.mono (by decide) (by decide)) (GNs.cons (g17.mono (by decide) (by decide)) (GNs.nil))) (by show 2 * 400002 + 3 ≤ 3000000; decide) (by decide)) .nil)
    refine ⟨(by show 1 ≤ sizeLine; decide), fun p50 n50 => ?_⟩
    have s50 := same_upd (o := .lst [.ref p49]) n50
    have e50 := upd_same (H := H_49) (a := p50) (o := .lst [.ref p49])
    refine (fun (G : ∀ H_50 : Hp, Same H_49 H_50 → H_50 p50 = some (.lst [.ref p49]) → _) => G _ s50 e50) (fun H_50 s50 e50 => ?_)
    have gC := gC.same s50
    have gRs := gRs.same s50
    have gv0 := gv0.same s50
    have gR := gR.same s50
    have gS := gS.same s50
    have gi := gi.same s50
    have hC := s50 _ _ hC
    have hR := s50 _ _ hR
    have hS := s50 _ _ hS
    have sA := sA.trans s50
    obtain ⟨zs, hZ, gZ, hzl⟩ : ∃ xs, H_50 p50 = some (.lst xs) ∧ GVs K H_50 xs ∧ xs.length = 1 := ⟨_, e50, gi, rfl⟩
    refine ⟨p44, p50, _, _, rfl, rfl, hS, hZ, (by rw [hxl, hzl, sizeLine_eq]; omega), fun p51 n51 => ?_⟩
    have s51 := same_upd (o := .lst (xs ++ zs)) n51
    have e51 := upd_same (H := H_50) (a := p51) (o := .lst (xs ++ zs))
    refine (fun (G : ∀ H_51 : Hp, Same H_50 H_51 → H_51 p51 = some (.lst (xs ++ zs)) → _) => G _ s51 e51) (fun H_51 s51 e51 => ?_)
    have gC := gC.same s51
    have gRs := gRs.same s51
    have gv0 := gv0.same s51
    have gR := gR.same s51
    have gS := gS.same s51
    have gZ := gZ.same s51
    have hC := s51 _ _ hC
    have hR := s51 _ _ hR
    have hS := s51 _ _ hS
    have sA := sA.trans s51
    exact q H_51 p51 _ sA e51 (GVs.app gS gZ) (by rw [List.length_append, hxl, hzl])
end
end K01

set_option Elab.async false
set_option linter.all false
set_option maxRecDepth 100000
set_option maxHeartbeats 16000000
namespace K01
open PySem PySem.Spec PyProof.Rows L2 Gd Rm La
theorem strIs_self (s : Str) : strIs s (.str s) = true := decide_eq_true rfl
theorem strIn_mem {ws : List Str} {s : Str} (h : s ∈ ws) : strIn ws (.str s) = true := decide_eq_true h
theorem codeB_ok {c : Str} (h : CodeOk c) : codeB (.str c) = true := decide_eq_true h
theorem btwB_ok {lo hi i : Int} (h : lo ≤ i ∧ i ≤ hi) : btwB lo hi (.int i) = true := by
  show (decide (lo ≤ i) && decide (i ≤ hi)) = true
  rw [decide_eq_true h.1, decide_eq_true h.2]; rfl
theorem act_stand {n i : Int} {x : Actn} (h : ActOk n i x) : standB i n (actD x) = true := by
  cases x with
  | none => rfl
  | thr =>
    show (decide (("through" : Str) = ("none" : Str)) || (decide (("through" : Str) = ("through" : Str)) && decide (0 < i))) = true
    rw [decide_eq_true (show 0 < i from h)]
    decide +kernel
  | code c =>
    show ((strIs ("code" : Str) (.str ("code" : Str)) && codeB (.str c)) || _) = true
    rw [strIs_self, codeB_ok h]; rfl
  | lay w j =>
    show (_ || (strIn layWords (.str w) && btwB 1 (n - 1) (.int j))) = true
    rw [strIn_mem h.1, btwB_ok h.2, Bool.and_true, Bool.or_true]
  | dualC c d t r =>
    obtain ⟨a, b, e, f⟩ := h
    show (strIs ("dual" : Str) (.str ("dual" : Str)) && (codeB (.str c) && (((strIs ("code" : Str) (.str ("code" : Str)) && codeB (.str d)) || _) && (btwB 1 1000000000 (.int t) && strIn rules (.str r))))) = true
    rw [strIs_self, strIs_self, codeB_ok a, codeB_ok b, btwB_ok e, strIn_mem f]; rfl
  | dualL c j t r =>
    obtain ⟨a, b, e, f⟩ := h
    show (strIs ("dual" : Str) (.str ("dual" : Str)) && (codeB (.str c) && ((_ || (strIn [("layer" : Str)] (.str ("layer" : Str)) && btwB 1 (n - 1) (.int j))) && (btwB 1 1000000000 (.int t) && strIn rules (.str r))))) = true
    rw [strIs_self, codeB_ok a, strIn_mem (List.mem_singleton.mpr rfl), btwB_ok b, btwB_ok e, strIn_mem f, Bool.and_true, Bool.or_true]; rfl
theorem rows_ok {n : Int} : ∀ (L : List (List Actn)) (k : Nat), (∀ (i : Nat) row, L[i]? = some row → ∀ x ∈ row, ActOk n ((k + i : Nat) : Int) x) → rowsOk n k (L.map rowD) = true
  | [], _, _ => rfl
  | row :: L, k, h => by
    show ((row.map actD).all (standB (k : Int) n) && rowsOk n (k + 1) (L.map rowD)) = true
    rw [rows_ok L (k + 1) fun i r hr x hx => by
      have := h (i + 1) r hr x hx
      rw [show k + (i + 1) = k + 1 + i by omega] at this
      exact this, List.all_eq_true.mpr fun d hd => by
      obtain ⟨x, hx, rfl⟩ := List.mem_map.mp hd
      exact act_stand (h 0 row rfl x hx)]
    rfl
theorem lay_ok {L : List (List Actn)} {m : Nat} (ok : LayOk L m) : layB (layD L) = true := by
  have len : ∀ r ∈ L.map rowD, lenOf r = m := fun r hr => by
    obtain ⟨row, hrow, rfl⟩ := List.mem_map.mp hr
    show (row.map actD).length = m
    rw [List.length_map]; exact ok.len row hrow
  have e0 : lenOf ((L.map rowD).getD 0 .none) = m := by
    have := ok.n1
    rw [List.getD_eq_getElem?_getD, List.getElem?_eq_getElem (show 0 < (L.map rowD).length by rw [List.length_map]; omega)]
    exact len _ (List.getElem_mem _)
  have f : formB (layD L) = true := by
    show (decide (1 ≤ (L.map rowD).length ∧ (L.map rowD).length ≤ 6) && ((L.map rowD).all isL && (decide (1 ≤ lenOf ((L.map rowD).getD 0 .none) ∧ lenOf ((L.map rowD).getD 0 .none) ≤ 16) && (L.map rowD).all fun r => decide (lenOf r = lenOf ((L.map rowD).getD 0 .none))))) = true
    rw [e0, List.length_map, decide_eq_true ⟨ok.n1, ok.n6⟩, decide_eq_true ⟨ok.m1, ok.m16⟩, List.all_eq_true.mpr fun r hr => decide_eq_true (len r hr), List.all_eq_true.mpr fun r hr => by
      obtain ⟨row, _, rfl⟩ := List.mem_map.mp hr
      rfl]
    rfl
  show (formB (layD L) && rowsOk ((L.map rowD).length : Nat) 0 (L.map rowD)) = true
  rw [f, List.length_map, rows_ok L 0 fun i row hr x hx => by rw [Nat.zero_add]; exact ok.ok i row hr x hx]
  rfl
theorem lay_G {L : List (List Actn)} {m : Nat} (ok : LayOk L m) : layG (layD L) := by
  refine ⟨fun r hr => ?_, fun r hr => ?_⟩
  · obtain ⟨row, hrow, rfl⟩ := List.mem_map.mp hr
    obtain ⟨i, hi⟩ := List.getElem?_of_mem hrow
    intro d hd
    obtain ⟨x, hx, rfl⟩ := List.mem_map.mp hd
    have h := ok.ok i row hi x hx
    exact ⟨(act_lay h).1, fun _ => PL.sh ⟨(act_lay h).2, by have := (fit_act h (by have := ok.n6; omega)).dp; omega, (act_lay h).1⟩⟩
  · obtain ⟨row, hrow, rfl⟩ := List.mem_map.mp hr
    show (row.map actD).length ≤ 400
    have := ok.len row hrow
    have := ok.m16
    rw [List.length_map]; omega
theorem rows_bad {n : Int} {d : PyData} (hd : ∀ i, standB i n d = false) : ∀ (ds : List PyData) (k i : Nat) (r : List PyData), ds[i]? = some (.list r) → d ∈ r → rowsOk n k ds = false
  | [], _, _, _, h, _ => by simp at h
  | e :: ds, k, 0, r, h, hm => by
    have e1 : e = .list r := Option.some.inj h
    subst e1
    show (r.all (standB (k : Int) n) && _) = false
    rw [show r.all (standB (k : Int) n) = false from by
      cases z : r.all (standB (k : Int) n) with
      | false => rfl
      | true => rw [← hd (k : Int)]; exact (List.all_eq_true.mp z d hm).symm]
    rfl
  | e :: ds, k, i + 1, r, h, hm => by
    have ih := rows_bad hd ds (k + 1) i r h hm
    cases e with
    | list r' =>
      show (r'.all (standB (k : Int) n) && rowsOk n (k + 1) ds) = false
      rw [ih, Bool.and_false]
    | _ => rfl
section
variable {K : PySem.W.Frag} {H H' : Hp}
theorem all_at {R : PyData → Prop} : ∀ {vs : List V} {j : Nat} {v : V} {db : PyData}, (∀ v ∈ vs, ∃ d, Dq K H v d ∧ R d) → vs[j]? = some v → Dq K H v db → R db → ∃ ds, DqAll K H vs ds ∧ ds.length = vs.length ∧ (∀ d ∈ ds, R d) ∧ db ∈ ds
  | [], _, _, _, _, h, _, _ => by simp at h
  | v :: vs, 0, u, db, g, h, hd, hR => by
    have e : v = u := Option.some.inj h
    subst e
    obtain ⟨ds, a, b, c⟩ := all_of (R := fun _ d => R d) fun x hx => g x (List.mem_cons_of_mem _ hx)
    refine ⟨db :: ds, .cons hd a, congrArg (· + 1) b, fun x hx => ?_, List.mem_cons_self⟩
    rcases List.mem_cons.mp hx with rfl | hx
    · exact hR
    · obtain ⟨_, z⟩ := c x hx; exact z
  | v :: vs, j + 1, u, db, g, h, hd, hR => by
    obtain ⟨ds, a, b, c, e⟩ := all_at (fun x hx => g x (List.mem_cons_of_mem _ hx)) (show vs[j]? = some u from h) hd hR
    obtain ⟨d, x, y⟩ := g v List.mem_cons_self
    refine ⟨d :: ds, .cons x a, congrArg (· + 1) b, fun z hz => ?_, List.mem_cons_of_mem _ e⟩
    rcases List.mem_cons.mp hz with rfl | hz
    · exact y
    · exact c z hz
theorem gv_rows' {rs : List Addr} {vss : List (List V)} (h : RV H rs vss) (g : ∀ vs ∈ vss, vs.length ≤ 16 ∧ GIs K H vs) : ∃ ds, DqAll K H (rs.map V.ref) ds ∧ ds.length = vss.length ∧ ∀ d ∈ ds, ∃ r, d = .list r ∧ r.length ≤ 16 ∧ ∀ x ∈ r, AG x := by
  induction h with
  | nil => exact ⟨[], .nil, rfl, fun d h => by simp at h⟩
  | @cons r rs vs vss a t ih =>
    obtain ⟨ds, b, c, d⟩ := ih fun vs hv => g vs (List.mem_cons_of_mem _ hv)
    obtain ⟨e1, e2⟩ := g vs List.mem_cons_self
    obtain ⟨es, x1, x2, x3⟩ := all_of (R := fun _ d => AG d) e2
    refine ⟨.list es :: ds, .cons (.lst (SqL.of a) x1) b, congrArg (· + 1) c, fun y hy => ?_⟩
    rcases List.mem_cons.mp hy with rfl | hy
    · exact ⟨es, rfl, by omega, fun d hd => by
        obtain ⟨_, z⟩ := x3 d hd; exact z⟩
    · exact d y hy
theorem rows_at {rs : List Addr} {vss : List (List V)} {i j : Nat} {vs : List V} {v : V} {db : PyData} (h : RV H rs vss) (g : ∀ vs ∈ vss, vs.length ≤ 16 ∧ GIs K H vs) (ei : vss[i]? = some vs) (ej : vs[j]? = some v) (hd : Dq K H v db) (ad : AG db) :
    ∃ ds, DqAll K H (rs.map V.ref) ds ∧ (∀ d ∈ ds, ∃ r, d = .list r ∧ r.length ≤ 16 ∧ ∀ x ∈ r, AG x) ∧ ∃ r, ds[i]? = some (.list r) ∧ db ∈ r := by
  induction h generalizing i with
  | nil => simp at ei
  | @cons r rs ws vss a t ih =>
    obtain ⟨e1, e2⟩ := g ws List.mem_cons_self
    cases i with
    | zero =>
      have e : ws = vs := Option.some.inj ei
      subst e
      obtain ⟨es, x1, x2, x3, x4⟩ := all_at (R := AG) e2 ej hd ad
      obtain ⟨ds, b, _, c⟩ := gv_rows' t fun vs hv => g vs (List.mem_cons_of_mem _ hv)
      refine ⟨.list es :: ds, .cons (.lst (SqL.of a) x1) b, fun y hy => ?_, es, rfl, x4⟩
      rcases List.mem_cons.mp hy with rfl | hy
      · exact ⟨es, rfl, by omega, x3⟩
      · exact c y hy
    | succ i =>
      obtain ⟨ds, b, c, x, y, z⟩ := ih (fun vs hv => g vs (List.mem_cons_of_mem _ hv)) (i := i) ei
      obtain ⟨es, x1, x2, x3⟩ := all_of (R := fun _ d => AG d) e2
      refine ⟨.list es :: ds, .cons (.lst (SqL.of a) x1) b, fun q hq => ?_, x, y, z⟩
      rcases List.mem_cons.mp hq with rfl | hq
      · exact ⟨es, rfl, by omega, fun d hd => by
          obtain ⟨_, z⟩ := x3 d hd; exact z⟩
      · exact c q hq
end
end K01

set_option Elab.async false
set_option linter.all false
set_option maxRecDepth 100000
set_option maxHeartbeats 16000000
namespace K01
open PySem PySem.Spec PyProof.Rows L2 Gd Rm La
def sC (c : Nat) : Str := ⟨#[c]⟩
def rowS (c : Nat) : List PyData := [.tuple [.str ("code" : String), .str (sC c)], .tuple [.str ("code" : String), .str (("a" : Str) ++ sC c)], .tuple [.str ("dual" : String), .str (Txt.mul (sC c) 8), .tuple [.str ("code" : String), .str (("0" : Str) ++ sC c ++ ("0" : Str))], .int 1, .str ("time" : String)]]
def rowT (c : Nat) : List PyData := rowS c ++ [.tuple [.str ("code" : String), .str (Txt.mul (sC c) 9)]]
theorem sign_facts : ∀ c ∈ signs.cps.toList, layB (.list [.list (rowS c)]) = true ∧ layB (.list [.list (rowT c)]) = false ∧ szAll (rowT c) = true := by decide +kernel
theorem none_ok : layB (.list [.list [.str ("none" : String)]]) = true := by decide +kernel
theorem thru_bad : layB (.list [.list [.str ("through" : String)]]) = false := by decide +kernel
theorem lay_G1 {r : List PyData} (h : szAll r = true) (hs : ∀ d ∈ r, kindS d = "str" → SeqAt.shaped d = true) (hl : r.length ≤ 400) : layG (.list [.list r]) := by
  refine ⟨fun x hx => ?_, fun x hx => ?_⟩
  · rw [List.mem_singleton.mp hx]
    exact fun d hd => ⟨szAll_mem h d hd, hs d hd⟩
  · rw [List.mem_singleton.mp hx]; exact hl
theorem mul_ok {c : Nat} {k : Int} (h : k = 8 ∨ k = 9) : MulOk (sC c) k := by
  rcases h with rfl | rfl
  · exact ⟨by decide, fun _ _ => by show ¬ ((1 : Int) > (2 ^ 63 - 1) / 8); decide, fun _ _ => by rfl⟩
  · exact ⟨by decide, fun _ _ => by show ¬ ((1 : Int) > (2 ^ 63 - 1) / 9); decide, fun _ _ => by rfl⟩
theorem rows_wo {H H0 : Hp} {D r : Addr} {L : List (List Actn)} {z z' : List V} {rs : List Addr} (hR : Rows H rs L) (hn : ∀ q ∈ rs, H0 q = none ∧ q ≠ D) (h0 : H0 r = some (.lst z)) (h1 : H r = some (.lst z')) : Rows (wo [r] H) rs L := by
  have tk : Tk H (wo [r] H) := fun b xs e => wo_at e fun X hX => by
    rw [List.mem_singleton.mp hX]
    exact ne_of e h1 (by intro q; cases q)
  refine ⟨hR.1, fun i q row a b => ?_⟩
  obtain ⟨vs, c, d⟩ := hR.2 i q row a b
  refine ⟨vs, wo_at c fun X hX => ?_, d.keep tk⟩
  rw [List.mem_singleton.mp hX]
  exact (ne_of_none h0 (hn q (List.mem_of_getElem? a)).1).symm
theorem rows_go {H H' : Hp} {r : Addr} {rs : List Addr} {L : List (List Actn)} (hR : Rows H rs L) (hn : ∀ q ∈ rs, q ≠ r) (o : Rm.Off r H H') (t : Tk H H') : Rows H' rs L :=
  ⟨hR.1, fun i q row a b => row_off (hR.2 i q row a b) (hn q (List.mem_of_getElem? a)) o t⟩
theorem cells_tk {K : PySem.W.Frag} {H H' : Hp} {rs : List Addr} {vss : List (List V)} {L : List (List Actn)} {m : Nat} (h : RV H rs vss) (hR : Rows H rs L) (ok : LayOk L m) (t : Tk H H') : ∀ vs ∈ vss, vs.length = m ∧ GNs K H' 3000 2 vs := fun vs hv => by
  obtain ⟨k, hk⟩ := List.getElem?_of_mem hv
  obtain ⟨r, e1, e2⟩ := h.at_ hk
  have hk' : k < L.length := by have := (List.getElem?_eq_some_iff.mp e1).1; have := hR.1; omega
  obtain ⟨vs', f1, f2⟩ := hR.2 k r L[k] e1 (List.getElem?_eq_getElem hk')
  rw [e2] at f1
  have e3 : vs = vs' := by injection f1 with z; injection z
  subst e3
  refine ⟨by rw [f2.1]; exact ok.len _ (List.getElem_mem hk'), fun v hv => ?_⟩
  obtain ⟨j, hj⟩ := List.getElem?_of_mem hv
  have hj' : j < L[k].length := by have := (List.getElem?_eq_some_iff.mp hj).1; have := f2.1; omega
  exact gn_act ((f2.2 j v L[k][j] hj (List.getElem?_eq_getElem hj')).keep t) (ok.ok k _ (List.getElem?_eq_getElem hk') _ (List.getElem_mem hj')) (by have := ok.n6; omega)
def badD : PyData := .tuple [.str ("code" : String), .str ("" : String)]
theorem bad_ag : AG badD := ⟨⟨by decide +kernel, by decide +kernel, by decide +kernel⟩, by decide +kernel, fun _ => ⟨by decide +kernel, by decide +kernel, by decide +kernel⟩⟩
theorem bad_stand {n : Int} (i : Int) : standB i n badD = false := by
  show ((strIs ("code" : Str) (.str ("code" : String)) && codeB (.str ("" : String))) || (strIn layWords (.str ("code" : String)) && btwB 1 (n - 1) (.str ("" : String)))) = false
  rw [show codeB (.str ("" : String)) = false by decide +kernel, Bool.and_false, show strIn layWords (.str ("code" : String)) = false by decide +kernel]; rfl
section
variable {P : Program} {w : World} {K : PySem.W.Frag} {mg : Str → Option Value} {base : Heap}
def spLaw (K : PySem.W.Frag) : Sp := fun vs H Q _ => ∃ (a : Addr) (ns : List Int), vs = [.ref a] ∧ SqL K H a (ns.map V.int) ∧ ns.length ≤ 63 ∧ ∀ H', Q (.bl true) H'
theorem ok_law {f : Addr} {fd : FuncData} (bt : Bt mg) (a : Fun K "law" "law" s_law f fd) (c__law_reel : Cl P w K mg base 1 "_law_reel" (spReel K)) (c__law_spin : Cl P w K mg base 1 "_law_spin" spSpin) (c__law_layout : Cl P w K mg base 4 "_law_layout" spLLay)
    (c_is_layout : Cl P w K mg base 8 "is_layout" (spIsL K)) (c__law_odd_actions : Cl P w K mg base 1 "_law_odd_actions" (spOdd K)) (c__law_with : Cl P w K mg base 1 "_law_with" (spLW K)) (c__law_told_right : Cl P w K mg base 9 "_law_told_right" (spTold K))
    (c__law_odd_tables : Cl P w K mg base 1 "_law_odd_tables" (spTabs K)) : FnG P w K mg base 10 f fd ["_law_script"] (spLaw K) := by
  refine fnG a sc_law (fun vs H Q E h => ?_) (fun cdv A outer s H vs Q hg hr h => ?_)
  · obtain ⟨a, e, rfl, _⟩ := h
    rfl
  · obtain ⟨sc, ns, rfl, hS, hl, q⟩ := h
    refine ⟨_, (pss_cons (ps_for PassesOwn.never rfl (pi_range1 (by rfl) bt.m_range (pa_cons (pe_callB (call_max2 rfl) (by rfl) bt.m_max (by decide +kernel) (pa_cons pe_int (pa_cons (pe_callB (call_min2 rfl) (by rfl) bt.m_min (by decide +kernel) (pa_cons pe_int (pa_cons (pe_callB call_len_seq (by rfl) bt.m_len (by decide +kernel) (pa_cons (pv 0) pa_nil)) pa_nil))) pa_nil))) pa_nil)) (pg_name (i := 1) sc_law.nd rfl (Or.inl rfl)) (pss_cons (ps_set (i := 2) sc_law.nd rfl (Or.inl rfl) (pe_cl c__law_reel hg hr (by decide) (by rfl) (pa_cons (pv 0) (pa_cons (pv 1) pa_nil))))
      (pss_cons (ps_par (i := 3) (j := 4) rfl sc_law.nd rfl rfl (by decide) rfl rfl (pa_cons (pe_op op_add pe_int (pe_cl c__law_spin hg hr (by decide) (by rfl) (pa_cons (pv 2) (pa_cons pe_int pa_nil)))) (pa_cons (pe_op op_add pe_int (pe_cl c__law_spin hg hr (by decide) (by rfl) (pa_cons (pv 2) (pa_cons pe_int pa_nil)))) pa_nil)) (by rfl))
      (pss_cons (ps_set (i := 5) sc_law.nd rfl (Or.inl rfl) (pe_cl c__law_layout hg hr (by decide) (by rfl) (pa_cons (pv 2) (pa_cons (pv 3) (pa_cons (pv 4) (pa_cons (pe_ix ix_list (pe_lst (pa_cons pe_int (pa_cons (pe_op op_powW pe_int pe_int) pa_nil))) (pe_cl c__law_spin hg hr (by decide) (by rfl) (pa_cons (pv 2) (pa_cons pe_int pa_nil))) (fun _ _ => rfl)) pa_nil))))))
      (pss_cons (ps_if (pt_cmpR op_notBl (pe_cl c_is_layout hg hr (by decide) (by rfl) (pa_cons (pv 5) pa_nil)) pe_bl (nomark _)) (pss_one (ps_ret pe_bl)) pss_nil)
      (pss_cons (ps_par (i := 6) (j := 7) rfl sc_law.nd rfl rfl (by decide) rfl rfl (pa_cons (pe_cl c__law_spin hg hr (by decide) (by rfl) (pa_cons (pv 2) (pa_cons (pv 3) pa_nil))) (pa_cons (pe_cl c__law_spin hg hr (by decide) (by rfl) (pa_cons (pv 2) (pa_cons (pv 4) pa_nil))) pa_nil)) (by rfl))
      (pss_cons (ps_for PassesOwn.never rfl (pi_list (pe_cl c__law_odd_actions hg hr (by decide) (by rfl) (pa_cons (pv 3) pa_nil))) (pg_name (i := 8) sc_law.nd rfl (Or.inl rfl)) (pss_one (ps_if (pt_not (pt_val (pe_cl c__law_told_right hg hr (by decide) (by rfl) (pa_cons (pe_cl c__law_with hg hr (by decide) (by rfl) (pa_cons (pv 5) (pa_cons (pv 6) (pa_cons (pv 7) (pa_cons (pv 8) pa_nil))))) pa_nil)))) (pss_one (ps_ret pe_bl)) pss_nil)))
      (pss_cons (ps_if (pt_cmpR (op_neD hr.units) (pe_lc (own := [("_law_value", 11)]) (g := (gName 11)) (by rfl) sc_law.nd (pi_list (pe_cl c__law_odd_tables hg hr (by decide) (by rfl) (pa_cons (pv 5) pa_nil))) (blkOk_by (N := n_law) (sc := defScope s_law) (by decide +kernel)) (fun _ _ _ _ _ => (pg_name (i := 11) sc_law.nd rfl (Or.inl rfl))) (fun _ _ _ _ _ => (pts_one (pt_not (pt_val (pe_cl c__law_told_right hg hr (by decide) (by rfl) (pa_cons (pv 11) pa_nil)))))) (fun _ _ _ _ _ => (pv 11))) (pe_lst pa_nil) (nomark _)) (pss_one (ps_ret pe_bl)) pss_nil)
      (pss_cons (ps_asg (pe_tup (pa_cons pe_str (pa_cons pe_str pa_nil))) (pg_sub (pe_ix ix_list (pv 5) (pv 6) (fun _ _ => rfl)) (pv 7) set_list))
      (pss_one (ps_if (pt_cmpR op_notBl (pe_cl c_is_layout hg hr (by decide) (by rfl) (pa_cons (pv 5) pa_nil)) pe_bl (nomark _)) (pss_one (ps_ret pe_bl)) pss_nil)))))))))))
      (pss_cons (ps_for PassesOwn.never rfl (pi_str pe_str) (pg_name (i := 9) sc_law.nd rfl (Or.inl rfl)) (pss_cons (ps_set (i := 10) sc_law.nd rfl (Or.inl rfl) (pe_lst (pa_cons (pe_tup (pa_cons pe_str (pa_cons (pv 9) pa_nil))) (pa_cons (pe_tup (pa_cons pe_str (pa_cons (pe_op op_add_str pe_str (pv 9)) pa_nil))) (pa_cons (pe_tup (pa_cons pe_str (pa_cons (pe_op op_mulS (pv 9) pe_int) (pa_cons (pe_tup (pa_cons pe_str (pa_cons (pe_op op_add_str (pe_op op_add_str pe_str (pv 9)) pe_str) pa_nil))) (pa_cons pe_int (pa_cons pe_str pa_nil)))))) pa_nil)))))
      (pss_one (ps_if (PW.pt (pw_or (pt_cmpR op_notBl (pe_cl c_is_layout hg hr (by decide) (by rfl) (pa_cons (pe_lst (pa_cons (pv 10) pa_nil)) pa_nil)) pe_bl (nomark _)) (pw_or1 (pt_cmpR op_notBl (pe_cl c_is_layout hg hr (by decide) (by rfl) (pa_cons (pe_lst (pa_cons (pe_op op_cat (pv 10) (pe_lst (pa_cons (pe_tup (pa_cons pe_str (pa_cons (pe_op op_mulS (pv 9) pe_int) pa_nil))) pa_nil))) pa_nil)) pa_nil)) pe_bl (nomark _))))) (pss_one (ps_ret pe_bl)) pss_nil))))
      (pss_one (ps_ret (pe_and (pe_cmpR op_isBl (pe_cl c_is_layout hg hr (by decide) (by rfl) (pa_cons (pe_lst (pa_cons (pe_lst (pa_cons pe_str pa_nil)) pa_nil)) pa_nil)) pe_bl (nomark _)) (pe_one (pe_cmpR op_isBl (pe_cl c_is_layout hg hr (by decide) (by rfl) (pa_cons (pe_lst (pa_cons (pe_lst (pa_cons pe_str pa_nil)) pa_nil)) pa_nil)) pe_bl (nomark _)))))))), ?_⟩
    refine ⟨_, rfl, sc, _, rfl, .inl hS, _, _, rfl, ?_⟩
    refine ⟨1, _, rfl, _, rfl, ?_, ?_, ?_⟩
    · (repeat' split) <;> omega
    · (repeat' split) <;> omega
    refine for_it walk_range (fun i σ H' => Same H H' ∧ ∃ y1 y2 y3 y4 y5 y6 y7 y8 y9 y10 y11, σ = [some (.ref sc), y1, y2, y3, y4, y5, y6, y7, y8, y9, y10, y11]) ⟨Same.refl _, _, _, _, _, _, _, _, _, _, _, _, rfl⟩ (fun _ _ _ _ _ => True.intro) (fun i x σ Hx H1 hi p y => ?_) (fun σ H1 p => ?_)
    · obtain ⟨s1, y1, y2, y3, y4, y5, y6, y7, y8, y9, y10, y11, rfl⟩ := p
      obtain ⟨rfl, hx⟩ := y
      have hx : x = .int (0 + (i : Int)) := hx
      have e0 : (0 : Int) + (i : Int) = ((i : Nat) : Int) := Int.zero_add _
      rw [e0] at hx
      subst hx
      have hi4 : i < 60 := by
        refine Nat.lt_of_lt_of_le hi ?_
        (repeat' split) <;> omega
      have hS1 : SqL K H1 sc (ns.map V.int) := s1.seq hS
      refine ⟨_, rfl, _, rfl, sc, ns, i, rfl, hS1, hl, by omega, fun r H2 s2 nr R2 => ?_⟩
      have o22 : Rm.Off r H2 H2 := Off.refl _
      refine ⟨_, rfl, r, 6, 0, rfl, by decide, by decide, by show _ < 1000000000; omega, R2, fun a6 H3 a60 a61 R3 o3 => ⟨_, _, rfl, rfl, ?_⟩⟩
      refine ⟨_, rfl, r, 16, 0 + 1, rfl, by decide, by decide, by show _ < 1000000000; omega, R3, fun b6 H4 b60 b61 R4 o4 => ⟨_, _, rfl, rfl, ?_⟩⟩
      obtain ⟨a', rfl⟩ := Int.eq_ofNat_of_zero_le a60
      obtain ⟨b', rfl⟩ := Int.eq_ofNat_of_zero_le b60
      refine ⟨_, _, rfl, ?_⟩
      have o24 := o3.trans o4
      -- the layout
      refine ⟨_, rfl, _, rfl, _, rfl, _, _, rfl, rfl, powW (n := 40) (k := 9) (by decide) (by decide), (by show 2 ≤ sizeLine; decide), fun W nW => ?_⟩
      have sW := same_upd (o := .lst [.int 6, .int (10 ^ Int.toNat 9)]) nW
      have hW := upd_same (H := H4) (a := W) (o := .lst (([6, 10 ^ Int.toNat 9] : List Int).map V.int))
      have Wr : W ≠ r := by
        obtain ⟨_, _, _, hr4, _⟩ := id R4
        exact (ne_of_none hr4 nW).symm
      refine (fun (G : ∀ H5 : Hp, Same H4 H5 → H5 W = some (.lst (([6, 10 ^ Int.toNat 9] : List Int).map V.int)) → _) => G _ sW hW) (fun H5 sW hW => ?_)
      refine ⟨_, rfl, r, 2, 0 + 1 + 1, rfl, by decide, by decide, by show _ < 1000000000; omega, R4.same sW, fun c6 H6 c60 c61 R6 o6 => ?_⟩
      obtain ⟨g, ag, mg'⟩ := getI (ns := [6, 10 ^ Int.toNat 9]) c60 c61
      have hg9 : 1 ≤ g ∧ g ≤ 1000000000 := by
        have hm := List.mem_of_getElem? mg'
        have e9 : (10 : Int) ^ Int.toNat 9 = 1000000000 := rfl
        simp only [List.mem_cons, List.mem_nil_iff, or_false] at hm
        omega
      have o26 : Rm.Off r H2 H6 := (o24.sameTrans sW).trans o6
      refine ⟨W, _, _, .int g, rfl, rfl, SqL.of (o6 _ _ hW Wr), ag, ?_⟩
      refine ⟨r, _, 1 + a', 1 + b', g, rfl, R6, by show _ < 1000000000; omega, by omega, by omega, by omega, by omega, hg9.1, hg9.2, fun H7 p L o7 np R7 fl ok hLn => ?_⟩
      have o27 := o26.trans o7
      obtain ⟨rs, hp7, hR7, nd, hn⟩ := id fl
      obtain ⟨z0, z1, z2, hr6, _⟩ := id R6
      obtain ⟨w0, w1, w2, hr7, _⟩ := id R7
      have pr : p ≠ r := (ne_of_none hr6 np).symm
      have rsr : ∀ x ∈ rs, x ≠ r := fun x hx => (ne_of_none hr6 (hn x hx).1).symm
      -- it is a layout
      refine ⟨_, rfl, .ref p, layD L, rfl, Gd.Dp.q fl.lay.dp, lay_G ok, fun H8 s8 => ?_⟩
      rw [lay_ok ok]
      refine ⟨true, true, rfl, rfl, _, rfl, iteF ?_⟩
      -- the place
      refine ⟨_, rfl, _, rfl, r, _, _, rfl, by omega, by show (1 : Int) + a' < 10 ^ 40; omega, by show _ < 1000000000; omega, R7.same s8, fun li H9 l0 l1 R9 o9 => ?_⟩
      refine ⟨_, rfl, _, rfl, r, _, _, rfl, by omega, by show (1 : Int) + b' < 10 ^ 40; omega, by show _ < 1000000000; omega, R9, fun ki HA k0 k1 RA oA => ⟨_, _, rfl, ?_⟩⟩
      obtain ⟨li, rfl⟩ := Int.eq_ofNat_of_zero_le l0
      obtain ⟨ki, rfl⟩ := Int.eq_ofNat_of_zero_le k0
      have o7A : Rm.Off r H7 HA := ((Off.of s8).trans o9).trans oA
      have o2A := o27.trans o7A
      obtain ⟨vss, T, hvl⟩ := tb_of (K := K) (H := wo [r] H7) (c := p) (wo_at hp7 fun X hX => by rw [List.mem_singleton.mp hX]; exact pr) (rows_wo hR7 hn hr6 hr7) ok
      have TA : Tb K HA p rs vss (1 + b') := (T.same (wo_off o7A)).same wo_all
      clear T
      dsimp only [gName]
      rw [show ∀ q1 q2 q3 q4 q5 q6 q7 : Option V, List.set (List.set (List.set (List.set (List.set (List.set (List.set ([some (V.ref sc), y1, y2, y3, y4, y5, y6, y7, y8, y9, y10, y11] : List (Option V)) 1 q1) 2 q2) 3 q3) 4 q4) 5 q5) 6 q6) 7 q7 = [some (V.ref sc), q1, q2, q3, q4, q5, q6, q7, y8, y9, y10, y11] from fun _ _ _ _ _ _ _ => rfl]
      -- odd actions
      refine ⟨_, rfl, _, rfl, by omega, fun HB B xs sB hB gB hBl => ?_⟩
      refine ⟨B, rfl, ⟨_, SqL.of hB⟩, for_it (walk_list (xs := xs)) (fun u σ H' => Same HB H' ∧ ∃ y8, σ = [some (.ref sc), some (.int (i : Int)), some (.ref r), some (.int (1 + (a' : Int))), some (.int (1 + (b' : Int))), some (.ref p), some (.int (li : Int)), some (.int (ki : Int)), y8, y9, y10, y11]) ⟨Same.refl _, _, rfl⟩ (fun _ _ H' _ z => SqL.of (z.1 _ _ hB)) (fun u x σ HC HD hu z y => ?_) (fun σ HC z => ?_)⟩
      · obtain ⟨sC', y8, rfl⟩ := z
        obtain ⟨rfl, hx⟩ := y
        have gx := (gB x (List.mem_of_getElem? hx)).same sC'
        refine ⟨_, rfl, _, rfl, _, rfl, _, rfl, p, rs, vss, 1 + b', li, ki, x, rfl, (TA.same sB).same sC', by omega, by omega, gx, fun HE q1 sE gE => ?_⟩
        exact ⟨_, rfl, gE, fun HF sF => ⟨_, rfl, iteF ⟨(sC'.trans sE).trans sF, _, rfl⟩⟩⟩
      obtain ⟨sC', y8, rfl⟩ := z
      have TC := (TA.same sB).same sC'
      have sAC := sB.trans sC'
      -- odd tables
      refine ⟨_, rfl, p, rs, vss, 1 + b', rfl, TC, fun HD D ts sD hD gD hDl => ?_⟩
      refine ⟨D, rfl, ⟨_, SqL.of hD⟩, fun M nM => lc_it (walk_list (xs := ts)) (fun u H' => Same HD H' ∧ H' M = some (.lst [])) ⟨same_upd nM, upd_same⟩ (fun u H' _ z => SqL.of (z.1 _ _ hD)) (fun u x HE HF hu z y => ?_) (fun HE z => ?_)⟩
      · obtain ⟨sE, hM⟩ := z
        obtain ⟨rfl, hx⟩ := y
        have gx := (gD x (List.mem_of_getElem? hx)).same sE
        exact ⟨rfl, _, rfl, x, rfl, gx, fun HG sG => ⟨_, rfl, iteF ⟨sE.trans sG, sG _ _ hM⟩⟩⟩
      obtain ⟨sE, hM⟩ := z
      refine ⟨Nat.zero_le _, fun U nU => ?_⟩
      have sU := same_upd (o := .lst []) nU
      refine ⟨.list [], .list [], .lst (SqL.of (sU _ _ hM)) .nil, .lst (SqL.of upd_same) .nil, rfl, rfl, false, congrArg V.bl rfl, iteF ?_⟩
      have sAF : Same HA (upd HE U (.lst [])) := ((sAC.trans sD).trans sE).trans sU
      have TF := TA.same sAF
      refine (fun (G : ∀ HF : Hp, Same HA HF → Tb K HF p rs vss (1 + b') → _) => G _ sAF TF) (fun HF sAF TF => ?_)
      -- changed in place
      refine ⟨(by show 2 ≤ sizeLine; decide), fun T nT => ?_⟩
      have sT := same_upd (o := .tup [.str ("code" : String), .str ("" : String)]) nT
      have hT := upd_same (H := HF) (a := T) (o := .tup [.str ("code" : String), .str ("" : String)])
      have TG := TF.same sT
      have sAG := sAF.trans sT
      refine (fun (G : ∀ HG : Hp, Same HA HG → Tb K HG p rs vss (1 + b') → HG T = some (.tup [.str ("code" : String), .str ("" : String)]) → _) => G _ sAG TG hT) (fun HG sAG TG hT => ?_)
      have hil : li < vss.length := by omega
      obtain ⟨q1, hq1, hqv⟩ := TG.rv.at_ (List.getElem?_eq_getElem hil)
      have hm : vss[li].length = 1 + b' := (TG.g _ (List.getElem_mem hil)).1
      have hix : ixN vss[li].length (ki : Int) = some ki := by
        unfold ixN
        rw [if_pos (by omega), if_pos (by omega)]
        rfl
      refine ⟨_, rfl, _, rfl, p, _, (li : Int), .ref q1, rfl, rfl, SqL.of TG.at_, atI_nat (j := li) (get_map_ref hq1), _, rfl, q1, _, ki, ki, rfl, rfl, hqv, hix, ?_⟩
      have q1m := List.mem_of_getElem? hq1
      have q1p : q1 ≠ p := (hn q1 q1m).2
      have Tq : T ≠ q1 := ne_of hT hqv (by intro z; cases z)
      obtain ⟨vs, ev, hvs, hqv, hm⟩ : ∃ vs, vss[li] = vs ∧ vss[li]? = some vs ∧ HG q1 = some (.lst vs) ∧ vs.length = 1 + b' := ⟨_, rfl, List.getElem?_eq_getElem hil, hqv, hm⟩
      rw [ev]
      have o7G : Rm.Off r H7 HG := o7A.sameTrans sAG
      have hRG : Rows HG rs L := rows_go hR7 rsr o7G (R7.tk o7G)
      have cells := cells_tk (K := K) TG.rv hRG ok (tk_upd (zs := vs.set ki (.ref T)) hqv)
      have rvn : RV (upd HG q1 (.lst (vs.set ki (.ref T)))) rs (vss.set li (vs.set ki (.ref T))) := TG.rv.set nd hq1
      have hpn : upd HG q1 (.lst (vs.set ki (.ref T))) p = some (.lst (rs.map V.ref)) := by rw [upd_ne q1p.symm]; exact TG.at_
      have hTn : upd HG q1 (.lst (vs.set ki (.ref T))) T = some (.tup [.str ("code" : String), .str ("" : String)]) := by rw [upd_ne Tq]; exact hT
      have dqT : Dq K (upd HG q1 (.lst (vs.set ki (.ref T)))) (.ref T) badD := .tup (SqT.of hTn) (.cons (.str _) (.cons (.str _) .nil))
      obtain ⟨ds, hD, hall, rr, hrr, hbad⟩ := rows_at (K := K) (i := li) (j := ki) (vs := vs.set ki (.ref T)) (v := .ref T) (db := badD) rvn (fun ws hw => by
        rcases List.mem_or_eq_of_mem_set hw with z | z
        · exact ⟨by rw [(cells ws z).1]; omega, (cells ws z).2.gi (by decide) (by decide)⟩
        · rw [z, List.length_set]
          refine ⟨by omega, fun u hu => ?_⟩
          rcases List.mem_or_eq_of_mem_set hu with y | y
          · exact ((cells vs (List.mem_of_getElem? hvs)).2 u y).gi (by decide) (by decide)
          · rw [y]; exact ⟨badD, dqT, bad_ag⟩) (by rw [List.getElem?_set_self hil]) (by rw [List.getElem?_set_self (by omega)]) dqT bad_ag
      have lG : layG (.list ds) := ⟨fun r hr => by
        obtain ⟨r', rfl, _, e⟩ := hall r hr
        exact fun d hd => (e d hd).act, fun r hr => by
        obtain ⟨r', rfl, e, _⟩ := hall r hr
        show r'.length ≤ 400
        omega⟩
      have lB : layB (.list ds) = false := by
        show (formB (.list ds) && rowsOk (ds.length : Nat) 0 ds) = false
        rw [rows_bad (fun i => bad_stand i) ds 0 li rr hrr hbad, Bool.and_false]
      refine ⟨_, rfl, .ref p, .list ds, rfl, .lst (SqL.of hpn) hD, lG, fun HX sX => ?_⟩
      rw [lB]
      refine ⟨false, false, rfl, rfl, _, rfl, iteF ⟨fun b o h => ?_, _, _, _, _, _, _, _, _, _, _, _, rfl⟩⟩
      have h1 := s1 b o h
      have h2 := s2 b o h1
      have br : b ≠ r := ne_of_none h1 nr
      have h6 := o26 b o h2 br
      have bq : b ≠ q1 := ne_of_none h6 (hn q1 q1m).1
      have hG := o7G b o (o7 b o h6 br) br
      refine sX b o ?_
      rw [upd_ne bq]; exact hG
    · obtain ⟨s1, y1, y2, y3, y4, y5, y6, y7, y8, y9, y10, y11, rfl⟩ := p
      refine ⟨_, rfl, for_it (walk_str (z := signs)) (fun u σ H' => Same H H' ∧ ∃ y9 y10, σ = [some (.ref sc), y1, y2, y3, y4, y5, y6, y7, y8, y9, y10, y11]) ⟨s1, _, _, rfl⟩ (fun _ _ _ _ _ => True.intro) (fun u x σ Hx H2 hu p y => ?_) (fun σ H2 p => ?_)⟩
      · obtain ⟨s2, y9, y10, rfl⟩ := p
        obtain ⟨rfl, c, hc, rfl⟩ := y
        have hcm : c ∈ signs.cps.toList := by
          rw [← Array.getElem?_toList] at hc
          exact List.mem_of_getElem? hc
        obtain ⟨fa, fb, fc⟩ := sign_facts c hcm
        refine ⟨_, rfl, (by show 2 ≤ sizeLine; decide), fun p1 n1 => ?_⟩
        have t1 := same_upd (o := .tup [.str ("code" : String), .str (sC c)]) n1
        have e1 := upd_same (H := H2) (a := p1) (o := .tup [.str ("code" : String), .str (sC c)])
        refine (fun (G : ∀ H3 : Hp, Same H2 H3 → H3 p1 = some (.tup [.str ("code" : String), .str (sC c)]) → _) => G _ t1 e1) (fun H3 t1 e1 => ?_)
        refine ⟨_, rfl, _, _, rfl, rfl, (by show 2 ≤ sizeLine; decide), (by show 2 ≤ sizeLine; decide), fun p2 n2 => ?_⟩
        have t2 := same_upd (o := .tup [.str ("code" : String), .str (("a" : Str) ++ sC c)]) n2
        have e2 := upd_same (H := H3) (a := p2) (o := .tup [.str ("code" : String), .str (("a" : Str) ++ sC c)])
        refine (fun (G : ∀ H4 : Hp, Same H3 H4 → H4 p2 = some (.tup [.str ("code" : String), .str (("a" : Str) ++ sC c)]) → _) => G _ t2 e2) (fun H4 t2 e2 => ?_)
        refine ⟨_, rfl, _, 8, rfl, rfl, mul_ok (.inl rfl), ?_⟩
        refine ⟨_, rfl, _, _, rfl, rfl, (by show 2 ≤ sizeLine; decide), _, _, rfl, rfl, (by show 3 ≤ sizeLine; decide), (by show 2 ≤ sizeLine; decide), fun p3 n3 => ?_⟩
        have t3 := same_upd (o := .tup [.str ("code" : String), .str (("0" : Str) ++ sC c ++ ("0" : Str))]) n3
        have e3 := upd_same (H := H4) (a := p3) (o := .tup [.str ("code" : String), .str (("0" : Str) ++ sC c ++ ("0" : Str))])
        refine (fun (G : ∀ H5 : Hp, Same H4 H5 → H5 p3 = some (.tup [.str ("code" : String), .str (("0" : Str) ++ sC c ++ ("0" : Str))]) → _) => G _ t3 e3) (fun H5 t3 e3 => ?_)
        refine ⟨(by show 5 ≤ sizeLine; decide), fun p4 n4 => ?_⟩
        have t4 := same_upd (o := .tup [.str ("dual" : String), .str (Txt.mul (sC c) 8), .ref p3, .int 1, .str ("time" : String)]) n4
        have e4 := upd_same (H := H5) (a := p4) (o := .tup [.str ("dual" : String), .str (Txt.mul (sC c) 8), .ref p3, .int 1, .str ("time" : String)])
        refine (fun (G : ∀ H6 : Hp, Same H5 H6 → H6 p4 = some (.tup [.str ("dual" : String), .str (Txt.mul (sC c) 8), .ref p3, .int 1, .str ("time" : String)]) → _) => G _ t4 e4) (fun H6 t4 e4 => ?_)
        have d1 : Dq K H6 (.ref p1) (.tuple [.str ("code" : String), .str (sC c)]) := .tup (SqT.of ((((t2.trans t3).trans t4)) _ _ e1)) (.cons (.str _) (.cons (.str _) .nil))
        have d2 : Dq K H6 (.ref p2) (.tuple [.str ("code" : String), .str (("a" : Str) ++ sC c)]) := .tup (SqT.of ((t3.trans t4) _ _ e2)) (.cons (.str _) (.cons (.str _) .nil))
        have d4 : Dq K H6 (.ref p4) (.tuple [.str ("dual" : String), .str (Txt.mul (sC c) 8), .tuple [.str ("code" : String), .str (("0" : Str) ++ sC c ++ ("0" : Str))], .int 1, .str ("time" : String)]) := .tup (SqT.of e4) (.cons (.str _) (.cons (.str _) (.cons (.tup (SqT.of (t4 _ _ e3)) (.cons (.str _) (.cons (.str _) .nil))) (.cons (.int _) (.cons (.str _) .nil)))))
        have dS : DqAll K H6 [.ref p1, .ref p2, .ref p4] (rowS c) := .cons d1 (.cons d2 (.cons d4 .nil))
        have s6 : Same H H6 := (((s2.trans t1).trans t2).trans t3).trans t4
        refine (fun (G : ∀ H6 : Hp, Same H H6 → DqAll K H6 [.ref p1, .ref p2, .ref p4] (rowS c) → _) => G _ s6 dS) (fun H6 s6 dS => ?_)
        refine ⟨(by show 3 ≤ sizeLine; decide), fun p5 n5 => ?_⟩
        have t5 := same_upd (o := .lst [.ref p1, .ref p2, .ref p4]) n5
        have e5 := upd_same (H := H6) (a := p5) (o := .lst [.ref p1, .ref p2, .ref p4])
        have dS7 := dS.same t5
        refine (fun (G : ∀ H7 : Hp, Same H6 H7 → H7 p5 = some (.lst [.ref p1, .ref p2, .ref p4]) → DqAll K H7 [.ref p1, .ref p2, .ref p4] (rowS c) → _) => G _ t5 e5 dS7) (fun H7 t5 e5 dS7 => ?_)
        refine ⟨_, rfl, (by show 1 ≤ sizeLine; decide), fun p6 n6 => ?_⟩
        have t6 := same_upd (o := .lst [.ref p5]) n6
        have e6 := upd_same (H := H7) (a := p6) (o := .lst [.ref p5])
        have e56 := t6 _ _ e5
        have dS8 := dS7.same t6
        refine (fun (G : ∀ H8 : Hp, Same H7 H8 → H8 p6 = some (.lst [.ref p5]) → H8 p5 = some (.lst [.ref p1, .ref p2, .ref p4]) → DqAll K H8 [.ref p1, .ref p2, .ref p4] (rowS c) → _) => G _ t6 e6 e56 dS8) (fun H8 t6 e6 e56 dS8 => ?_)
        have kT : ∀ d ∈ rowT c, kindS d = "str" → SeqAt.shaped d = true := fun d hd k => by
          have hd : d ∈ [PyData.tuple [.str ("code" : String), .str (sC c)], .tuple [.str ("code" : String), .str (("a" : Str) ++ sC c)], .tuple [.str ("dual" : String), .str (Txt.mul (sC c) 8), .tuple [.str ("code" : String), .str (("0" : Str) ++ sC c ++ ("0" : Str))], .int 1, .str ("time" : String)], .tuple [.str ("code" : String), .str (Txt.mul (sC c) 9)]] := hd
          simp only [List.mem_cons, List.mem_nil_iff, or_false] at hd
          rcases hd with rfl | rfl | rfl | rfl <;> exact absurd k (show ¬ ("tuple" : String) = "str" by decide)
        have gT : layG (.list [.list (rowT c)]) := lay_G1 fc kT (by show 4 ≤ 400; decide)
        have gS : layG (.list [.list (rowS c)]) := lay_G1 (szAll_of fun d hd => szAll_mem fc d (List.mem_append.mpr (.inl hd))) (fun d hd => kT d (List.mem_append.mpr (.inl hd))) (by show 3 ≤ 400; decide)
        refine ⟨.ref p6, .list [.list (rowS c)], rfl, .lst (SqL.of e6) (.cons (.lst (SqL.of e56) dS8) .nil), gS, fun H9 s9 => ?_⟩
        rw [fa]
        refine ⟨true, true, rfl, rfl, _, rfl, iteF ?_⟩
        have h59 := s9 _ _ e56
        have dS9 := dS8.same s9
        have sH9 : Same H H9 := ((s6.trans t5).trans t6).trans s9
        refine ⟨_, rfl, _, rfl, _, 9, rfl, rfl, mul_ok (.inr rfl), (by show 2 ≤ sizeLine; decide), fun p7 n7 => ?_⟩
        have t7 := same_upd (o := .tup [.str ("code" : String), .str (Txt.mul (sC c) 9)]) n7
        have e7 := upd_same (H := H9) (a := p7) (o := .tup [.str ("code" : String), .str (Txt.mul (sC c) 9)])
        refine (fun (G : ∀ HA : Hp, Same H9 HA → HA p7 = some (.tup [.str ("code" : String), .str (Txt.mul (sC c) 9)]) → _) => G _ t7 e7) (fun HA t7 e7 => ?_)
        refine ⟨(by show 1 ≤ sizeLine; decide), fun p8 n8 => ?_⟩
        have t8 := same_upd (o := .lst [.ref p7]) n8
        have e8 := upd_same (H := HA) (a := p8) (o := .lst [.ref p7])
        refine (fun (G : ∀ HB : Hp, Same HA HB → HB p8 = some (.lst [.ref p7]) → _) => G _ t8 e8) (fun HB t8 e8 => ?_)
        refine ⟨p5, p8, _, _, rfl, rfl, t8 _ _ (t7 _ _ h59), e8, (by show 4 ≤ sizeLine; decide), fun pA nA => ?_⟩
        have tA := same_upd (o := .lst ([.ref p1, .ref p2, .ref p4] ++ [.ref p7])) nA
        have eA := upd_same (H := HB) (a := pA) (o := .lst ([.ref p1, .ref p2, .ref p4] ++ [.ref p7]))
        refine (fun (G : ∀ HC : Hp, Same HB HC → HC pA = some (.lst ([.ref p1, .ref p2, .ref p4] ++ [.ref p7])) → _) => G _ tA eA) (fun HC tA eA => ?_)
        refine ⟨(by show 1 ≤ sizeLine; decide), fun pB nB => ?_⟩
        have tB := same_upd (o := .lst [.ref pA]) nB
        have eB := upd_same (H := HC) (a := pB) (o := .lst [.ref pA])
        have s79 := ((t7.trans t8).trans tA).trans tB
        have d7 : Dq K (upd HC pB (.lst [.ref pA])) (.ref p7) (.tuple [.str ("code" : String), .str (Txt.mul (sC c) 9)]) := .tup (SqT.of (((t8.trans tA).trans tB) _ _ e7)) (.cons (.str _) (.cons (.str _) .nil))
        refine ⟨.ref pB, .list [.list (rowT c)], rfl, .lst (SqL.of eB) (.cons (.lst (SqL.of (tB _ _ eA)) (DqAll.append (dS9.same s79) (.cons d7 .nil))) .nil), gT, fun HD sD => ?_⟩
        rw [fb]
        refine ⟨false, false, rfl, rfl, _, rfl, ?_⟩
        exact iteF ⟨(sH9.trans s79).trans sD, _, _, rfl⟩
      · obtain ⟨s2, y9, y10, rfl⟩ := p
        refine ⟨(by show 1 ≤ sizeLine; decide), fun p1 n1 => ⟨(by show 1 ≤ sizeLine; decide), fun p2 n2 => ?_⟩⟩
        have t1 := same_upd (o := .lst [.str ("none" : String)]) n1
        have t2 := same_upd (o := .lst [.ref p1]) n2
        refine ⟨.ref p2, .list [.list [.str ("none" : String)]], rfl, .lst (SqL.of upd_same) (.cons (.lst (SqL.of (t2 _ _ upd_same)) (.cons (.str _) .nil)) .nil), lay_G1 (by decide +kernel) (fun d hd _ => by rw [List.mem_singleton.mp hd]; decide +kernel) (by decide), fun H3 s3 => ?_⟩
        rw [none_ok]
        refine ⟨true, true, rfl, rfl, true, rfl, iteT ?_⟩
        refine ⟨(by show 1 ≤ sizeLine; decide), fun p3 n3 => ⟨(by show 1 ≤ sizeLine; decide), fun p4 n4 => ?_⟩⟩
        have t4 := same_upd (o := .lst [.ref p3]) n4
        refine ⟨.ref p4, .list [.list [.str ("through" : String)]], rfl, .lst (SqL.of upd_same) (.cons (.lst (SqL.of (t4 _ _ upd_same)) (.cons (.str _) .nil)) .nil), lay_G1 (by decide +kernel) (fun d hd _ => by rw [List.mem_singleton.mp hd]; decide +kernel) (by decide), fun H5 s5 => ?_⟩
        rw [thru_bad]
        exact ⟨false, false, rfl, rfl, q H5⟩
end
end K01

set_option Elab.async false
set_option linter.all false
set_option maxRecDepth 100000
set_option maxHeartbeats 8000000
namespace K01
open PySem PySem.Spec PyProof.Rows L2 Gd Rm
theorem at_mk {K : PySem.W.Frag} {h : Heap} {mg : Str → Option Value} {x : Str} {st : Stmt} {ps : List Str} {f : Addr} {od an : Option Addr} {sl : Array (Option Value)} {oc kV dc pm cd ct : Value} (X : K.In h) (G : h.Ns mainGlobals mg)
    (a : PySem.W.nsIn K mainGlobals x = some (some (.ref f))) (l : K.lookup f = some ⟨oc, od, .func (PySem.W.fnOf x x (defArgs st) (defBody st) (defScope st) .none kV dc pm an cd ct), sl⟩) (c : PySem.W.codeIn K cd x = true) (k : PySem.W.keepIn K (.ref f) = true)
    (hb : ∀ (kV doc pm : Value) (an : Option Addr) (cdv ct : Value) (us : List Value), us.length = ps.length → bindArgs (PySem.W.fnOf x x (defArgs st) (defBody st) (defScope st) .none kV doc pm an cdv ct) ⟨us, []⟩ = pure (ps.zip us)) : At K mg x st ps :=
  ⟨_, _, fun_mk l c k, PySem.W.mg_of X G a, (fun_mk l c k).binds hb⟩
theorem all_mk {l : PySem.W.OpenLaw} {w : World} {K : PySem.W.Frag} {h : Heap} {mg : Str → Option Value} {fa : Addr} (X : K.In h) (G : h.Ns mainGlobals mg) (hfa : mg "law" = some (.ref fa))
    {f0 : Addr} {od0 an0 : Option Addr} {sl0 : Array (Option Value)} {oc0 kV0 dc0 pm0 cd0 ct0 : Value}
    {f1 : Addr} {od1 an1 : Option Addr} {sl1 : Array (Option Value)} {oc1 kV1 dc1 pm1 cd1 ct1 : Value}
    {f2 : Addr} {od2 an2 : Option Addr} {sl2 : Array (Option Value)} {oc2 kV2 dc2 pm2 cd2 ct2 : Value}
    {f3 : Addr} {od3 an3 : Option Addr} {sl3 : Array (Option Value)} {oc3 kV3 dc3 pm3 cd3 ct3 : Value}
    {f4 : Addr} {od4 an4 : Option Addr} {sl4 : Array (Option Value)} {oc4 kV4 dc4 pm4 cd4 ct4 : Value}
    {f5 : Addr} {od5 an5 : Option Addr} {sl5 : Array (Option Value)} {oc5 kV5 dc5 pm5 cd5 ct5 : Value}
    {f6 : Addr} {od6 an6 : Option Addr} {sl6 : Array (Option Value)} {oc6 kV6 dc6 pm6 cd6 ct6 : Value}
    {f7 : Addr} {od7 an7 : Option Addr} {sl7 : Array (Option Value)} {oc7 kV7 dc7 pm7 cd7 ct7 : Value}
    {f8 : Addr} {od8 an8 : Option Addr} {sl8 : Array (Option Value)} {oc8 kV8 dc8 pm8 cd8 ct8 : Value}
    {f9 : Addr} {od9 an9 : Option Addr} {sl9 : Array (Option Value)} {oc9 kV9 dc9 pm9 cd9 ct9 : Value}
    {f10 : Addr} {od10 an10 : Option Addr} {sl10 : Array (Option Value)} {oc10 kV10 dc10 pm10 cd10 ct10 : Value}
    {f11 : Addr} {od11 an11 : Option Addr} {sl11 : Array (Option Value)} {oc11 kV11 dc11 pm11 cd11 ct11 : Value}
    {f12 : Addr} {od12 an12 : Option Addr} {sl12 : Array (Option Value)} {oc12 kV12 dc12 pm12 cd12 ct12 : Value}
    {f13 : Addr} {od13 an13 : Option Addr} {sl13 : Array (Option Value)} {oc13 kV13 dc13 pm13 cd13 ct13 : Value}
    {f14 : Addr} {od14 an14 : Option Addr} {sl14 : Array (Option Value)} {oc14 kV14 dc14 pm14 cd14 ct14 : Value}
    {f15 : Addr} {od15 an15 : Option Addr} {sl15 : Array (Option Value)} {oc15 kV15 dc15 pm15 cd15 ct15 : Value}
    {f16 : Addr} {od16 an16 : Option Addr} {sl16 : Array (Option Value)} {oc16 kV16 dc16 pm16 cd16 ct16 : Value}
    {f17 : Addr} {od17 an17 : Option Addr} {sl17 : Array (Option Value)} {oc17 kV17 dc17 pm17 cd17 ct17 : Value}
    {f18 : Addr} {od18 an18 : Option Addr} {sl18 : Array (Option Value)} {oc18 kV18 dc18 pm18 cd18 ct18 : Value}
    {f19 : Addr} {od19 an19 : Option Addr} {sl19 : Array (Option Value)} {oc19 kV19 dc19 pm19 cd19 ct19 : Value}
    {f20 : Addr} {od20 an20 : Option Addr} {sl20 : Array (Option Value)} {oc20 kV20 dc20 pm20 cd20 ct20 : Value}
    {f21 : Addr} {od21 an21 : Option Addr} {sl21 : Array (Option Value)} {oc21 kV21 dc21 pm21 cd21 ct21 : Value}
    {f22 : Addr} {od22 an22 : Option Addr} {sl22 : Array (Option Value)} {oc22 kV22 dc22 pm22 cd22 ct22 : Value}
    {f23 : Addr} {od23 an23 : Option Addr} {sl23 : Array (Option Value)} {oc23 kV23 dc23 pm23 cd23 ct23 : Value}
    {f24 : Addr} {od24 an24 : Option Addr} {sl24 : Array (Option Value)} {oc24 kV24 dc24 pm24 cd24 ct24 : Value}
    {f25 : Addr} {od25 an25 : Option Addr} {sl25 : Array (Option Value)} {oc25 kV25 dc25 pm25 cd25 ct25 : Value}
    {tk0 : Tok}
    {tk1 : Tok}
    {tk2 : Tok}
    {tk3 : Tok}
    {tk4 : Tok}
    {g5 : Addr} {gs5 : Array (Option Value)} {gn5 : Nat} {tk5_0 tk5_1 tk5_2 : Tok}
    {g6 : Addr} {gs6 : Array (Option Value)} {gn6 : Nat} {tk6_0 tk6_1 tk6_2 : Tok}
    {x0C x0f x0N x0cc x0cda : Addr} {x0nm x0q : Str} {x0bs x0bm x0sub : List Value} {x0sn : List Str} {x0ab : Bool} {x0col : Option Bool} {x0dd : Option Addr} {x0m0 x0m1 x0m2 x0m3 x0m5 : Option Value}
    {x0oc x0doc x0pm x0ct x0cl x0ccl : Value} {x0od x0an x0cld x0cdd : Option Addr} {x0osl x0csl x0ccs : Array (Option Value)} {x0vs : Array Value} {x0file : Str} {x0tf : Tok}
    (a0 : PySem.W.nsIn K mainGlobals "is_an_integer" = some (some (.ref f0))) (l0 : K.lookup f0 = some ⟨oc0, od0, .func (PySem.W.fnOf "is_an_integer" "is_an_integer" (defArgs s_is_an_integer) (defBody s_is_an_integer) (defScope s_is_an_integer) .none kV0 dc0 pm0 an0 cd0 ct0), sl0⟩) (c0 : PySem.W.codeIn K cd0 "is_an_integer" = true) (k0 : PySem.W.keepIn K (.ref f0) = true)
    (a1 : PySem.W.nsIn K mainGlobals "is_between" = some (some (.ref f1))) (l1 : K.lookup f1 = some ⟨oc1, od1, .func (PySem.W.fnOf "is_between" "is_between" (defArgs s_is_between) (defBody s_is_between) (defScope s_is_between) .none kV1 dc1 pm1 an1 cd1 ct1), sl1⟩) (c1 : PySem.W.codeIn K cd1 "is_between" = true) (k1 : PySem.W.keepIn K (.ref f1) = true)
    (a2 : PySem.W.nsIn K mainGlobals "is_code" = some (some (.ref f2))) (l2 : K.lookup f2 = some ⟨oc2, od2, .func (PySem.W.fnOf "is_code" "is_code" (defArgs s_is_code) (defBody s_is_code) (defScope s_is_code) .none kV2 dc2 pm2 an2 cd2 ct2), sl2⟩) (c2 : PySem.W.codeIn K cd2 "is_code" = true) (k2 : PySem.W.keepIn K (.ref f2) = true)
    (a3 : PySem.W.nsIn K mainGlobals "is_code_action" = some (some (.ref f3))) (l3 : K.lookup f3 = some ⟨oc3, od3, .func (PySem.W.fnOf "is_code_action" "is_code_action" (defArgs s_is_code_action) (defBody s_is_code_action) (defScope s_is_code_action) .none kV3 dc3 pm3 an3 cd3 ct3), sl3⟩) (c3 : PySem.W.codeIn K cd3 "is_code_action" = true) (k3 : PySem.W.keepIn K (.ref f3) = true)
    (a4 : PySem.W.nsIn K mainGlobals "is_layer_action" = some (some (.ref f4))) (l4 : K.lookup f4 = some ⟨oc4, od4, .func (PySem.W.fnOf "is_layer_action" "is_layer_action" (defArgs s_is_layer_action) (defBody s_is_layer_action) (defScope s_is_layer_action) .none kV4 dc4 pm4 an4 cd4 ct4), sl4⟩) (c4 : PySem.W.codeIn K cd4 "is_layer_action" = true) (k4 : PySem.W.keepIn K (.ref f4) = true)
    (a5 : PySem.W.nsIn K mainGlobals "is_hold" = some (some (.ref f5))) (l5 : K.lookup f5 = some ⟨oc5, od5, .func (PySem.W.fnOf "is_hold" "is_hold" (defArgs s_is_hold) (defBody s_is_hold) (defScope s_is_hold) .none kV5 dc5 pm5 an5 cd5 ct5), sl5⟩) (c5 : PySem.W.codeIn K cd5 "is_hold" = true) (k5 : PySem.W.keepIn K (.ref f5) = true)
    (a6 : PySem.W.nsIn K mainGlobals "is_dual_action" = some (some (.ref f6))) (l6 : K.lookup f6 = some ⟨oc6, od6, .func (PySem.W.fnOf "is_dual_action" "is_dual_action" (defArgs s_is_dual_action) (defBody s_is_dual_action) (defScope s_is_dual_action) .none kV6 dc6 pm6 an6 cd6 ct6), sl6⟩) (c6 : PySem.W.codeIn K cd6 "is_dual_action" = true) (k6 : PySem.W.keepIn K (.ref f6) = true)
    (a7 : PySem.W.nsIn K mainGlobals "can_stand" = some (some (.ref f7))) (l7 : K.lookup f7 = some ⟨oc7, od7, .func (PySem.W.fnOf "can_stand" "can_stand" (defArgs s_can_stand) (defBody s_can_stand) (defScope s_can_stand) .none kV7 dc7 pm7 an7 cd7 ct7), sl7⟩) (c7 : PySem.W.codeIn K cd7 "can_stand" = true) (k7 : PySem.W.keepIn K (.ref f7) = true)
    (a8 : PySem.W.nsIn K mainGlobals "has_layout_form" = some (some (.ref f8))) (l8 : K.lookup f8 = some ⟨oc8, od8, .func (PySem.W.fnOf "has_layout_form" "has_layout_form" (defArgs s_has_layout_form) (defBody s_has_layout_form) (defScope s_has_layout_form) .none kV8 dc8 pm8 an8 cd8 ct8), sl8⟩) (c8 : PySem.W.codeIn K cd8 "has_layout_form" = true) (k8 : PySem.W.keepIn K (.ref f8) = true)
    (a9 : PySem.W.nsIn K mainGlobals "check_layout" = some (some (.ref f9))) (l9 : K.lookup f9 = some ⟨oc9, od9, .func (PySem.W.fnOf "check_layout" "check_layout" (defArgs s_check_layout) (defBody s_check_layout) (defScope s_check_layout) .none kV9 dc9 pm9 an9 cd9 ct9), sl9⟩) (c9 : PySem.W.codeIn K cd9 "check_layout" = true) (k9 : PySem.W.keepIn K (.ref f9) = true)
    (a10 : PySem.W.nsIn K mainGlobals "is_layout" = some (some (.ref f10))) (l10 : K.lookup f10 = some ⟨oc10, od10, .func (PySem.W.fnOf "is_layout" "is_layout" (defArgs s_is_layout) (defBody s_is_layout) (defScope s_is_layout) .none kV10 dc10 pm10 an10 cd10 ct10), sl10⟩) (c10 : PySem.W.codeIn K cd10 "is_layout" = true) (k10 : PySem.W.keepIn K (.ref f10) = true)
    (a11 : PySem.W.nsIn K mainGlobals "_law_spin" = some (some (.ref f11))) (l11 : K.lookup f11 = some ⟨oc11, od11, .func (PySem.W.fnOf "_law_spin" "_law_spin" (defArgs s__law_spin) (defBody s__law_spin) (defScope s__law_spin) .none kV11 dc11 pm11 an11 cd11 ct11), sl11⟩) (c11 : PySem.W.codeIn K cd11 "_law_spin" = true) (k11 : PySem.W.keepIn K (.ref f11) = true)
    (a12 : PySem.W.nsIn K mainGlobals "_law_reel" = some (some (.ref f12))) (l12 : K.lookup f12 = some ⟨oc12, od12, .func (PySem.W.fnOf "_law_reel" "_law_reel" (defArgs s__law_reel) (defBody s__law_reel) (defScope s__law_reel) .none kV12 dc12 pm12 an12 cd12 ct12), sl12⟩) (c12 : PySem.W.codeIn K cd12 "_law_reel" = true) (k12 : PySem.W.keepIn K (.ref f12) = true)
    (a13 : PySem.W.nsIn K mainGlobals "_law_code" = some (some (.ref f13))) (l13 : K.lookup f13 = some ⟨oc13, od13, .func (PySem.W.fnOf "_law_code" "_law_code" (defArgs s__law_code) (defBody s__law_code) (defScope s__law_code) .none kV13 dc13 pm13 an13 cd13 ct13), sl13⟩) (c13 : PySem.W.codeIn K cd13 "_law_code" = true) (k13 : PySem.W.keepIn K (.ref f13) = true)
    (a14 : PySem.W.nsIn K mainGlobals "_law_action" = some (some (.ref f14))) (l14 : K.lookup f14 = some ⟨oc14, od14, .func (PySem.W.fnOf "_law_action" "_law_action" (defArgs s__law_action) (defBody s__law_action) (defScope s__law_action) .none kV14 dc14 pm14 an14 cd14 ct14), sl14⟩) (c14 : PySem.W.codeIn K cd14 "_law_action" = true) (k14 : PySem.W.keepIn K (.ref f14) = true)
    (a15 : PySem.W.nsIn K mainGlobals "_law_layout" = some (some (.ref f15))) (l15 : K.lookup f15 = some ⟨oc15, od15, .func (PySem.W.fnOf "_law_layout" "_law_layout" (defArgs s__law_layout) (defBody s__law_layout) (defScope s__law_layout) .none kV15 dc15 pm15 an15 cd15 ct15), sl15⟩) (c15 : PySem.W.codeIn K cd15 "_law_layout" = true) (k15 : PySem.W.keepIn K (.ref f15) = true)
    (a16 : PySem.W.nsIn K mainGlobals "_law_is_number" = some (some (.ref f16))) (l16 : K.lookup f16 = some ⟨oc16, od16, .func (PySem.W.fnOf "_law_is_number" "_law_is_number" (defArgs s__law_is_number) (defBody s__law_is_number) (defScope s__law_is_number) .none kV16 dc16 pm16 an16 cd16 ct16), sl16⟩) (c16 : PySem.W.codeIn K cd16 "_law_is_number" = true) (k16 : PySem.W.keepIn K (.ref f16) = true)
    (a17 : PySem.W.nsIn K mainGlobals "_law_is_code" = some (some (.ref f17))) (l17 : K.lookup f17 = some ⟨oc17, od17, .func (PySem.W.fnOf "_law_is_code" "_law_is_code" (defArgs s__law_is_code) (defBody s__law_is_code) (defScope s__law_is_code) .none kV17 dc17 pm17 an17 cd17 ct17), sl17⟩) (c17 : PySem.W.codeIn K cd17 "_law_is_code" = true) (k17 : PySem.W.keepIn K (.ref f17) = true)
    (a18 : PySem.W.nsIn K mainGlobals "_law_is_hold" = some (some (.ref f18))) (l18 : K.lookup f18 = some ⟨oc18, od18, .func (PySem.W.fnOf "_law_is_hold" "_law_is_hold" (defArgs s__law_is_hold) (defBody s__law_is_hold) (defScope s__law_is_hold) .none kV18 dc18 pm18 an18 cd18 ct18), sl18⟩) (c18 : PySem.W.codeIn K cd18 "_law_is_hold" = true) (k18 : PySem.W.keepIn K (.ref f18) = true)
    (a19 : PySem.W.nsIn K mainGlobals "_law_is_right" = some (some (.ref f19))) (l19 : K.lookup f19 = some ⟨oc19, od19, .func (PySem.W.fnOf "_law_is_right" "_law_is_right" (defArgs s__law_is_right) (defBody s__law_is_right) (defScope s__law_is_right) .none kV19 dc19 pm19 an19 cd19 ct19), sl19⟩) (c19 : PySem.W.codeIn K cd19 "_law_is_right" = true) (k19 : PySem.W.keepIn K (.ref f19) = true)
    (a20 : PySem.W.nsIn K mainGlobals "_law_fault" = some (some (.ref f20))) (l20 : K.lookup f20 = some ⟨oc20, od20, .func (PySem.W.fnOf "_law_fault" "_law_fault" (defArgs s__law_fault) (defBody s__law_fault) (defScope s__law_fault) .none kV20 dc20 pm20 an20 cd20 ct20), sl20⟩) (c20 : PySem.W.codeIn K cd20 "_law_fault" = true) (k20 : PySem.W.keepIn K (.ref f20) = true)
    (a21 : PySem.W.nsIn K mainGlobals "_law_with" = some (some (.ref f21))) (l21 : K.lookup f21 = some ⟨oc21, od21, .func (PySem.W.fnOf "_law_with" "_law_with" (defArgs s__law_with) (defBody s__law_with) (defScope s__law_with) .none kV21 dc21 pm21 an21 cd21 ct21), sl21⟩) (c21 : PySem.W.codeIn K cd21 "_law_with" = true) (k21 : PySem.W.keepIn K (.ref f21) = true)
    (a22 : PySem.W.nsIn K mainGlobals "_law_odd_actions" = some (some (.ref f22))) (l22 : K.lookup f22 = some ⟨oc22, od22, .func (PySem.W.fnOf "_law_odd_actions" "_law_odd_actions" (defArgs s__law_odd_actions) (defBody s__law_odd_actions) (defScope s__law_odd_actions) .none kV22 dc22 pm22 an22 cd22 ct22), sl22⟩) (c22 : PySem.W.codeIn K cd22 "_law_odd_actions" = true) (k22 : PySem.W.keepIn K (.ref f22) = true)
    (a23 : PySem.W.nsIn K mainGlobals "_law_odd_tables" = some (some (.ref f23))) (l23 : K.lookup f23 = some ⟨oc23, od23, .func (PySem.W.fnOf "_law_odd_tables" "_law_odd_tables" (defArgs s__law_odd_tables) (defBody s__law_odd_tables) (defScope s__law_odd_tables) .none kV23 dc23 pm23 an23 cd23 ct23), sl23⟩) (c23 : PySem.W.codeIn K cd23 "_law_odd_tables" = true) (k23 : PySem.W.keepIn K (.ref f23) = true)
    (a24 : PySem.W.nsIn K mainGlobals "_law_told_right" = some (some (.ref f24))) (l24 : K.lookup f24 = some ⟨oc24, od24, .func (PySem.W.fnOf "_law_told_right" "_law_told_right" (defArgs s__law_told_right) (defBody s__law_told_right) (defScope s__law_told_right) .none kV24 dc24 pm24 an24 cd24 ct24), sl24⟩) (c24 : PySem.W.codeIn K cd24 "_law_told_right" = true) (k24 : PySem.W.keepIn K (.ref f24) = true)
    (a25 : PySem.W.nsIn K mainGlobals "law" = some (some (.ref f25))) (l25 : K.lookup f25 = some ⟨oc25, od25, .func (PySem.W.fnOf "law" "law" (defArgs s_law) (defBody s_law) (defScope s_law) .none kV25 dc25 pm25 an25 cd25 ct25), sl25⟩) (c25 : PySem.W.codeIn K cd25 "law" = true) (k25 : PySem.W.keepIn K (.ref f25) = true)
    (v0 : PySem.W.nsIn K mainGlobals "MOST_LAYERS" = some (some (.int 6 tk0)))
    (v1 : PySem.W.nsIn K mainGlobals "MOST_KEYS" = some (some (.int 16 tk1)))
    (v2 : PySem.W.nsIn K mainGlobals "MOST_SIGNS" = some (some (.int 8 tk2)))
    (v3 : PySem.W.nsIn K mainGlobals "CODE_SIGNS" = some (some (.str "abcdefghijklmnopqrstuvwxyz0123456789" tk3)))
    (v4 : PySem.W.nsIn K mainGlobals "GREATEST_TIME" = some (some (.int 1000000000 tk4)))
    (v5 : PySem.W.nsIn K mainGlobals "LAYER_WORDS" = some (some (.ref g5))) (u5 : K.lookup g5 = some ⟨.type "tuple", none, .seq #[.str "layer" tk5_0, .str "lock" tk5_1, .str "once" tk5_2] gn5, gs5⟩)
    (v6 : PySem.W.nsIn K mainGlobals "RULES" = some (some (.ref g6))) (u6 : K.lookup g6 = some ⟨.type "tuple", none, .seq #[.str "time" tk6_0, .str "other" tk6_1, .str "within" tk6_2] gn6, gs6⟩)
    (z0 : PySem.W.nsIn K mainGlobals "len" = some none)
    (z1 : PySem.W.nsIn K mainGlobals "abs" = some none)
    (z2 : PySem.W.nsIn K mainGlobals "max" = some none)
    (z3 : PySem.W.nsIn K mainGlobals "repr" = some none)
    (z4 : PySem.W.nsIn K mainGlobals "isinstance" = some none)
    (z5 : PySem.W.nsIn K mainGlobals "all" = some none)
    (z6 : PySem.W.nsIn K mainGlobals "list" = some none)
    (z7 : PySem.W.nsIn K mainGlobals "tuple" = some none)
    (z8 : PySem.W.nsIn K mainGlobals "int" = some none)
    (z9 : PySem.W.nsIn K mainGlobals "bool" = some none)
    (z10 : PySem.W.nsIn K mainGlobals "str" = some none)
    (z11 : PySem.W.nsIn K mainGlobals "range" = some none)
    (z12 : PySem.W.nsIn K mainGlobals "enumerate" = some none)
    (z13 : PySem.W.nsIn K mainGlobals "min" = some none)
    (x0hg : PySem.W.nsIn K mainGlobals "InvalidLayout" = some (some (.ref x0C)))
    (x0hL : K.lookup x0C = some (excClassObj x0nm x0q x0C x0N x0bs x0bm true x0sn x0sub x0ab x0col x0dd x0m0 x0m1 x0m2 x0m3 x0m5 "ValueError.__new__"))
    (x0hve : PySem.HandSPX.refsVE x0bm = true)
    (x0hsa : PySem.W.findIn K (.ref x0C) "__setattr__" = some (some (.builtin "object.__setattr__")))
    (x0hnL : PySem.W.findIn K (.ref x0C) "layer" = some none)
    (x0hnK : PySem.W.findIn K (.ref x0C) "key" = some none)
    (x0hiC : PySem.W.findIn K (.ref x0C) "__init__" = some (some (.ref x0f)))
    (x0htC : PySem.W.typeIn K (.ref x0f) = some (.type "function"))
    (x0hkC : PySem.W.keepIn K (.ref x0C) = true)
    (x0heC : PySem.W.subIn K (.ref x0C) (.type "BaseException") = some true)
    (x0hvC : PySem.W.subIn K (.ref x0C) (.type "ValueError") = some true)
    (x0hmC : PySem.W.mroIn K x0C (.ref x0C) = some true)
    (x0hyC : PySem.W.typeIn K (.ref x0C) = some (.type "type"))
    (x0hsu : PySem.W.ks_superIn K x0C x0C "__init__" = some (some (.builtin "ValueError.__init__")))
    (x0han_ : PySem.W.nsIn K cStatics "thirdparty.any" = some none)
    (x0hei : PySem.W.excInitIn K x0C [.type "ValueError", .type "Exception", .type "BaseException", .type "object"] "ValueError.__new__" = true)
    (x0hsp : PySem.W.nsIn K mainGlobals "super" = some none)
    (x0htp : (l.prog.main.scope.names.lookup ("super" : Str)).isSome = false)
    (x0hl : K.lookup x0f = some ⟨x0oc, x0od, .func (PySem.W.ksFn "__init__" "InvalidLayout.__init__" (PySem.Oxi.jA ⟨6, 17, 6, 21⟩ ⟨6, 23, 6, 28⟩ ⟨6, 30, 6, 33⟩) (PySem.Oxi.jB "not a layout: layer " ", key " (fun i => ([⟨7, 8, 7, 13⟩, ⟨7, 8, 7, 15⟩, ⟨7, 8, 7, 24⟩, ⟨7, 27, 7, 47⟩, ⟨7, 48, 7, 53⟩, ⟨7, 47, 7, 54⟩, ⟨7, 54, 7, 60⟩, ⟨7, 61, 7, 64⟩, ⟨7, 60, 7, 65⟩, ⟨7, 25, 7, 66⟩, ⟨7, 8, 7, 67⟩, ⟨7, 8, 7, 67⟩, ⟨8, 8, 8, 12⟩, ⟨8, 8, 8, 18⟩, ⟨8, 21, 8, 26⟩, ⟨8, 8, 8, 26⟩, ⟨9, 8, 9, 12⟩, ⟨9, 8, 9, 16⟩, ⟨9, 19, 9, 22⟩, ⟨9, 8, 9, 22⟩] : List Pos).getD i ⟨0, 0, 0, 0⟩)) PySem.Oxi.jS .none .none x0doc x0pm x0an (.ref x0cda) x0ct x0cc), x0osl⟩)
    (x0hco : PySem.W.codeIn K (.ref x0cda) "InvalidLayout.__init__" = true)
    (x0hce : K.lookup x0cc = some ⟨x0cl, x0cld, .cell (some (.ref x0C)), x0csl⟩)
    (x0hcd : K.lookup x0cda = some ⟨x0ccl, x0cdd, .fields x0vs, x0ccs⟩)
    (x0hv2 : x0vs[2]? = some (.str x0file x0tf))
    (x0hfi : ((l.prog.main.file : Str) == x0file) = true)
    (x0hxm : PySem.W.exmOne K (.ref x0C) (.ref x0C) = some true) :
    ∃ fd : FuncData, (∀ (s : Shared) (u : Value), BindsTo s fd ⟨[u], []⟩ [("_law_script", u)]) ∧ ∀ base : Heap, K.In base → base.Ns mainGlobals mg → SysAt base → FnG l.prog w K mg base 10 fa fd ["_law_script"] (spLaw K) := by
  have e := hfa.symm.trans (PySem.W.mg_of X G a25)
  cases e
  have A_is_an_integer : At K mg "is_an_integer" s_is_an_integer ["value"] := at_mk X G a0 l0 c0 k0 fun _ _ _ _ _ _ us hl => match us, hl with | [_], _ => rfl
  have A_is_between : At K mg "is_between" s_is_between ["value", "low", "high"] := at_mk X G a1 l1 c1 k1 fun _ _ _ _ _ _ us hl => match us, hl with | [_, _, _], _ => rfl
  have A_is_code : At K mg "is_code" s_is_code ["value"] := at_mk X G a2 l2 c2 k2 fun _ _ _ _ _ _ us hl => match us, hl with | [_], _ => rfl
  have A_is_code_action : At K mg "is_code_action" s_is_code_action ["action"] := at_mk X G a3 l3 c3 k3 fun _ _ _ _ _ _ us hl => match us, hl with | [_], _ => rfl
  have A_is_layer_action : At K mg "is_layer_action" s_is_layer_action ["action", "words", "layer_count"] := at_mk X G a4 l4 c4 k4 fun _ _ _ _ _ _ us hl => match us, hl with | [_, _, _], _ => rfl
  have A_is_hold : At K mg "is_hold" s_is_hold ["value", "layer_count"] := at_mk X G a5 l5 c5 k5 fun _ _ _ _ _ _ us hl => match us, hl with | [_, _], _ => rfl
  have A_is_dual_action : At K mg "is_dual_action" s_is_dual_action ["action", "layer_count"] := at_mk X G a6 l6 c6 k6 fun _ _ _ _ _ _ us hl => match us, hl with | [_, _], _ => rfl
  have A_can_stand : At K mg "can_stand" s_can_stand ["action", "layer", "layer_count"] := at_mk X G a7 l7 c7 k7 fun _ _ _ _ _ _ us hl => match us, hl with | [_, _, _], _ => rfl
  have A_has_layout_form : At K mg "has_layout_form" s_has_layout_form ["value"] := at_mk X G a8 l8 c8 k8 fun _ _ _ _ _ _ us hl => match us, hl with | [_], _ => rfl
  have A_check_layout : At K mg "check_layout" s_check_layout ["value"] := at_mk X G a9 l9 c9 k9 fun _ _ _ _ _ _ us hl => match us, hl with | [_], _ => rfl
  have A_is_layout : At K mg "is_layout" s_is_layout ["value"] := at_mk X G a10 l10 c10 k10 fun _ _ _ _ _ _ us hl => match us, hl with | [_], _ => rfl
  have A__law_spin : At K mg "_law_spin" s__law_spin ["_law_reel_here", "_law_size"] := at_mk X G a11 l11 c11 k11 fun _ _ _ _ _ _ us hl => match us, hl with | [_, _], _ => rfl
  have A__law_reel : At K mg "_law_reel" s__law_reel ["_law_script", "_law_index"] := at_mk X G a12 l12 c12 k12 fun _ _ _ _ _ _ us hl => match us, hl with | [_, _], _ => rfl
  have A__law_code : At K mg "_law_code" s__law_code ["_law_reel_here"] := at_mk X G a13 l13 c13 k13 fun _ _ _ _ _ _ us hl => match us, hl with | [_], _ => rfl
  have A__law_action : At K mg "_law_action" s__law_action ["_law_reel_here", "_law_layer", "_law_layers", "_law_longest"] := at_mk X G a14 l14 c14 k14 fun _ _ _ _ _ _ us hl => match us, hl with | [_, _, _, _], _ => rfl
  have A__law_layout : At K mg "_law_layout" s__law_layout ["_law_reel_here", "_law_layers", "_law_keys", "_law_longest"] := at_mk X G a15 l15 c15 k15 fun _ _ _ _ _ _ us hl => match us, hl with | [_, _, _, _], _ => rfl
  have A__law_is_number : At K mg "_law_is_number" s__law_is_number ["_law_value", "_law_least", "_law_most"] := at_mk X G a16 l16 c16 k16 fun _ _ _ _ _ _ us hl => match us, hl with | [_, _, _], _ => rfl
  have A__law_is_code : At K mg "_law_is_code" s__law_is_code ["_law_value"] := at_mk X G a17 l17 c17 k17 fun _ _ _ _ _ _ us hl => match us, hl with | [_], _ => rfl
  have A__law_is_hold : At K mg "_law_is_hold" s__law_is_hold ["_law_value", "_law_layers"] := at_mk X G a18 l18 c18 k18 fun _ _ _ _ _ _ us hl => match us, hl with | [_, _], _ => rfl
  have A__law_is_right : At K mg "_law_is_right" s__law_is_right ["_law_value", "_law_layer", "_law_layers"] := at_mk X G a19 l19 c19 k19 fun _ _ _ _ _ _ us hl => match us, hl with | [_, _, _], _ => rfl
  have A__law_fault : At K mg "_law_fault" s__law_fault ["_law_value"] := at_mk X G a20 l20 c20 k20 fun _ _ _ _ _ _ us hl => match us, hl with | [_], _ => rfl
  have A__law_with : At K mg "_law_with" s__law_with ["_law_layout_here", "_law_layer", "_law_key", "_law_action_here"] := at_mk X G a21 l21 c21 k21 fun _ _ _ _ _ _ us hl => match us, hl with | [_, _, _, _], _ => rfl
  have A__law_odd_actions : At K mg "_law_odd_actions" s__law_odd_actions ["_law_layers"] := at_mk X G a22 l22 c22 k22 fun _ _ _ _ _ _ us hl => match us, hl with | [_], _ => rfl
  have A__law_odd_tables : At K mg "_law_odd_tables" s__law_odd_tables ["_law_layout_here"] := at_mk X G a23 l23 c23 k23 fun _ _ _ _ _ _ us hl => match us, hl with | [_], _ => rfl
  have A__law_told_right : At K mg "_law_told_right" s__law_told_right ["_law_value"] := at_mk X G a24 l24 c24 k24 fun _ _ _ _ _ _ us hl => match us, hl with | [_], _ => rfl
  have A_law : At K mg "law" s_law ["_law_script"] := at_mk X G a25 l25 c25 k25 fun _ _ _ _ _ _ us hl => match us, hl with | [_], _ => rfl
  have m_MOST_LAYERS := PySem.W.mg_of X G v0
  have m_MOST_KEYS := PySem.W.mg_of X G v1
  have m_MOST_SIGNS := PySem.W.mg_of X G v2
  have m_CODE_SIGNS := PySem.W.mg_of X G v3
  have m_GREATEST_TIME := PySem.W.mg_of X G v4
  have m_LAYER_WORDS := PySem.W.mg_of X G v5
  have t_LAYER_WORDS : ∀ H, SqT K H g5 ((["layer", "lock", "once"] : List Str).map V.str) := fun H => .inr ⟨_, _, _, u5, rfl, rfl, (by show 3 ≤ sizeLine; decide), .cons ⟨_, rfl⟩ (.cons ⟨_, rfl⟩ (.cons ⟨_, rfl⟩ (.nil)))⟩
  have n_LAYER_WORDS : ∃ o : Obj, K.lookup g5 = some o ∧ o.cls = .type "tuple" ∧ o.dict = none := ⟨_, u5, rfl, rfl⟩
  have m_RULES := PySem.W.mg_of X G v6
  have t_RULES : ∀ H, SqT K H g6 ((["time", "other", "within"] : List Str).map V.str) := fun H => .inr ⟨_, _, _, u6, rfl, rfl, (by show 3 ≤ sizeLine; decide), .cons ⟨_, rfl⟩ (.cons ⟨_, rfl⟩ (.cons ⟨_, rfl⟩ (.nil)))⟩
  have n_RULES : ∃ o : Obj, K.lookup g6 = some o ∧ o.cls = .type "tuple" ∧ o.dict = none := ⟨_, u6, rfl, rfl⟩
  have bt : Bt mg := ⟨PySem.W.mg_none_of X G z0, PySem.W.mg_none_of X G z1, PySem.W.mg_none_of X G z2, PySem.W.mg_none_of X G z3, PySem.W.mg_none_of X G z4, PySem.W.mg_none_of X G z5, PySem.W.mg_none_of X G z6, PySem.W.mg_none_of X G z7, PySem.W.mg_none_of X G z8, PySem.W.mg_none_of X G z9, PySem.W.mg_none_of X G z10, PySem.W.mg_none_of X G z11, PySem.W.mg_none_of X G z12, PySem.W.mg_none_of X G z13⟩
  have m_InvalidLayout := PySem.W.mg_of X G x0hg
  have ex_InvalidLayout : PySem.Oxi.ExcTxt2 l.prog K "InvalidLayout" x0C x0f := ⟨⟨_, _, _, _, _, _, _, _, _, _, _, _, _, _, _, x0hL, x0hve⟩, x0hsa, x0hnL, x0hnK, x0hiC, x0htC, x0hkC, x0heC, x0hvC, x0hmC, x0hyC, x0hsu, x0han_, x0hei, x0hsp, x0htp, ⟨_, _, _, _, _, _, _, _, _, _, _, _, _, _, _, _, by decide, by decide, by decide, x0hl, x0hco, ⟨_, _, _, x0hce⟩, ⟨_, _, _, _, _, _, x0hcd, x0hv2, x0hfi⟩⟩⟩
  have xm_InvalidLayout := x0hxm
  refine ⟨PySem.W.fnOf "law" "law" (defArgs s_law) (defBody s_law) (defScope s_law) .none kV25 dc25 pm25 an25 cd25 ct25, fun s u => .of_eq rfl, fun base _ _ hsm => ?_⟩
  have C1 := ok_is_an_integer (P := l.prog) (w := w) (base := base) bt A_is_an_integer
  have C2 := ok_is_between A_is_between C1
  have C3 := ok_is_code (P := l.prog) (w := w) (base := base) bt m_MOST_SIGNS m_CODE_SIGNS A_is_code
  have C4 := ok_is_code_action bt A_is_code_action C3
  have C5 := ok_is_layer_action bt A_is_layer_action C2
  have C6 := ok_is_hold bt A_is_hold C4 C5
  have C7 := ok_is_dual_action bt m_GREATEST_TIME m_RULES t_RULES A_is_dual_action C3 C6 C2
  have C8 := ok_can_stand bt m_LAYER_WORDS t_LAYER_WORDS A_can_stand C4 C5 C7
  have C9 := ok_has_layout_form (P := l.prog) (w := w) (base := base) bt m_MOST_LAYERS m_MOST_KEYS A_has_layout_form
  have C10 := ok_check_layout bt ex_InvalidLayout m_InvalidLayout A_check_layout C9 C8
  have C11 := ok_is_layout m_InvalidLayout xm_InvalidLayout A_is_layout C10
  have D1 := ok__law_spin (P := l.prog) (w := w) (base := base) A__law_spin
  have D2 := ok__law_reel (P := l.prog) (w := w) (base := base) bt A__law_reel
  have D3 := ok__law_code bt A__law_code D1
  have D4 := ok__law_action bt A__law_action D1 D3
  have D5 := ok__law_layout bt A__law_layout D4
  have D6 := ok__law_is_number (P := l.prog) (w := w) (base := base) bt A__law_is_number
  have D7 := ok__law_is_code (P := l.prog) (w := w) (base := base) bt A__law_is_code
  have D8 := ok__law_is_hold bt A__law_is_hold D7 D6
  have D9 := ok__law_is_right bt A__law_is_right D7 D6 D8
  have D10 := ok__law_fault bt A__law_fault D9
  have D11 := ok__law_with (P := l.prog) (w := w) (base := base) bt A__law_with
  have D12 := ok__law_odd_actions (P := l.prog) (w := w) (base := base) bt A__law_odd_actions
  have D13 := ok__law_odd_tables (P := l.prog) (w := w) (base := base) bt A__law_odd_tables
  have D14 := ok__law_told_right bt hsm A__law_told_right D10 C11
  exact ok_law bt (fun_mk l25 c25 k25) D2 D1 D5 C11 D12 D11 D14 D13
end K01
open PySem PySem.W PyProof.Rows
set_option maxHeartbeats 0 in
theorem PySem.Challenge.cw_holdtap_k01_layouts_recognized_holds : PySem.Challenge.rw_holdtap_k01_layouts_recognized.Holds := by
  w_on; o_law; k_head; (case hw => w_witness2)
  k_fill
  refine Gd.walkGS (l := PySem.Challenge.rw_holdtap_k01_layouts_recognized) (n := 63) (k := 10) (x := "_law_script") (sp := fun K => K01.spLaw K) (by first | rfl | decide +kernel) rfl (by decide) rfl ⟨rfl, by decide, by decide⟩ (fun w h Y => PySem.W.kIn_of Y) ?F (fun _ _ a ns hl hS => ⟨a, ns, rfl, hS, hl, fun _ => rfl⟩)
  case F =>
    intro w mg fa h KX G hmg
    refine' K01.all_mk KX G hmg ?a0 ?l0 ?c0 ?k0 ?a1 ?l1 ?c1 ?k1 ?a2 ?l2 ?c2 ?k2 ?a3 ?l3 ?c3 ?k3 ?a4 ?l4 ?c4 ?k4 ?a5 ?l5 ?c5 ?k5 ?a6 ?l6 ?c6 ?k6 ?a7 ?l7 ?c7 ?k7 ?a8 ?l8 ?c8 ?k8 ?a9 ?l9 ?c9 ?k9 ?a10 ?l10 ?c10 ?k10 ?a11 ?l11 ?c11 ?k11 ?a12 ?l12 ?c12 ?k12 ?a13 ?l13 ?c13 ?k13 ?a14 ?l14 ?c14 ?k14 ?a15 ?l15 ?c15 ?k15 ?a16 ?l16 ?c16 ?k16 ?a17 ?l17 ?c17 ?k17 ?a18 ?l18 ?c18 ?k18 ?a19 ?l19 ?c19 ?k19 ?a20 ?l20 ?c20 ?k20 ?a21 ?l21 ?c21 ?k21 ?a22 ?l22 ?c22 ?k22 ?a23 ?l23 ?c23 ?k23 ?a24 ?l24 ?c24 ?k24 ?a25 ?l25 ?c25 ?k25 ?v0 ?v1 ?v2 ?v3 ?v4 ?v5 ?u5 ?v6 ?u6 ?z0 ?z1 ?z2 ?z3 ?z4 ?z5 ?z6 ?z7 ?z8 ?z9 ?z10 ?z11 ?z12 ?z13 ?x0hg ?x0hL ?x0hve ?x0hsa ?x0hnL ?x0hnK ?x0hiC ?x0htC ?x0hkC ?x0heC ?x0hvC ?x0hmC ?x0hyC ?x0hsu ?x0han_ ?x0hei ?x0hsp ?x0htp ?x0hl ?x0hco ?x0hce ?x0hcd ?x0hv2 ?x0hfi ?x0hxm
    (case a0 => k_is); (case l0 => k_is); (case c0 => k_is); (case k0 => k_is); (case a1 => k_is); (case l1 => k_is); (case c1 => k_is); (case k1 => k_is); (case a2 => k_is); (case l2 => k_is); (case c2 => k_is); (case k2 => k_is); (case a3 => k_is); (case l3 => k_is); (case c3 => k_is); (case k3 => k_is); (case a4 => k_is); (case l4 => k_is); (case c4 => k_is); (case k4 => k_is); (case a5 => k_is); (case l5 => k_is); (case c5 => k_is); (case k5 => k_is); (case a6 => k_is); (case l6 => k_is); (case c6 => k_is); (case k6 => k_is); (case a7 => k_is); (case l7 => k_is); (case c7 => k_is); (case k7 => k_is); (case a8 => k_is); (case l8 => k_is); (case c8 => k_is); (case k8 => k_is); (case a9 => k_is); (case l9 => k_is); (case c9 => k_is); (case k9 => k_is); (case a10 => k_is); (case l10 => k_is); (case c10 => k_is); (case k10 => k_is); (case a11 => k_is); (case l11 => k_is); (case c11 => k_is); (case k11 => k_is); (case a12 => k_is); (case l12 => k_is); (case c12 => k_is); (case k12 => k_is); (case a13 => k_is); (case l13 => k_is); (case c13 => k_is); (case k13 => k_is); (case a14 => k_is); (case l14 => k_is); (case c14 => k_is); (case k14 => k_is); (case a15 => k_is); (case l15 => k_is); (case c15 => k_is); (case k15 => k_is); (case a16 => k_is); (case l16 => k_is); (case c16 => k_is); (case k16 => k_is); (case a17 => k_is); (case l17 => k_is); (case c17 => k_is); (case k17 => k_is); (case a18 => k_is); (case l18 => k_is); (case c18 => k_is); (case k18 => k_is); (case a19 => k_is); (case l19 => k_is); (case c19 => k_is); (case k19 => k_is); (case a20 => k_is); (case l20 => k_is); (case c20 => k_is); (case k20 => k_is); (case a21 => k_is); (case l21 => k_is); (case c21 => k_is); (case k21 => k_is); (case a22 => k_is); (case l22 => k_is); (case c22 => k_is); (case k22 => k_is); (case a23 => k_is); (case l23 => k_is); (case c23 => k_is); (case k23 => k_is); (case a24 => k_is); (case l24 => k_is); (case c24 => k_is); (case k24 => k_is); (case a25 => k_is); (case l25 => k_is); (case c25 => k_is); (case k25 => k_is); (case v0 => k_is); (case v1 => k_is); (case v2 => k_is); (case v3 => k_is); (case v4 => k_is); (case v5 => k_is); (case u5 => k_is); (case v6 => k_is); (case u6 => k_is); (case z0 => k_is); (case z1 => k_is); (case z2 => k_is); (case z3 => k_is); (case z4 => k_is); (case z5 => k_is); (case z6 => k_is); (case z7 => k_is); (case z8 => k_is); (case z9 => k_is); (case z10 => k_is); (case z11 => k_is); (case z12 => k_is); (case z13 => k_is); (case x0hg => first | k_is | rfl | decide +kernel); (case x0hL => first | k_is | rfl | decide +kernel); (case x0hve => first | k_is | rfl | decide +kernel); (case x0hsa => first | k_is | rfl | decide +kernel); (case x0hnL => first | k_is | rfl | decide +kernel); (case x0hnK => first | k_is | rfl | decide +kernel); (case x0hiC => first | k_is | rfl | decide +kernel); (case x0htC => first | k_is | rfl | decide +kernel); (case x0hkC => first | k_is | rfl | decide +kernel); (case x0heC => first | k_is | rfl | decide +kernel); (case x0hvC => first | k_is | rfl | decide +kernel); (case x0hmC => first | k_is | rfl | decide +kernel); (case x0hyC => first | k_is | rfl | decide +kernel); (case x0hsu => first | k_is | rfl | decide +kernel); (case x0han_ => first | k_is | rfl | decide +kernel); (case x0hei => first | k_is | rfl | decide +kernel); (case x0hsp => first | k_is | rfl | decide +kernel); (case x0htp => first | k_is | rfl | decide +kernel); (case x0hl => first | k_is | rfl | decide +kernel); (case x0hco => first | k_is | rfl | decide +kernel); (case x0hce => first | k_is | rfl | decide +kernel); (case x0hcd => first | k_is | rfl | decide +kernel); (case x0hv2 => first | k_is | rfl | decide +kernel); (case x0hfi => first | k_is | rfl | decide +kernel); (case x0hxm => first | k_is | rfl | decide +kernel)

