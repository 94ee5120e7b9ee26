import PyProof.Rows.All
import Wide.All
import OpenK.AllK
import Wide.FinOn
import HandS.ForMost
import HandS.Walk
import HandS.Wide
import HandS.Style
import HandS.More
import HandS.SetFor
import HandS.SortInts
import HandS.IsInst
import HandS.Codes
import PyProof.ReprRoads
import HandS.Defaults
import HandS.FStr
import HandS.RaiseMore
import KE.KIndexOf
import HandS.Deep
import HandS.ListItems
import KE.KDictList
import KE.IntTextLaws
import PySem.Challenge.RW_holdtap_k66_record_and_result_texts
set_option Elab.async false
set_option linter.all false
set_option maxRecDepth 100000
set_option maxHeartbeats 4000000
/-! A layer over the hand layer in which a def knows that no display is being shown (A.guards): repr needs it. -/
namespace Gd
open PySem PySem.Spec PyProof.Rows L2

/-- what a def promises where no guard stands -/
structure FnG (P : Program) (w : World) (K : PySem.W.Frag) (mg : Str → Option Value) (base : Heap)
    (k : Nat) (f : Addr) (fd : FuncData) (ps : List Str) (sp : Sp) : Prop where
  len : ∀ vs H Q E, sp vs H Q E → vs.length = ps.length
  go : ∀ (A : Around) (outer : List Env) (s : Shared) (H : Hp) (args : Args) (us : List Value) (vs : List V) (Q : VK),
    A.guards = some [] → Room k A → Env0 P w K mg base A outer s H → BindsTo s fd args (ps.zip us) →
    Vals vs us → sp vs H Q E0 →
    codeAny (model P w) A (.call (.ref f) args) (CR CX0 outer P w H s Q E0) s

theorem deep_guards {A : Around} {e : Env} (h : A.guards = some []) : (A.deeper e).guards = some [] := h

section
variable {P : Program} {w : World} {K : PySem.W.Frag} {mg : Str → Option Value} {base : Heap}
theorem fnG {x qual : Str} {st : Stmt} {f : Addr} {fd : FuncData} {N ps : List Str} {k : Nat} {sp : Sp}
    (F : Fun K x qual st f fd) (S : FnScope N ps (defScope st))
    (len : ∀ vs H Q E, sp vs H Q E → vs.length = ps.length)
    (hb : ∀ (cdv : Value) (A : Around) (outer : List Env) (s : Shared) (H : Hp) (vs : List V) (Q : VK),
      A.guards = some [] → Room k (A.deeper (envOfC qual (defScope st) s.heap.objs.size f cdv)) → sp vs H Q E0 →
      ∃ t, PSs (cxOf CX0 P w K mg base N qual (defScope st) f cdv A outer s H E0).nox (defBody st) t ∧
        t { nx := fun _ H' => Q .non H', rt := Q } (start N vs) H) :
    FnG P w K mg base (k + 1) f fd ps sp := by
  obtain ⟨oc, od, kV, doc, pm, an, cdv, ct, osl, rfl, lk, hcd⟩ := F.ex
  refine ⟨len, fun A outer s H args us vs Q hg hr e0 bt rv hsp => ?_⟩
  have kin : K.In s.heap := e0.mod.kin.keeps (fun b o e => (e0.bs b o e).1)
  have nol : s.heap.NoLimit := e0.mod.nolimit.keeps (fun b o e => (e0.bs b o e).1)
  have pk : ((ps.zip us).all fun y => (defScope st).names.lookup y.1 == some NameKind.local ||
      (defScope st).names.lookup y.1 == some NameKind.cell) = true := by
    rw [List.all_eq_true]
    rintro ⟨n, v⟩ hm
    have hp := S.par n (List.of_mem_zip hm).1
    rcases hp with e | e <;> simp [e]
  refine Att.call_fn kin nol lk hcd hr.depth bt pk (fun s1 ic => ?_) S.co S.gen S.kind
  obtain ⟨t, ht, hq⟩ := hb cdv A outer s H vs Q hg (hr.deeper _) hsp
  have J := inv_start (CX := CX0) (E := E0) (P := P) (w := w) (mg := mg) (base := base) S hr.hd e0 (len _ _ _ _ hsp) rv ic
  have J' := J.wish (fun _ _ => False)
  refine wpAny_mono (ht.run [] s1 (start N vs) H _ J' hq) (fun fl s' sp' => ?_) (fun _ _ z => z.elim)
  match fl, sp' with
  | .next, ⟨σ', H', L, q⟩ => exact ⟨.non, H', L.os, L.bare, L.base, L.hok, rfl, q⟩
  | .ret u, ⟨v, σ', H', L, rr, q⟩ => exact ⟨v, H', L.os, L.bare, L.base, L.hok, rr, q⟩
  | .brk, ⟨_, _, _, q⟩ => exact False.elim q
  | .cont, ⟨_, _, _, q⟩ => exact False.elim q
end

/-- a def that may be called by its name -/
structure Cl (P : Program) (w : World) (K : PySem.W.Frag) (mg : Str → Option Value) (base : Heap) (k : Nat) (x : Str) (sp : Sp) : Prop where
  ex : ∃ (f : Addr) (fd : FuncData) (ps : List Str), FnG P w K mg base k f fd ps sp ∧ mg x = some (.ref f) ∧
    PySem.W.keepIn K (.ref f) = true ∧ Binds K fd ps []
/-- where a def stands: its text, its name in the module -/
structure At (K : PySem.W.Frag) (mg : Str → Option Value) (x : Str) (st : Stmt) (ps : List Str) : Prop where
  ex : ∃ (f : Addr) (fd : FuncData), Fun K x x st f fd ∧ mg x = some (.ref f) ∧ Binds K fd ps []
section
variable {P : Program} {w : World} {K : PySem.W.Frag} {mg : Str → Option Value} {base : Heap}
theorem clG {x : Str} {st : Stmt} {N ps : List Str} {k : Nat} {sp : Sp} (a : At K mg x st ps) (S : FnScope N ps (defScope st))
    (len : ∀ vs H Q E, sp vs H Q E → vs.length = ps.length)
    (hb : ∀ (f : Addr) (cdv : Value) (A : Around) (outer : List Env) (s : Shared) (H : Hp) (vs : List V) (Q : VK),
      A.guards = some [] → Room k (A.deeper (envOfC x (defScope st) s.heap.objs.size f cdv)) → sp vs H Q E0 →
      ∃ t, PSs (cxOf CX0 P w K mg base N x (defScope st) f cdv A outer s H E0).nox (defBody st) t ∧
        t { nx := fun _ H' => Q .non H', rt := Q } (start N vs) H) : Cl P w K mg base (k + 1) x sp := by
  obtain ⟨f, fd, F, hm, b⟩ := a.ex
  exact ⟨f, fd, ps, fnG F S len (hb f), hm, F.kp, b⟩
theorem Cl.imp {x : Str} {k : Nat} {sp sp' : Sp} (c : Cl P w K mg base k x sp) (h : ∀ vs H Q E, sp' vs H Q E → sp vs H Q E) :
    Cl P w K mg base k x sp' := by
  obtain ⟨f, fd, ps, F, hm, kp, b⟩ := c.ex
  exact ⟨f, fd, ps, ⟨fun vs H Q E z => F.len vs H Q E (h _ _ _ _ z), fun A o s H as us vs Q g r e bt rv z => F.go A o s H as us vs Q g r e bt rv (h _ _ _ _ z)⟩, hm, kp, b⟩
end
section
variable {X : Cx} {k j : Nat} {x : Str} {sp : Sp} {p pos : Pos} {e : Expr} {es : List Expr} {t : TA}
theorem run_cl {f : Addr} {fd : FuncData} {ps : List Str} {pins : List (Addr × Obj)} {σ : L2.St} {H : Hp} {s : Shared} {Q : VK} {us : List Value} {vs : List V}
    (F : FnG X.prog X.w X.K X.mg X.base k f fd ps sp) (hg : X.A.guards = some []) (hr : Room k X.A) (b : Binds X.K fd ps [])
    (I : Inv X pins σ H s) (rv : Vals vs us) (h : sp vs H Q E0) : wpAny (model X.prog X.w) X.A (call (.ref f) us) (EP X pins σ Q) X.xe s := by
  have hl : us.length = ps.length := rv.length.symm.trans (F.len _ _ _ _ h)
  have bt := b s us I.kIn (by simpa using hl)
  rw [List.append_nil] at bt
  refine wpAny_call (codeAny_mono (F.go X.A X.stack s H ⟨us, []⟩ us vs Q hg hr I.env0 bt rv h) (fun r s' hq => ?_))
  match r, hq with
  | .ok (.ret u), hq => exact I.after hq
  | .ok .next, hq => exact False.elim hq
  | .ok .brk, hq => exact False.elim hq
  | .ok .cont, hq => exact False.elim hq
  | .error _, hq => exact False.elim hq
/-- f(e, ..) -/
theorem pe_cl (c : Cl X.prog X.w X.K X.mg X.base k x sp) (hg : X.A.guards = some []) (hr : Room j X.A) (hk : k ≤ j) (gl : Gl X x) (ha : PA X (e :: es) t)
    (hd : (x == ("__debug__" : Str)) = false := by decide)
    (he : starEach (e :: es) X.env = (false, eval e X.env) :: starEach es X.env := by rfl)
    (hp : (backTo pos (starEach es X.env)).any (·.1) = false := by rfl) :
    PE X (.Call (.Name x p) (e :: es) [] pos) (tCall sp [] E0 t) := by
  obtain ⟨f, fd, ps, F, hm, kp, b⟩ := c.ex
  refine ⟨fun pins s σ H Q I h => wpAny_Call_Name_kw (ld_glob I gl hm (PySem.W.callWith_K (h₀ := X.base) I.ok.mod.kin kp ?_ he hp) hd)⟩
  refine thn (ha.run pos pins s σ H _ I h) (fun us s1 z => ?_)
  obtain ⟨vs, H1, I1, rv, q⟩ := z
  exact ⟨I1.kIn, run_cl F hg (hr.mono hk) b I1 rv (by simpa using q)⟩
/-- f() -/
theorem pe_cl0 (c : Cl X.prog X.w X.K X.mg X.base k x sp) (hg : X.A.guards = some []) (hr : Room j X.A) (hk : k ≤ j) (gl : Gl X x)
    (hd : (x == ("__debug__" : Str)) = false := by decide) :
    PE X (.Call (.Name x p) [] [] pos) (tCall sp [] E0 tNil) := by
  obtain ⟨f, fd, ps, F, hm, kp, b⟩ := c.ex
  refine ⟨fun pins s σ H Q I h => wpAny_Call_Name_kw (ld_glob I gl hm (PySem.W.callWith_K0 I.kIn kp ?_) hd)⟩
  exact run_cl (us := []) F hg (hr.mono hk) b I .nil h
end

/-! ### rules that lack: a great power, repr of data -/
def CPowW (i j : Int) : Prop := 0 ≤ j ∧ (Builtin.Int.intBits i : Int) * j ≤ 2 ^ 27
theorem op_powW {X : Cx} : OpR X (binaryOp .Pow) (rI CPowW fun i j => .int (i ^ j.toNat)) := opI fun _ _ _ _ _ _ _ hc q => pow_int hc.1 hc.2 q
theorem bits_le {i : Int} {n : Nat} (h : i.natAbs < 2 ^ n) : Builtin.Int.intBits i ≤ n := by
  unfold Builtin.Int.intBits
  split
  · exact Nat.zero_le _
  · rename_i hz
    have h0 : i.natAbs ≠ 0 := by
      intro z
      apply hz
      have : i = 0 := Int.natAbs_eq_zero.mp z
      simp [this]
    have := (Nat.log2_lt h0).mpr h
    omega
theorem powW {i : Int} {n k : Nat} (h : i.natAbs < 2 ^ n) (hs : n * k ≤ 2 ^ 27) : CPowW i (k : Int) := by
  refine ⟨by omega, ?_⟩
  have b := bits_le h
  have m : Builtin.Int.intBits i * k ≤ 2 ^ 27 := Nat.le_trans (Nat.mul_le_mul_right k b) hs
  exact_mod_cast m

/-- repr(x), x a list or a tuple of data -/
def rRep (K : PySem.W.Frag) : List V → Hp → VK → Prop := fun xs H Q => ∃ (a : Addr) (d : PyData), xs = [.ref a] ∧ Dp K H (.ref a) d ∧
  d.showable = true ∧ d.depth ≤ 50 ∧ d.shown.length ≤ sizeLine ∧ Q (.str d.shown) H
mutual
theorem dp_nodict {K : PySem.W.Frag} {H : Hp} : ∀ (d : PyData) (v : V), Dp K H v d → d.hasDict = false
  | .none, _, _ => rfl
  | .bool _, _, _ => rfl
  | .int _, _, _ => rfl
  | .str _, _, _ => rfl
  | .list ds, _, h => by
    cases h with
    | lst _ ha => exact dps_nodict ds _ ha
  | .tuple ds, _, h => by
    cases h with
    | tup _ ha => exact dps_nodict ds _ ha
  | .dict _, _, h => by cases h
theorem dps_nodict {K : PySem.W.Frag} {H : Hp} : ∀ (ds : List PyData) (vs : List V), DpAll K H vs ds → PyData.hasDictAll ds = false
  | [], _, _ => rfl
  | d :: ds, _, h => by
    cases h with
    | cons h1 h2 =>
      show (d.hasDict || PyData.hasDictAll ds) = false
      rw [dp_nodict d _ h1, dps_nodict ds _ h2]
      rfl
end
theorem call_rep {X : Cx} {k : Nat} (hg : X.A.guards = some []) (hr : Room k X.A) : CallR X (.builtin "repr") (rRep X.K) := by
  intro pins s σ H xs us Q I r h
  obtain ⟨a, d, rfl, hd, hs, hdp, hz, q⟩ := h
  obtain ⟨u, rfl, ru⟩ := vals1 r
  obtain ⟨as, rd⟩ := Dp.reads I d (.ref a) u hd ru
  cases ru
  have hu := hr.un
  exact repr_of_reads' rd hs (PyData.noDict_hsm (dp_nodict d _ hd)) hg (by omega) (fun _ _ e => e)
    (fun h' t tk hk => ⟨.str d.shown, H, I.kept (t' := tk) hk, ⟨t, rfl⟩, q⟩) hz

/-! ### the law's own call -/
section
variable {P : Program} {w : World} {K : PySem.W.Frag} {mg mb : Str → Option Value} {k : Nat} {fa a : Addr} {fd : FuncData} {x : Str} {sp : Sp} {s₁ : Shared} {vs : List Value} {ns : List Int}
/-- the heap as the caller has it, H what is tracked of it: at most the script -/
theorem top_run (KX : K.In s₁.heap) (gl : s₁.heap.Ns mainGlobals mg) (bl : s₁.heap.Ns builtinsNs mb) (bb : ∀ y : Str, y ≠ "__name__" → mb y = bootBuiltins y)
    (nol : s₁.heap.NoLimit) (ng : s₁.gens = #[]) (oa : s₁.heap.get? a = some { cls := .type "list", data := .seq vs.toArray }) (hr : Room k callerA)
    (F : ∀ base : Heap, K.In base → base.Ns mainGlobals mg → FnG P w K mg base k fa fd [x] sp)
    (bt : ∀ (s : Shared) (u : Value), BindsTo s fd ⟨[u], []⟩ [(x, u)]) {H : Hp} (only : Only H) (hok : HOk P w H s₁.heap)
    (at_a : ∀ b, H b ≠ none → b = a ∧ K.lookup a = none) (h : sp [.ref a] H (fun v _ => v = .bl true) E0) :
    codeAny (model P w) callerA (.call (.ref fa) ⟨[.ref a], []⟩)
      (fun r s' => r = .ok (.ret (.bool true)) ∧ OldK s₁.heap s'.heap ∧ s'.os = s₁.os ∧ AllBare s'.gens) s₁ := by
  have free : ∀ {b : Addr} {o : Obj}, s₁.heap.get? b = some o → (b = a → ∃ es ep, o.data = .dict es ep) → H b = none := by
    intro b o e d
    rcases Classical.em (H b = none) with z | z
    · exact z
    · obtain ⟨rfl, _⟩ := at_a b z
      obtain ⟨es, ep, hd⟩ := d rfl
      rw [oa] at e
      cases e
      cases hd
  have nsAt : ∀ {b : Addr} {m : Str → Option Value}, s₁.heap.Ns b m → (hidT s₁.heap H).Ns b m := by
    intro b m z
    obtain ⟨o, es, ep, e, d, r⟩ := z
    exact ⟨o, es, ep, hidT_get e (free e fun _ => ⟨es, ep, d⟩), d, r⟩
  have KB : K.In (hidT s₁.heap H) := by
    intro b o e
    refine hidT_get (KX b o e) ?_
    rcases Classical.em (H b = none) with z | z
    · exact z
    · obtain ⟨rfl, q⟩ := at_a b z
      rw [q] at e
      cases e
  obtain ⟨ml, l1, l2⟩ := nol
  have M : Mod K mg (hidT s₁.heap H) := ⟨KB, nsAt gl, ⟨mb, nsAt bl, bb⟩, ⟨ml, nsAt l1, l2⟩⟩
  have E : Env0 P w K mg (hidT s₁.heap H) callerA [] s₁ H := by
    refine ⟨rfl, M, fun b o e => of_hidT e, Nat.le_of_eq (hidT_size _ _), True.intro, fun b hb => ?_, hok, .of_eq ng⟩
    exact nomatch (show b ∈ ([] : List Addr) from hb)
  refine codeAny_mono ((F _ KB (nsAt gl)).go callerA [] s₁ H ⟨[.ref a], []⟩ [.ref a] [.ref a] _ rfl hr E (bt s₁ (.ref a)) (.cons rfl .nil) h) ?_
  intro r s' z
  match r, z with
  | .ok .next, z => exact False.elim z
  | .ok .brk, z => exact False.elim z
  | .ok .cont, z => exact False.elim z
  | .error _, z => exact False.elim z
  | .ok (.ret u), ⟨v, H', os, bare, un, hok', rv, q⟩ =>
    have q : v = .bl true := q
    subst q
    have ru : u = Value.bool true := rv
    subst ru
    refine ⟨rfl, OldK.of_keep fun b o e => ?_, os, bare⟩
    rcases only b with n | ⟨ob, xs, n⟩
    · exact un.keep b o e n (fun m => nomatch (show b ∈ ([] : List Addr) from m)) (fun m => nomatch m)
    · have f1 := hok b _ n
      have f2 := hok' b _ (un.frzs b ob _ n)
      have g1 : s₁.heap.get? b = some ob := f1.1
      have g2 : s'.heap.get? b = some ob := f2.1
      rw [e] at g1
      cases g1
      exact g2
theorem law_callG (KX : K.In s₁.heap) (gl : s₁.heap.Ns mainGlobals mg) (bl : s₁.heap.Ns builtinsNs mb) (bb : ∀ y : Str, y ≠ "__name__" → mb y = bootBuiltins y)
    (nol : s₁.heap.NoLimit) (ng : s₁.gens = #[]) (oa : s₁.heap.get? a = some { cls := .type "list", data := .seq vs.toArray }) (hi : IntsAre vs ns) (hl : ns.length ≤ sizeLine) (hr : Room k callerA)
    (F : ∀ base : Heap, K.In base → base.Ns mainGlobals mg → FnG P w K mg base k fa fd [x] sp)
    (bt : ∀ (s : Shared) (u : Value), BindsTo s fd ⟨[u], []⟩ [(x, u)])
    (hsp : ∀ H : Hp, Only H → SqL K H a (ns.map V.int) → sp [.ref a] H (fun v _ => v = .bl true) E0) :
    codeAny (model P w) callerA (.call (.ref fa) ⟨[.ref a], []⟩)
      (fun r s' => r = .ok (.ret (.bool true)) ∧ OldK s₁.heap s'.heap ∧ s'.os = s₁.os ∧ AllBare s'.gens) s₁ := by
  have rv := vals_ints hi
  have lenV := hi.length
  by_cases hk : K.lookup a = none
  · let H : Hp := fun b => if b = a then some (.frz { cls := .type "list", data := .seq vs.toArray } (.lst (ns.map V.int))) else none
    have Ha : H a = some (.frz { cls := .type "list", data := .seq vs.toArray } (.lst (ns.map V.int))) := if_pos rfl
    have Hn : ∀ {b : Addr}, b ≠ a → H b = none := fun h => if_neg h
    have only : Only H := by
      intro b
      by_cases e : b = a
      · subst e; exact .inr ⟨_, _, Ha⟩
      · exact .inl (Hn e)
    refine top_run KX gl bl bb nol ng oa hr F bt (H := H) only ?_ ?_ (hsp H only (.inl (.inr ⟨_, Ha⟩)))
    · intro b u z
      by_cases e : b = a
      · subst e
        rw [Ha] at z
        cases z
        exact ⟨oa, by rw [List.length_map]; exact hl, vs, _, rv, oa⟩
      · rw [Hn e] at z; cases z
    · intro b z
      by_cases e : b = a
      · exact ⟨e, hk⟩
      · exact absurd (Hn e) z
  · obtain ⟨o, ho⟩ := Option.ne_none_iff_exists'.mp hk
    have e := KX a o ho
    rw [oa] at e
    cases e
    have only : Only (fun _ => none) := fun _ => .inl rfl
    refine top_run KX gl bl bb nol ng oa hr F bt (H := fun _ => none) only (fun b u z => nomatch z) (fun b z => absurd rfl z) (hsp _ only (.inr ?_))
    exact ⟨_, vs.toArray, _, ho, rfl, rfl, rfl, by rw [List.size_toArray, lenV]; exact hl, by simpa using rv⟩
end
/-- what k_head leaves, from the promise of the law's def -/
theorem walkG {l : PySem.W.OpenLaw} {n k : Nat} {q : Program} {loose : List Str} {XP : (Str → Option Value) → Heap → Prop} {YP : World → Heap → Prop} {d : DefRec} {K : Params → PySem.W.Frag} {sp : PySem.W.Frag → Sp} {x : Str}
    (hn : l.most = some n) (hn2 : n ≤ sizeLine) (hdf : d.params.defaults = []) (hr : Room k callerA)
    (hY : ∀ (w : World) (h : Heap), YP w h → (K w.params).In h)
    (F : ∀ (w : World) (mg : Str → Option Value) (fa : Addr) (h : Heap), (K w.params).In h → h.Ns mainGlobals mg → mg d.name = some (.ref fa) →
      ∃ fd : FuncData, (∀ (s : Shared) (u : Value), BindsTo s fd ⟨[u], []⟩ [(x, u)]) ∧
        ∀ base : Heap, (K w.params).In base → base.Ns mainGlobals mg → FnG l.prog w (K w.params) mg base k fa fd [x] (sp (K w.params)))
    (hsp : ∀ (K : PySem.W.Frag) (H : Hp) (a : Addr) (ns : List Int), ns.length ≤ n → SqL K H a (ns.map V.int) →
      sp K [.ref a] H (fun v _ => v = .bl true) E0) :
    PySem.W.WalkO q loose XP YP l.row.toRowW d [] (fun f vs => PySem.call f vs) := by
  refine Att.attach_call hn hdf ?_
  intro w s₀ s₁ mg mb fa o pm cd doc a vs ns G Y ho hd hcd hmg oa hi hlen ng
  have KX := hY w _ Y
  obtain ⟨fd, bt, hF⟩ := F w mg fa _ KX G.T.g hmg
  exact law_callG KX G.T.g G.T.b G.T.builtins G.T.nolimit ng oa hi (Nat.le_trans hlen hn2) hr hF bt (fun H _ hS => hsp _ H a ns hlen hS)
end Gd

set_option Elab.async false
set_option linter.all false
set_option maxRecDepth 100000
set_option maxHeartbeats 4000000
/-! a def with defaults, called with all of its arguments, or with some of them -/
namespace Gd
open PySem PySem.Spec PyProof.Rows L2
theorem room65 {k : Nat} {A : Around} (r : Room k A) : A.units + 65 < cLine := by have := r.un; omega
/-- where a def with defaults stands; ds: the values that fill up -/
structure AtX (K : PySem.W.Frag) (mg : Str → Option Value) (x : Str) (st : Stmt) (ps : List Str) (ds : List Value) : Prop where
  ex : ∃ (f : Addr) (oc : Value) (od : Option Addr) (dV kV doc pm : Value) (an : Option Addr) (cdv ct : Value) (osl : Array (Option Value)),
    K.lookup f = some ⟨oc, od, .func (PySem.W.fnOf x x (defArgs st) (defBody st) (defScope st) dV kV doc pm an cdv ct), osl⟩ ∧ PySem.W.codeIn K cdv x = true ∧ PySem.W.keepIn K (.ref f) = true ∧ mg x = some (.ref f) ∧
    Binds K (PySem.W.fnOf x x (defArgs st) (defBody st) (defScope st) dV kV doc pm an cdv ct) ps ds
section
variable {P : Program} {w : World} {K : PySem.W.Frag} {mg : Str → Option Value} {base : Heap}
theorem clX {x : Str} {st : Stmt} {N ps : List Str} {k : Nat} {sp : Sp} (a : AtX K mg x st ps []) (S : FnScope N ps (defScope st))
    (len : ∀ vs H Q E, sp vs H Q E → vs.length = ps.length)
    (hb : ∀ (f : Addr) (cdv : Value) (A : Around) (outer : List Env) (s : Shared) (H : Hp) (vs : List V) (Q : VK),
      A.guards = some [] → Room k (A.deeper (envOfC x (defScope st) s.heap.objs.size f cdv)) → sp vs H Q E0 →
      ∃ t, PSs (cxOf CX0 P w K mg base N x (defScope st) f cdv A outer s H E0).nox (defBody st) t ∧
        t { nx := fun _ H' => Q .non H', rt := Q } (start N vs) H) : Cl P w K mg base (k + 1) x sp := by
  obtain ⟨f, oc, od, dV, kV, doc, pm, an, cdv, ct, osl, lk, hcd, kp, hm, bd⟩ := a.ex
  refine ⟨f, _, ps, ⟨len, fun A outer s H args us vs Q hg hr e0 bt rv hsp => ?_⟩, hm, kp, bd⟩
  have kin : K.In s.heap := e0.mod.kin.keeps (fun b o e => (e0.bs b o e).1)
  have nol : s.heap.NoLimit := e0.mod.nolimit.keeps (fun b o e => (e0.bs b o e).1)
  have pk : ((ps.zip us).all fun y => (defScope st).names.lookup y.1 == some NameKind.local ||
      (defScope st).names.lookup y.1 == some NameKind.cell) = true := by
    rw [List.all_eq_true]
    rintro ⟨n, v⟩ hm
    have hp := S.par n (List.of_mem_zip hm).1
    rcases hp with e | e <;> simp [e]
  refine Att.call_fn kin nol lk hcd hr.depth bt pk (fun s1 ic => ?_) S.co S.gen S.kind
  obtain ⟨t, ht, hq⟩ := hb f cdv A outer s H vs Q hg (hr.deeper _) hsp
  have J := inv_start (CX := CX0) (E := E0) (P := P) (w := w) (mg := mg) (base := base) S hr.hd e0 (len _ _ _ _ hsp) rv ic
  have J' := J.wish (fun _ _ => False)
  refine wpAny_mono (ht.run [] s1 (start N vs) H _ J' hq) (fun fl s' sp' => ?_) (fun _ _ z => z.elim)
  match fl, sp' with
  | .next, ⟨σ', H', L, q⟩ => exact ⟨.non, H', L.os, L.bare, L.base, L.hok, rfl, q⟩
  | .ret u, ⟨v, σ', H', L, rr, q⟩ => exact ⟨v, H', L.os, L.bare, L.base, L.hok, rr, q⟩
  | .brk, ⟨_, _, _, q⟩ => exact False.elim q
  | .cont, ⟨_, _, _, q⟩ => exact False.elim q
end
/-- one default behind: all arguments are given -/
theorem atX_all {K : PySem.W.Frag} {h : Heap} {mg : Str → Option Value} {x : Str} {st : Stmt} {ps : List Str} {f T : Addr} {od an td : Option Addr} {sl ts : Array (Option Value)} {oc kV dc pm cd ct d : Value} {tn : Nat} (X : K.In h) (G : h.Ns mainGlobals mg)
    (a : PySem.W.nsIn K mainGlobals x = some (some (.ref f))) (l : K.lookup f = some ⟨oc, od, .func (PySem.W.fnOf x x (defArgs st) (defBody st) (defScope st) (.ref T) kV dc pm an cd ct), sl⟩) (c : PySem.W.codeIn K cd x = true) (k : PySem.W.keepIn K (.ref f) = true)
    (u : K.lookup T = some ⟨.type "tuple", td, .seq #[d] tn, ts⟩)
    (hb : ∀ (T : Addr) (kV doc pm : Value) (an : Option Addr) (cdv ct : Value) (us its : List Value), us.length = ps.length → its.length = 1 →
      ∃ k, bindArgs (PySem.W.fnOf x x (defArgs st) (defBody st) (defScope st) (.ref T) kV doc pm an cdv ct) ⟨us, []⟩ = seqItems? (.ref T) >>= k ∧ k (some its.toArray) = pure (ps.zip us)) : AtX K mg x st ps [] := by
  refine ⟨f, oc, od, .ref T, kV, dc, pm, an, cd, ct, sl, l, c, k, PySem.W.mg_of X G a, fun s us KX hl => ?_⟩
  rw [List.append_nil] at hl ⊢
  obtain ⟨g, e1, e2⟩ := hb T kV dc pm an cd ct us [d] hl rfl
  refine BindsTo.of_looks fun M => ?_
  rw [e1]
  exact looks_items (its := #[d]) KX u rfl (PySem.W.Looks.of_pure e2)
/-- a method's call within a comprehension: the constants said -/
theorem pe_bmB {X : Cx} {K0 : PySem.W.Frag} {T : String} {name : Str} {id : String} {r : V → List V → Hp → VK → Prop} {o e : Expr} {es : List Expr} {to : TE} {t : TA} {apos cpos : Pos} (hK : X.K = K0) (pa : PlainAttrs T) (slot : Slot T name id) (hty : typeOf (.builtin id) = pure (.type "method_descriptor")) (hm : MtR X id r) (ho : PE X o to) (ha : PA X (e :: es) t)
    (hbase : attributeBase o name X.env (eval o X.env) = eval o X.env := by rfl)
    (hfew : ((backTo cpos (starEach (e :: es) X.env)).all (fun x => !x.1) && (backToKw cpos (keywordEach [] X.env)).all (fun x => x.1.isSome)
      && decide ((e :: es).length + ([] : List Keyword).length + (if ([] : List Keyword).isEmpty then 0 else 1) < 30)) = true := by rfl)
    (hline : (apos.endLine == cpos.line) = true := by rfl) (hs : starEach (e :: es) X.env = (false, eval e X.env) :: starEach es X.env := by rfl) (hplain : (backTo cpos (starEach es X.env)).any (·.1) = false := by rfl) :
    PE X (.Call (.Attribute o name apos) (e :: es) [] cpos) (tBM K0 T r to t) := by
  subst hK
  exact pe_bm pa slot hty hm ho ha hbase hfew hline hs hplain
end Gd

set_option Elab.async false
set_option linter.all false
set_option maxRecDepth 100000
set_option maxHeartbeats 4000000
/-! a def with defaults, called with fewer arguments: the values that fill up come behind -/
namespace Gd
open PySem PySem.Spec PyProof.Rows L2
structure ClD (P : Program) (w : World) (K : PySem.W.Frag) (mg : Str → Option Value) (base : Heap) (k : Nat) (x : Str) (sp : Sp) (dvs : List V) : Prop where
  ex : ∃ (f : Addr) (fd : FuncData) (ps : List Str) (ds : List Value), FnG P w K mg base k f fd ps sp ∧ mg x = some (.ref f) ∧ PySem.W.keepIn K (.ref f) = true ∧ Binds K fd ps ds ∧ Vals dvs ds
section
variable {P : Program} {w : World} {K : PySem.W.Frag} {mg : Str → Option Value} {base : Heap}
theorem clXD {x : Str} {st : Stmt} {N ps : List Str} {k : Nat} {sp : Sp} {ds : List Value} {dvs : List V} (a : AtX K mg x st ps ds) (vd : Vals dvs ds) (S : FnScope N ps (defScope st))
    (len : ∀ vs H Q E, sp vs H Q E → vs.length = ps.length)
    (hb : ∀ (f : Addr) (cdv : Value) (A : Around) (outer : List Env) (s : Shared) (H : Hp) (vs : List V) (Q : VK),
      A.guards = some [] → Room k (A.deeper (envOfC x (defScope st) s.heap.objs.size f cdv)) → sp vs H Q E0 →
      ∃ t, PSs (cxOf CX0 P w K mg base N x (defScope st) f cdv A outer s H E0).nox (defBody st) t ∧
        t { nx := fun _ H' => Q .non H', rt := Q } (start N vs) H) : ClD P w K mg base (k + 1) x sp dvs := by
  obtain ⟨f, oc, od, dV, kV, doc, pm, an, cdv, ct, osl, lk, hcd, kp, hm, bd⟩ := a.ex
  refine ⟨f, _, ps, ds, ⟨len, fun A outer s H args us vs Q hg hr e0 bt rv hsp => ?_⟩, hm, kp, bd, vd⟩
  have kin : K.In s.heap := e0.mod.kin.keeps (fun b o e => (e0.bs b o e).1)
  have nol : s.heap.NoLimit := e0.mod.nolimit.keeps (fun b o e => (e0.bs b o e).1)
  have pk : ((ps.zip us).all fun y => (defScope st).names.lookup y.1 == some NameKind.local ||
      (defScope st).names.lookup y.1 == some NameKind.cell) = true := by
    rw [List.all_eq_true]
    rintro ⟨n, v⟩ hm
    have hp := S.par n (List.of_mem_zip hm).1
    rcases hp with e | e <;> simp [e]
  refine Att.call_fn kin nol lk hcd hr.depth bt pk (fun s1 ic => ?_) S.co S.gen S.kind
  obtain ⟨t, ht, hq⟩ := hb f cdv A outer s H vs Q hg (hr.deeper _) hsp
  have J := inv_start (CX := CX0) (E := E0) (P := P) (w := w) (mg := mg) (base := base) S hr.hd e0 (len _ _ _ _ hsp) rv ic
  have J' := J.wish (fun _ _ => False)
  refine wpAny_mono (ht.run [] s1 (start N vs) H _ J' hq) (fun fl s' sp' => ?_) (fun _ _ z => z.elim)
  match fl, sp' with
  | .next, ⟨σ', H', L, q⟩ => exact ⟨.non, H', L.os, L.bare, L.base, L.hok, rfl, q⟩
  | .ret u, ⟨v, σ', H', L, rr, q⟩ => exact ⟨v, H', L.os, L.bare, L.base, L.hok, rr, q⟩
  | .brk, ⟨_, _, _, q⟩ => exact False.elim q
  | .cont, ⟨_, _, _, q⟩ => exact False.elim q
end
theorem vals_append : ∀ {vs : List V} {us : List Value} {ws : List V} {zs : List Value}, Vals vs us → Vals ws zs → Vals (vs ++ ws) (us ++ zs)
  | _, _, _, _, .nil, h => h
  | _, _, _, _, .cons a b, h => .cons a (vals_append b h)
section
variable {X : Cx} {k j : Nat} {x : Str} {sp : Sp} {p pos : Pos} {e : Expr} {es : List Expr} {t : TA} {dvs : List V}
theorem run_clD {f : Addr} {fd : FuncData} {ps : List Str} {ds : List Value} {pins : List (Addr × Obj)} {σ : L2.St} {H : Hp} {s : Shared} {Q : VK} {us : List Value} {vs : List V}
    (F : FnG X.prog X.w X.K X.mg X.base k f fd ps sp) (hg : X.A.guards = some []) (hr : Room k X.A) (b : Binds X.K fd ps ds) (vd : Vals dvs ds)
    (I : Inv X pins σ H s) (rv : Vals vs us) (h : sp (vs ++ dvs) H Q E0) : wpAny (model X.prog X.w) X.A (call (.ref f) us) (EP X pins σ Q) X.xe s := by
  have ra := vals_append rv vd
  have hl : (us ++ ds).length = ps.length := ra.length.symm.trans (F.len _ _ _ _ h)
  have bt := b s us I.kIn hl
  refine wpAny_call (codeAny_mono (F.go X.A X.stack s H ⟨us, []⟩ (us ++ ds) (vs ++ dvs) Q hg hr I.env0 bt ra h) (fun r s' hq => ?_))
  match r, hq with
  | .ok (.ret u), hq => exact I.after hq
  | .ok .next, hq => exact False.elim hq
  | .ok .brk, hq => exact False.elim hq
  | .ok .cont, hq => exact False.elim hq
  | .error _, hq => exact False.elim hq
/-- f(e, ..), some arguments left out -/
theorem pe_clD (c : ClD X.prog X.w X.K X.mg X.base k x sp dvs) (hg : X.A.guards = some []) (hr : Room j X.A) (hk : k ≤ j) (gl : Gl X x) (ha : PA X (e :: es) t)
    (hd : (x == ("__debug__" : Str)) = false := by decide)
    (he : starEach (e :: es) X.env = (false, eval e X.env) :: starEach es X.env := by rfl)
    (hp : (backTo pos (starEach es X.env)).any (·.1) = false := by rfl) :
    PE X (.Call (.Name x p) (e :: es) [] pos) (tCall sp dvs E0 t) := by
  obtain ⟨f, fd, ps, ds, F, hm, kp, b, vd⟩ := c.ex
  refine ⟨fun pins s σ H Q I h => wpAny_Call_Name_kw (ld_glob I gl hm (PySem.W.callWith_K (h₀ := X.base) I.ok.mod.kin kp ?_ he hp) hd)⟩
  refine thn (ha.run pos pins s σ H _ I h) (fun us s1 z => ?_)
  obtain ⟨vs, H1, I1, rv, q⟩ := z
  exact ⟨I1.kIn, run_clD F hg (hr.mono hk) b vd I1 rv q⟩
end
/-- one default behind: it is left out -/
theorem atX_less {K : PySem.W.Frag} {h : Heap} {mg : Str → Option Value} {x : Str} {st : Stmt} {ps : List Str} {f T : Addr} {od an td : Option Addr} {sl ts : Array (Option Value)} {oc kV dc pm cd ct d : Value} {tn : Nat} (X : K.In h) (G : h.Ns mainGlobals mg)
    (a : PySem.W.nsIn K mainGlobals x = some (some (.ref f))) (l : K.lookup f = some ⟨oc, od, .func (PySem.W.fnOf x x (defArgs st) (defBody st) (defScope st) (.ref T) kV dc pm an cd ct), sl⟩) (c : PySem.W.codeIn K cd x = true) (k : PySem.W.keepIn K (.ref f) = true)
    (u : K.lookup T = some ⟨.type "tuple", td, .seq #[d] tn, ts⟩)
    (hb : ∀ (T : Addr) (kV doc pm : Value) (an : Option Addr) (cdv ct : Value) (us its : List Value), us.length + 1 = ps.length → its.length = 1 →
      ∃ k, bindArgs (PySem.W.fnOf x x (defArgs st) (defBody st) (defScope st) (.ref T) kV doc pm an cdv ct) ⟨us, []⟩ = seqItems? (.ref T) >>= k ∧ k (some its.toArray) = pure (ps.zip (us ++ its))) : AtX K mg x st ps [d] := by
  refine ⟨f, oc, od, .ref T, kV, dc, pm, an, cd, ct, sl, l, c, k, PySem.W.mg_of X G a, fun s us KX hl => ?_⟩
  obtain ⟨g, e1, e2⟩ := hb T kV dc pm an cd ct us [d] (by rw [List.length_append] at hl; exact hl) rfl
  refine BindsTo.of_looks fun M => ?_
  rw [e1]
  exact looks_items (its := #[d]) KX u rfl (PySem.W.Looks.of_pure e2)
end Gd

set_option Elab.async false
set_option linter.all false
set_option maxRecDepth 100000
set_option maxHeartbeats 4000000
namespace Rm
open PySem PySem.Spec PyProof.Rows L2 Gd

/-! ### how long a display is -/
structure Fit (L n : Nat) (d : PyData) : Prop where
  sh : d.showable = true
  dp : d.depth ≤ n
  ln : d.shown.length ≤ L
theorem Fit.mono {L n L' n' : Nat} {d : PyData} (f : Fit L n d) (h : L ≤ L') (h' : n ≤ n') : Fit L' n' d := ⟨f.sh, by have := f.dp; omega, by have := f.ln; omega⟩
theorem allSh {L n : Nat} : ∀ {ds : List PyData}, (∀ d ∈ ds, Fit L n d) → PyData.showableAll ds = true ∧ PyData.depthAll ds ≤ n ∧ piled (PyData.shownAll ds) ≤ ds.length * (L + 2)
  | [], _ => ⟨rfl, Nat.zero_le _, Nat.zero_le _⟩
  | d :: ds, h => by
    obtain ⟨a, b, c⟩ := allSh (ds := ds) fun x hx => h x (List.mem_cons_of_mem _ hx)
    have f := h d List.mem_cons_self
    refine ⟨?_, ?_, ?_⟩
    · show (d.showable && PyData.showableAll ds) = true
      rw [f.sh, a]; rfl
    · show max d.depth (PyData.depthAll ds) ≤ n
      have := f.dp
      omega
    · show piled (d.shown :: PyData.shownAll ds) ≤ _
      rw [piled_cons, List.length_cons]
      have := f.ln
      have e : (ds.length + 1) * (L + 2) = ds.length * (L + 2) + (L + 2) := Nat.succ_mul _ _
      omega
theorem listText_le (ts : List Str) : (listText ts).length ≤ piled ts + 2 := by
  cases ts with
  | nil => decide
  | cons t r =>
    have h := textFrom_length_pos r 1 (("[" : Str) ++ (if (0 : Nat) > 0 then ", " else "" : String) ++ t) (Nat.succ_pos 0)
    have e : ((("[" : Str) ++ (if (0 : Nat) > 0 then ", " else "" : String) ++ t)).length = 1 + t.length := by
      rw [strLen_append, strLen_append]; rfl
    have x : (listText (t :: r)).length = (textFrom 1 (("[" : Str) ++ (if (0 : Nat) > 0 then ", " else "" : String) ++ t) r).length + 1 := by
      show (textFrom 1 (("[" : Str) ++ (if (0 : Nat) > 0 then ", " else "" : String) ++ t) r ++ "]").length = _
      rw [strLen_append]; rfl
    rw [x, h, e, piled_cons]
    omega
theorem tupleText_le (ts : List Str) : (tupleText ts).length ≤ piled ts + 3 := by
  unfold tupleText
  rw [strLen_append, strLen_append]
  have e1 : ((("(" : String) : Str)).length = 1 := rfl
  have e3 : (((if ts.length == 1 then ",)" else ")" : String) : Str)).length ≤ 2 := by split <;> decide
  rw [e1]
  cases ts with
  | nil =>
    have : (Str.join ", " []).length = 0 := by decide
    omega
  | cons t r =>
    have := join_length_add (t :: r) (by simp)
    omega
theorem fit_list {L n : Nat} {ds : List PyData} (h : ∀ d ∈ ds, Fit L n d) : Fit (ds.length * (L + 2) + 3) (n + 1) (.list ds) := by
  obtain ⟨a, b, c⟩ := allSh h
  have := listText_le (PyData.shownAll ds)
  exact ⟨a, by show PyData.depthAll ds + 1 ≤ _; omega, by show (listText (PyData.shownAll ds)).length ≤ _; omega⟩
theorem fit_tup {L n : Nat} {ds : List PyData} (h : ∀ d ∈ ds, Fit L n d) : Fit (ds.length * (L + 2) + 3) (n + 1) (.tuple ds) := by
  obtain ⟨a, b, c⟩ := allSh h
  have := tupleText_le (PyData.shownAll ds)
  exact ⟨a, by show PyData.depthAll ds + 1 ≤ _; omega, by show (tupleText (PyData.shownAll ds)).length ≤ _; omega⟩
theorem fit_int {i : Int} (h : i.natAbs < 2 ^ 200) : Fit 210 0 (.int i) := by
  have hl : i.natAbs.log2 < 200 := PySem.Flt.log2_lt_of (by decide) h
  refine ⟨?_, Nat.le_refl _, ?_⟩
  · show decide (i.natAbs.log2 < 1920) = true
    exact decide_eq_true (by omega)
  · show (Str.ofString (toString i)).length ≤ 210
    rw [PySem.ofString_length]
    have := int_text_length_le (k := 200) (by decide) hl
    omega
theorem fit_none : Fit 210 0 .none := ⟨rfl, Nat.le_refl _, by decide +kernel⟩
theorem fit_bool (b : Bool) : Fit 210 0 (.bool b) := ⟨rfl, Nat.le_refl _, by cases b <;> decide +kernel⟩

/-! ### records -/
structure Ev where
  t : Int
  k : Int
  d : Bool
def wayS (d : Bool) : Str := if d then "down" else "up"
theorem wayS_inj {a b : Bool} : wayS a = wayS b ↔ a = b := by cases a <;> cases b <;> decide +kernel
theorem wayS_down (d : Bool) : decide (V.str (wayS d) = V.str "down") = d := by cases d <;> decide +kernel
def evD (e : Ev) : PyData := .tuple [.int e.t, .int e.k, .str (wayS e.d)]
def stD (e : Ev) : PyData := .tuple [.int e.k, .str (wayS e.d)]
def evV (e : Ev) : List V := [.int e.t, .int e.k, .str (wayS e.d)]
def stV (e : Ev) : List V := [.int e.k, .str (wayS e.d)]
def recD (es : List Ev) : PyData := .list (es.map evD)
def ordD (es : List Ev) : PyData := .list (es.map stD)
def after (h : Int → Bool) (e : Ev) : Int → Bool := fun k => if k = e.k then e.d else h k
def heldB (es : List Ev) : Int → Bool := es.foldl after fun _ => false
theorem heldB_snoc (es : List Ev) (e : Ev) : heldB (es ++ [e]) = after (heldB es) e := by unfold heldB; rw [List.foldl_append]; rfl
theorem heldB_take {es : List Ev} {i : Nat} {e : Ev} (h : es[i]? = some e) : heldB (es.take (i + 1)) = after (heldB (es.take i)) e := by
  rw [List.take_add_one, h]
  exact heldB_snoc _ _
/-- a record as the document has it -/
def Valid (es : List Ev) : Prop := ∀ (i : Nat) (e : Ev), es[i]? = some e → 0 ≤ e.k ∧ heldB (es.take i) e.k = !e.d ∧ ∀ (j : Nat) (e' : Ev), j < i → es[j]? = some e' → e'.t ≤ e.t
/-- an order: the same without ticks -/
def ValidO (es : List Ev) : Prop := ∀ (i : Nat) (e : Ev), es[i]? = some e → 0 ≤ e.k ∧ heldB (es.take i) e.k = !e.d
theorem Valid.o {es : List Ev} (h : Valid es) : ValidO es := fun i e x => ⟨(h i e x).1, (h i e x).2.1⟩
theorem Valid.nil : Valid [] := fun _ _ h => by simp at h
theorem Valid.take {es : List Ev} (h : Valid es) (n : Nat) : Valid (es.take n) := fun i e x => by
  have hi : i < n := by
    rcases Nat.lt_or_ge i n with q | q
    · exact q
    · rw [List.getElem?_eq_none (by rw [List.length_take]; omega)] at x; cases x
  rw [List.getElem?_take_of_lt hi] at x
  obtain ⟨a, b, c⟩ := h i e x
  refine ⟨a, ?_, fun j e' hj y => ?_⟩
  · rw [List.take_take, Nat.min_eq_left (by omega)]; exact b
  · rw [List.getElem?_take_of_lt (by omega)] at y
    exact c j e' hj y
theorem ValidO.take {es : List Ev} (h : ValidO es) (n : Nat) : ValidO (es.take n) := fun i e x => by
  have hi : i < n := by
    rcases Nat.lt_or_ge i n with q | q
    · exact q
    · rw [List.getElem?_eq_none (by rw [List.length_take]; omega)] at x; cases x
  rw [List.getElem?_take_of_lt hi] at x
  obtain ⟨a, b⟩ := h i e x
  exact ⟨a, by rw [List.take_take, Nat.min_eq_left (by omega)]; exact b⟩
theorem Valid.snoc {es : List Ev} {e : Ev} (h : Valid es) (h0 : 0 ≤ e.k) (hb : heldB es e.k = !e.d) (ht : ∀ e' ∈ es, e'.t ≤ e.t) : Valid (es ++ [e]) := fun i x hx => by
  rcases Nat.lt_or_ge i es.length with q | q
  · rw [List.getElem?_append_left q] at hx
    obtain ⟨a, b, c⟩ := h i x hx
    refine ⟨a, ?_, fun j e' hj y => ?_⟩
    · rw [List.take_append_of_le_length (by omega)]; exact b
    · rw [List.getElem?_append_left (by omega)] at y
      exact c j e' hj y
  · have hi : i = es.length := by
      have := (List.getElem?_eq_some_iff.mp hx).1
      rw [List.length_append] at this
      simp at this
      omega
    subst hi
    rw [List.getElem?_append_right (Nat.le_refl _), Nat.sub_self] at hx
    have ex : e = x := Option.some.inj hx
    subst ex
    refine ⟨h0, ?_, fun j e' hj y => ?_⟩
    · rw [List.take_append_of_le_length (Nat.le_refl _), List.take_length]; exact hb
    · rw [List.getElem?_append_left hj] at y
      exact ht e' (List.mem_of_getElem? y)
/-- the ticks and keys are not too great to be shown -/
def Small (es : List Ev) : Prop := ∀ e ∈ es, e.t.natAbs < 2 ^ 200 ∧ e.k.natAbs < 2 ^ 200
theorem fit_ev {e : Ev} (h : e.t.natAbs < 2 ^ 200 ∧ e.k.natAbs < 2 ^ 200) : Fit 1000 1 (evD e) := by
  refine Fit.mono (fit_tup (L := 210) (n := 0) fun d hd => ?_) (by show 3 * 212 + 3 ≤ 1000; decide) (Nat.le_refl _)
  simp only [List.mem_cons, List.mem_nil_iff, or_false] at hd
  rcases hd with rfl | rfl | rfl
  · exact fit_int h.1
  · exact fit_int h.2
  · exact ⟨rfl, Nat.le_refl _, by cases e.d <;> decide +kernel⟩
theorem fit_st {e : Ev} (h : e.k.natAbs < 2 ^ 200) : Fit 1000 1 (stD e) := by
  refine Fit.mono (fit_tup (L := 210) (n := 0) fun d hd => ?_) (by show 2 * 212 + 3 ≤ 1000; decide) (Nat.le_refl _)
  simp only [List.mem_cons, List.mem_nil_iff, or_false] at hd
  rcases hd with rfl | rfl
  · exact fit_int h
  · exact ⟨rfl, Nat.le_refl _, by cases e.d <;> decide +kernel⟩
theorem fit_rec {es : List Ev} (h : Small es) (hl : es.length ≤ 1000) : Fit 1100000 2 (recD es) := by
  refine Fit.mono (fit_list (L := 1000) (n := 1) fun d hd => ?_) (by rw [List.length_map]; omega) (Nat.le_refl _)
  obtain ⟨e, he, rfl⟩ := List.mem_map.mp hd
  exact fit_ev (h e he)
theorem fit_ord {es : List Ev} (h : Small es) (hl : es.length ≤ 1000) : Fit 1100000 2 (ordD es) := by
  refine Fit.mono (fit_list (L := 1000) (n := 1) fun d hd => ?_) (by rw [List.length_map]; omega) (Nat.le_refl _)
  obtain ⟨e, he, rfl⟩ := List.mem_map.mp hd
  exact fit_st (h e he).2

/-! ### the dict of what is held -/
structure HeldK (kvs : List (Key × V)) (h : Int → Bool) : Prop where
  fm : ∀ p ∈ kvs, ∃ (k : Int) (b : Bool), p = (Sum.inl k, V.bl b)
  nd : (kvs.map (·.1)).Nodup
  at_ : ∀ k : Int, (valV kvs (Sum.inl k)).getD (.bl false) = .bl (h k)
theorem HeldK.nil : HeldK [] fun _ => false := ⟨fun _ h => by simp at h, List.nodup_nil, fun _ => rfl⟩
theorem put_len (kvs : List (Key × V)) (k : Key) (v : V) : (putK kvs k v).length ≤ kvs.length + 1 := by
  unfold putK
  split
  · rw [List.length_map]; omega
  · rw [List.length_append]; exact Nat.le_refl _
theorem put_keys (kvs : List (Key × V)) (k : Key) (v : V) (h : (kvs.map (·.1)).Nodup) : ((putK kvs k v).map (·.1)).Nodup := by
  cases e : valV kvs k with
  | none => exact nd_putK v h e
  | some x =>
    have a : (kvs.any fun kv => decide (kv.1 = k)) = true := by rw [valV_any, e]; rfl
    unfold putK
    rw [if_pos a, List.map_map]
    have : ((fun p : Key × V => p.1) ∘ fun kv => if kv.1 = k then (kv.1, v) else kv) = (·.1) := by
      funext p
      show (if p.1 = k then (p.1, v) else p).1 = p.1
      split <;> rfl
    rw [this]
    exact h
theorem HeldK.put {kvs : List (Key × V)} {es : List Ev} {e : Ev} (h : HeldK kvs (heldB es)) : HeldK (putK kvs (Sum.inl e.k) (.bl e.d)) (heldB (es ++ [e])) := by
  refine ⟨fun p hp => ?_, put_keys _ _ _ h.nd, fun k => ?_⟩
  · unfold putK at hp
    split at hp
    · obtain ⟨q, hq, rfl⟩ := List.mem_map.mp hp
      obtain ⟨k, b, rfl⟩ := h.fm q hq
      by_cases z : (Sum.inl k : Key) = Sum.inl e.k
      · exact ⟨k, e.d, by simp [z]⟩
      · exact ⟨k, b, by simp [z]⟩
    · rcases List.mem_append.mp hp with hp | hp
      · exact h.fm p hp
      · exact ⟨e.k, e.d, List.mem_singleton.mp hp⟩
  · rw [valV_put, heldB_snoc]
    unfold after
    by_cases z : k = e.k
    · subst z; simp
    · rw [if_neg (fun q => z (Sum.inl.inj q)), if_neg z]
      exact h.at_ k
def downs (kvs : List (Key × V)) : List Int := kvs.filterMap fun p => match p with
  | (Sum.inl k, .bl true) => some k
  | _ => none
theorem downs_cons (k : Int) (b : Bool) (r : List (Key × V)) : downs ((Sum.inl k, .bl b) :: r) = if b then k :: downs r else downs r := by
  cases b <;> simp [downs, List.filterMap_cons]
theorem downs_sub : ∀ {kvs : List (Key × V)} {k : Int}, k ∈ downs kvs → (Sum.inl k : Key) ∈ kvs.map (·.1)
  | kvs, k, h => by
    obtain ⟨p, hp, e⟩ := List.mem_filterMap.mp h
    refine List.mem_map.mpr ⟨p, hp, ?_⟩
    obtain ⟨a, b⟩ := p
    cases a with
    | inr _ => cases e
    | inl k' =>
      cases b with
      | bl c => cases c <;> simp at e; rw [e]
      | non => cases e
      | int _ => cases e
      | str _ => cases e
      | byt _ => cases e
      | flt _ => cases e
      | ref _ => cases e
      | ty _ => cases e
theorem downs_nd : ∀ {kvs : List (Key × V)}, (∀ p ∈ kvs, ∃ (k : Int) (b : Bool), p = (Sum.inl k, V.bl b)) → (kvs.map (·.1)).Nodup → (downs kvs).Nodup
  | [], _, _ => List.nodup_nil
  | p :: r, fm, nd => by
    obtain ⟨k, b, rfl⟩ := fm p List.mem_cons_self
    have nd' : ((Sum.inl k : Key) :: r.map (·.1)).Nodup := nd
    obtain ⟨n1, n2⟩ := List.nodup_cons.mp nd'
    have ih := downs_nd (fun q hq => fm q (List.mem_cons_of_mem _ hq)) n2
    rw [downs_cons]
    split
    · exact List.nodup_cons.mpr ⟨fun m => n1 (downs_sub m), ih⟩
    · exact ih
theorem downs_mem : ∀ {kvs : List (Key × V)}, (∀ p ∈ kvs, ∃ (k : Int) (b : Bool), p = (Sum.inl k, V.bl b)) → (kvs.map (·.1)).Nodup → ∀ k : Int, k ∈ downs kvs ↔ valV kvs (Sum.inl k) = some (.bl true)
  | [], _, _, k => by simp [downs, valV]
  | p :: r, fm, nd, k => by
    obtain ⟨k', b, rfl⟩ := fm p List.mem_cons_self
    have nd' : ((Sum.inl k' : Key) :: r.map (·.1)).Nodup := nd
    obtain ⟨n1, n2⟩ := List.nodup_cons.mp nd'
    have ih := downs_mem (fun q hq => fm q (List.mem_cons_of_mem _ hq)) n2 k
    rw [downs_cons]
    by_cases z : k' = k
    · subst z
      rw [valV_pos rfl]
      cases b with
      | true => simp
      | false =>
        simp only [Bool.false_eq_true, if_false]
        constructor
        · intro m; exact absurd (downs_sub m) n1
        · intro m; cases m
    · rw [valV_neg (fun q => z (Sum.inl.inj q))]
      rw [← ih]
      split
      · rw [List.mem_cons]
        exact ⟨fun q => q.resolve_left fun e => z e.symm, .inr⟩
      · exact Iff.rfl
theorem HeldK.mem {kvs : List (Key × V)} {h : Int → Bool} (x : HeldK kvs h) (k : Int) : k ∈ downs kvs ↔ h k = true := by
  rw [downs_mem x.fm x.nd k]
  have q := x.at_ k
  cases e : valV kvs (Sum.inl k) with
  | none =>
    rw [e] at q
    have q : V.bl false = .bl (h k) := q
    have : h k = false := (V.bl.inj q).symm
    simp [this]
  | some v =>
    rw [e] at q
    have q : v = .bl (h k) := q
    subst q
    constructor
    · intro z
      exact V.bl.inj (Option.some.inj z)
    · intro z
      rw [z]
/-- two ascending lists of the same keys -/
theorem same_sorted {a b c d : List Int} (h : ∀ k, k ∈ a ↔ k ∈ b) (na : a.Nodup) (nb : b.Nodup) (pa : c.Perm a) (pb : d.Perm b) (sa : c.Pairwise (· ≤ ·)) (sb : d.Pairwise (· ≤ ·)) : c = d := by
  have p : a.Perm b := (List.perm_ext_iff_of_nodup na nb).mpr h
  exact List.Perm.eq_of_pairwise (fun x y _ _ h1 h2 => Int.le_antisymm h1 h2) sa sb ((pa.trans p).trans pb.symm)

/-! ### heaps that change at one address alone -/
def Off (r : Addr) (H H' : Hp) : Prop := ∀ b o, H b = some o → b ≠ r → H' b = some o
theorem Off.refl {r : Addr} (H : Hp) : Off r H H := fun _ _ h _ => h
theorem Off.trans {r : Addr} {H H1 H2 : Hp} (a : Off r H H1) (b : Off r H1 H2) : Off r H H2 := fun c o h n => b c o (a c o h n) n
theorem Off.of {r : Addr} {H H1 : Hp} (a : Same H H1) : Off r H H1 := fun c o h _ => a c o h
theorem off_upd {r : Addr} {H : Hp} {o : HO} : Off r H (upd H r o) := fun b _ h n => by rw [upd_ne n]; exact h
theorem same_upd {H : Hp} {p : Addr} {o : HO} (h : H p = none) : Same H (upd H p o) := fun b x e => by
  rw [upd_ne (ne_of_none e h)]
  exact e
/-- what is new may change -/
theorem Same.off {H H1 H2 : Hp} {p : Addr} (s : Same H H1) (h : H p = none) (o : Off p H1 H2) : Same H H2 := fun b x e => o b x (s b x e) (ne_of_none e h)

/-! ### lists of tuples -/
def Tups {α : Type} (H : Hp) (f : α → List V) (as : List Addr) (es : List α) : Prop := as.length = es.length ∧ ∀ (i : Nat) (a : Addr) (e : α), as[i]? = some a → es[i]? = some e → H a = some (.tup (f e))
def Lst {α : Type} (f : α → List V) (H : Hp) (c : Addr) (es : List α) : Prop := ∃ as : List Addr, H c = some (.lst (as.map V.ref)) ∧ Tups H f as es
section
variable {α : Type} {f : α → List V} {H H' : Hp} {c r : Addr} {as : List Addr} {es : List α}
theorem Tups.nil : Tups H f [] ([] : List α) := ⟨rfl, fun i a e h _ => by simp at h⟩
theorem Tups.same (h : Tups H f as es) (s : Same H H') : Tups H' f as es := ⟨h.1, fun i a e x y => s _ _ (h.2 i a e x y)⟩
theorem Tups.off {ys : List V} (h : Tups H f as es) (hr : H r = some (.lst ys)) (o : Off r H H') : Tups H' f as es :=
  ⟨h.1, fun i a e x y => o _ _ (h.2 i a e x y) (ne_of (h.2 i a e x y) hr (by intro z; cases z))⟩
theorem Tups.snoc {a : Addr} {e : α} (h : Tups H f as es) (ha : H a = some (.tup (f e))) : Tups H f (as ++ [a]) (es ++ [e]) := by
  refine ⟨by rw [List.length_append, List.length_append, h.1]; rfl, fun i b x hb hx => ?_⟩
  rcases Nat.lt_or_ge i as.length with q | q
  · rw [List.getElem?_append_left q] at hb
    rw [List.getElem?_append_left (by rw [← h.1]; exact q)] at hx
    exact h.2 i b x hb hx
  · have hl := h.1
    have hi : i = as.length := by
      have := (List.getElem?_eq_some_iff.mp hb).1
      rw [List.length_append] at this
      simp at this
      omega
    subst hi
    rw [List.getElem?_append_right (Nat.le_refl _), Nat.sub_self] at hb
    rw [List.getElem?_append_right (by omega), show as.length - es.length = 0 by omega] at hx
    have e1 : a = b := Option.some.inj hb
    have e2 : e = x := Option.some.inj hx
    subst e1 e2
    exact ha
theorem Tups.take (h : Tups H f as es) (n : Nat) : Tups H f (as.take n) (es.take n) := by
  refine ⟨by rw [List.length_take, List.length_take, h.1], fun i b x hb hx => ?_⟩
  have hi : i < n := by
    rcases Nat.lt_or_ge i n with q | q
    · exact q
    · rw [List.getElem?_eq_none (by rw [List.length_take]; omega)] at hb; cases hb
  rw [List.getElem?_take_of_lt hi] at hb hx
  exact h.2 i b x hb hx
theorem Tups.append {bs : List Addr} {gs : List α} (h : Tups H f as es) (h' : Tups H f bs gs) : Tups H f (as ++ bs) (es ++ gs) := by
  refine ⟨by rw [List.length_append, List.length_append, h.1, h'.1], fun i b x hb hx => ?_⟩
  have hl := h.1
  rcases Nat.lt_or_ge i as.length with q | q
  · rw [List.getElem?_append_left q] at hb
    rw [List.getElem?_append_left (by omega)] at hx
    exact h.2 i b x hb hx
  · rw [List.getElem?_append_right q] at hb
    rw [List.getElem?_append_right (by omega), ← hl] at hx
    exact h'.2 _ b x hb hx
theorem Tups.at_ (h : Tups H f as es) {i : Nat} (hi : i < es.length) : ∃ a, as[i]? = some a ∧ H a = some (.tup (f es[i])) := by
  have hl := h.1
  exact ⟨as[i], List.getElem?_eq_getElem (by omega), h.2 i _ _ (List.getElem?_eq_getElem (by omega)) (List.getElem?_eq_getElem hi)⟩
theorem Tups.map {β : Type} {g : β → α} {bs : List β} (h : Tups H f as (bs.map g)) : Tups H (fun b => f (g b)) as bs := by
  refine ⟨by rw [h.1, List.length_map], fun i a b x y => h.2 i a (g b) x (by rw [List.getElem?_map, y]; rfl)⟩
theorem Tups.map' {β : Type} {g : β → α} {bs : List β} (h : Tups H (fun b => f (g b)) as bs) : Tups H f as (bs.map g) := by
  refine ⟨by rw [h.1, List.length_map], fun i a e x y => ?_⟩
  rw [List.getElem?_map] at y
  cases z : bs[i]? with
  | none => rw [z] at y; cases y
  | some b =>
    rw [z] at y
    have y : g b = e := Option.some.inj y
    subst y
    exact h.2 i a b x z
theorem Lst.same (h : Lst f H c es) (s : Same H H') : Lst f H' c es := by
  obtain ⟨as, a, b⟩ := h
  exact ⟨as, s _ _ a, b.same s⟩
theorem Lst.off {ys : List V} (h : Lst f H c es) (hr : H r = some (.lst ys)) (n : c ≠ r) (o : Off r H H') : Lst f H' c es := by
  obtain ⟨as, a, b⟩ := h
  exact ⟨as, o _ _ a n, b.off hr o⟩
end
theorem dp_int {K : PySem.W.Frag} {H : Hp} {i : Int} : Dp K H (.int i) (.int i) := .int i
theorem dpAll_of {K : PySem.W.Frag} {H : Hp} {α : Type} {f : α → List V} {g : α → PyData} (hg : ∀ (a : Addr) (e : α), H a = some (.tup (f e)) → Dp K H (.ref a) (g e)) :
    ∀ (as : List Addr) (es : List α), Tups H f as es → DpAll K H (as.map V.ref) (es.map g)
  | [], [], _ => .nil
  | [], _ :: _, h => by have := h.1; simp at this
  | _ :: _, [], h => by have := h.1; simp at this
  | a :: as, e :: es, h => .cons (hg a e (h.2 0 a e rfl rfl)) (dpAll_of hg as es ⟨by have := h.1; simpa using this, fun i b x hb hx => h.2 (i + 1) b x (by simpa using hb) (by simpa using hx)⟩)
theorem Lst.dp {K : PySem.W.Frag} {H : Hp} {c : Addr} {es : List Ev} (h : Lst evV H c es) : Dp K H (.ref c) (recD es) := by
  obtain ⟨as, a, b⟩ := h
  refine .lst (SqL.of a) (dpAll_of (fun a e ha => ?_) as es b)
  exact .tup (SqT.of ha) (.cons (.int _) (.cons (.int _) (.cons (.str _) .nil)))
theorem Lst.dpO {K : PySem.W.Frag} {H : Hp} {c : Addr} {es : List Ev} (h : Lst stV H c es) : Dp K H (.ref c) (ordD es) := by
  obtain ⟨as, a, b⟩ := h
  refine .lst (SqL.of a) (dpAll_of (fun a e ha => ?_) as es b)
  exact .tup (SqT.of ha) (.cons (.int _) (.cons (.str _) .nil))
theorem dpInts {K : PySem.W.Frag} {H : Hp} : ∀ ns : List Int, DpAll K H (ns.map V.int) (ns.map PyData.int)
  | [] => .nil
  | n :: ns => .cons (.int n) (dpInts ns)
theorem Lst.sql {K : PySem.W.Frag} {α : Type} {f : α → List V} {H : Hp} {c : Addr} {es : List α} (h : Lst f H c es) : ∃ xs : List V, SqL K H c xs ∧ xs.length = es.length := by
  obtain ⟨as, a, b⟩ := h
  exact ⟨_, SqL.of a, by rw [List.length_map]; exact b.1⟩

theorem val_at : ∀ {kvs : List (Key × V)} {i : Nat} {k : Key} {v : V}, (kvs.map (·.1)).Nodup → kvs[i]? = some (k, v) → valV kvs k = some v
  | [], _, _, _, _, h => by simp at h
  | p :: r, 0, k, v, _, h => by
    have e : p = (k, v) := Option.some.inj h
    subst e
    exact valV_pos rfl
  | p :: r, i + 1, k, v, nd, h => by
    have nd' : (p.1 :: r.map (·.1)).Nodup := nd
    obtain ⟨n1, n2⟩ := List.nodup_cons.mp nd'
    have h' : r[i]? = some (k, v) := by simpa using h
    have m : k ∈ r.map (·.1) := List.mem_map.mpr ⟨(k, v), List.mem_of_getElem? h', rfl⟩
    rw [valV_neg (fun e => n1 (e ▸ m))]
    exact val_at n2 h'
theorem downs_append (a b : List (Key × V)) : downs (a ++ b) = downs a ++ downs b := by unfold downs; rw [List.filterMap_append]
theorem downs_take {kvs : List (Key × V)} {i : Nat} {k : Int} {b : Bool} (h : kvs[i]? = some (Sum.inl k, .bl b)) : downs (kvs.take (i + 1)) = if b then downs (kvs.take i) ++ [k] else downs (kvs.take i) := by
  rw [List.take_add_one, h, downs_append]
  cases b <;> simp [downs]
theorem downs_len (kvs : List (Key × V)) : (downs kvs).length ≤ kvs.length := by unfold downs; exact List.length_filterMap_le _ _
end Rm

set_option Elab.async false
set_option linter.all false
set_option maxRecDepth 100000
set_option maxHeartbeats 4000000
namespace Rm
open PySem PySem.Spec PyProof.Rows L2 Gd

theorem Off.new {r p : Addr} {H H1 : Hp} {o : HO} (a : Off r H H1) (n : H p = none) : Off r H (upd H1 p o) := fun b x e ne => by
  rw [upd_ne (ne_of_none e n)]
  exact a b x e ne
theorem Off.at_ {r : Addr} {H H1 : Hp} {o : HO} (a : Off r H H1) : Off r H (upd H1 r o) := a.trans off_upd
theorem Off.sameTrans {r : Addr} {H H1 H2 : Hp} (a : Off r H H1) (b : Same H1 H2) : Off r H H2 := a.trans (Off.of b)
/-- what was free stays free of it: a new address of a later heap is new for the earlier one too -/
theorem Off.free {r p : Addr} {H H1 : Hp} {o : HO} (a : Off r H H1) (hr : H1 r = some o) (n : H1 p = none) : H p = none := by
  cases e : H p with
  | none => rfl
  | some x =>
    have h : p ≠ r := fun z => by rw [z, hr] at n; cases n
    rw [a p x e h] at n
    cases n

theorem getI {ns : List Int} {d : Int} (h0 : 0 ≤ d) (h1 : d < (ns.length : Int)) : ∃ (v : Int), atI (ns.map V.int) d = some (.int v) ∧ ns[d.toNat]? = some v := by
  have hd : d.toNat < ns.length := by omega
  refine ⟨ns[d.toNat], ?_, List.getElem?_eq_getElem hd⟩
  refine at_of (j := d.toNat) (by omega) ?_
  rw [List.getElem?_map, List.getElem?_eq_getElem hd]
  rfl
theorem inv_int (k : Int) : ∀ ns : List Int, inV (.int k) (ns.map V.int) = decide (k ∈ ns)
  | [] => rfl
  | n :: ns => by
    show (eqV (.int n) (.int k) || inV (.int k) (ns.map V.int)) = _
    rw [inv_int k ns]
    have e : eqV (.int n) (.int k) = decide (n = k) := by
      by_cases z : n = k <;> simp [eqV, z]
    rw [e]
    by_cases z : n = k
    · subst z; simp
    · have z' : ¬ k = n := fun q => z q.symm
      simp [z, z']
theorem flat_ints : ∀ ns : List Int, (ns.map V.int).all flatV = true
  | [] => rfl
  | n :: ns => by
    show (flatV (.int n) && (ns.map V.int).all flatV) = true
    rw [flat_ints ns]
    rfl
theorem lay_ints : ∀ ns : List Int, PyData.canLayAll0 (ns.map PyData.int) = true ∧ PyData.depthAll (ns.map PyData.int) = 0
  | [] => ⟨rfl, rfl⟩
  | n :: ns => by
    obtain ⟨a, b⟩ := lay_ints ns
    refine ⟨?_, ?_⟩
    · show (PyData.canLay0 (.int n) && PyData.canLayAll0 (ns.map PyData.int)) = true
      rw [a]
      rfl
    · show max (PyData.depth (.int n)) (PyData.depthAll (ns.map PyData.int)) = 0
      rw [b]
      rfl
theorem shaped_ints (ns : List Int) : SeqAt.shaped (.list (ns.map PyData.int)) = true := by
  obtain ⟨a, b⟩ := lay_ints ns
  show (PyData.canLayAll0 (ns.map PyData.int) && decide (PyData.depthAll (ns.map PyData.int) + 1 ≤ 64)) = true
  rw [a, b]
  rfl
theorem eqv_nil (ds : List PyData) : PyData.eqv (.list ds) (.list []) = ds.isEmpty := by
  cases ds <;> rfl
theorem mem_eraseIdx {ns : List Int} {j : Nat} {k : Int} (nd : ns.Nodup) (h : ns[j]? = some k) (x : Int) : x ∈ ns.eraseIdx j ↔ x ≠ k ∧ x ∈ ns := by
  rw [List.mem_eraseIdx_iff_getElem?]
  constructor
  · rintro ⟨i, hi, e⟩
    refine ⟨fun z => ?_, List.mem_of_getElem? e⟩
    subst z
    exact hi (nd_ix nd e h)
  · rintro ⟨hx, hm⟩
    obtain ⟨i, e⟩ := List.getElem?_of_mem hm
    refine ⟨i, fun z => ?_, e⟩
    subst z
    rw [h] at e
    exact hx (Option.some.inj e).symm
theorem first_ix {ns : List Int} {j : Nat} {k : Int} (nd : ns.Nodup) (h : ns[j]? = some k) : ∀ m : Nat, m < j → ns[m]? ≠ some k := fun m hm e => by
  have := nd_ix nd e h
  omega

/-! ### the keys that are down, as a list -/
structure DownOk (ns : List Int) (es : List Ev) : Prop where
  nd : ns.Nodup
  mem : ∀ k, k ∈ ns ↔ heldB es k = true
theorem DownOk.nil : DownOk [] [] := ⟨List.nodup_nil, fun k => by simp [heldB]⟩
theorem DownOk.down {ns : List Int} {es : List Ev} {t k : Int} (h : DownOk ns es) (n : ¬ k ∈ ns) : DownOk (ns ++ [k]) (es ++ [⟨t, k, true⟩]) := by
  refine ⟨nd_snoc h.nd n, fun x => ?_⟩
  rw [heldB_snoc]
  unfold after
  rw [List.mem_append, List.mem_singleton, h.mem]
  by_cases z : x = k
  · subst z; simp
  · simp [z]
theorem DownOk.up {ns : List Int} {es : List Ev} {t k : Int} {j : Nat} (h : DownOk ns es) (e : ns[j]? = some k) : DownOk (ns.eraseIdx j) (es ++ [⟨t, k, false⟩]) := by
  refine ⟨h.nd.eraseIdx j, fun x => ?_⟩
  rw [heldB_snoc, mem_eraseIdx h.nd e, h.mem]
  unfold after
  by_cases z : x = k
  · subst z; simp
  · simp [z]
theorem DownOk.not {ns : List Int} {es : List Ev} {k : Int} (h : DownOk ns es) (n : ¬ k ∈ ns) : heldB es k = false := by
  cases e : heldB es k with
  | false => rfl
  | true => exact absurd ((h.mem k).mpr e) n
/-- other keys for the same -/
theorem heldB_map {f : Int → Int} (hf : ∀ a b, f a = f b → a = b) : ∀ (es : List Ev) (k : Int), heldB (es.map fun e => ⟨e.t, f e.k, e.d⟩) (f k) = heldB es k := by
  intro es k
  suffices h : ∀ (es : List Ev) (g g' : Int → Bool), (∀ k, g' (f k) = g k) → ∀ k, (es.map fun e => (⟨e.t, f e.k, e.d⟩ : Ev)).foldl after g' (f k) = es.foldl after g k from h es _ _ (fun _ => rfl) k
  intro es
  induction es with
  | nil => intro g g' h k; exact h k
  | cons e es ih =>
    intro g g' h k
    refine ih (after g e) (after g' ⟨e.t, f e.k, e.d⟩) (fun x => ?_) k
    unfold after
    by_cases z : x = e.k
    · subst z; simp
    · have z' : ¬ f x = f e.k := fun q => z (hf _ _ q)
      show (if f x = f e.k then e.d else g' (f x)) = if x = e.k then e.d else g x
      rw [if_neg z, if_neg z', h]
theorem Valid.rekey {f : Int → Int} (hf : ∀ a b, f a = f b → a = b) {es : List Ev} (h : Valid es) (h0 : ∀ e ∈ es, 0 ≤ f e.k) : Valid (es.map fun e => ⟨e.t, f e.k, e.d⟩) := fun i e x => by
  rw [List.getElem?_map] at x
  cases y : es[i]? with
  | none => rw [y] at x; cases x
  | some e' =>
    rw [y] at x
    have x : (⟨e'.t, f e'.k, e'.d⟩ : Ev) = e := Option.some.inj x
    subst x
    obtain ⟨a, b, c⟩ := h i e' y
    refine ⟨h0 e' (List.mem_of_getElem? y), ?_, fun j g hj z => ?_⟩
    · rw [← List.map_take]
      show heldB _ (f e'.k) = !e'.d
      rw [heldB_map hf]
      exact b
    · rw [List.getElem?_map] at z
      cases y2 : es[j]? with
      | none => rw [y2] at z; cases z
      | some g' =>
        rw [y2] at z
        have z : (⟨g'.t, f g'.k, g'.d⟩ : Ev) = g := Option.some.inj z
        subst z
        exact c j g' hj y2
/-- ups behind all for keys that are down -/
theorem Valid.ups {t : Int} : ∀ (ns : List Int) {es : List Ev}, Valid es → ns.Nodup → (∀ k ∈ ns, heldB es k = true ∧ 0 ≤ k) → (∀ e ∈ es, e.t ≤ t) → Valid (es ++ ns.map fun k => ⟨t, k, false⟩)
  | [], es, h, _, _, _ => by simpa using h
  | k :: ns, es, h, nd, hb, ht => by
    obtain ⟨n1, n2⟩ := List.nodup_cons.mp nd
    have h1 : Valid (es ++ [⟨t, k, false⟩]) := h.snoc (hb k List.mem_cons_self).2 (by have := (hb k List.mem_cons_self).1; simpa using this) ht
    have := Valid.ups ns h1 n2 (fun x hx => ⟨by
        rw [heldB_snoc]
        unfold after
        have z : x ≠ k := fun q => n1 (q ▸ hx)
        rw [if_neg z]
        exact (hb x (List.mem_cons_of_mem _ hx)).1, (hb x (List.mem_cons_of_mem _ hx)).2⟩) (fun e he => by
        rcases List.mem_append.mp he with he | he
        · exact ht e he
        · rw [List.mem_singleton.mp he]; exact Int.le_refl _)
    simpa using this
theorem heldB_ups {t : Int} : ∀ (ns : List Int) (es : List Ev) (k : Int), heldB (es ++ ns.map fun k => ⟨t, k, false⟩) k = (heldB es k && !decide (k ∈ ns))
  | [], es, k => by simp
  | n :: ns, es, k => by
    have e : es ++ (n :: ns).map (fun k => (⟨t, k, false⟩ : Ev)) = (es ++ [⟨t, n, false⟩]) ++ ns.map fun k => ⟨t, k, false⟩ := by simp
    rw [e, heldB_ups ns, heldB_snoc]
    unfold after
    by_cases z : k = n
    · subst z; simp
    · have : (k ∈ n :: ns) ↔ k ∈ ns := by simp [z]
      simp [z]
/-- who is down is a key of the record -/
theorem held_mem : ∀ {es : List Ev} {k : Int}, heldB es k = true → ∃ e ∈ es, e.k = k := by
  intro es k
  suffices h : ∀ (es : List Ev) (g : Int → Bool), es.foldl after g k = true → g k = true ∨ ∃ e ∈ es, e.k = k by
    intro z
    rcases h es _ z with q | q
    · cases q
    · exact q
  intro es
  induction es with
  | nil => intro g h; exact .inl h
  | cons e es ih =>
    intro g h
    rcases ih (after g e) h with q | ⟨e', he, hk⟩
    · unfold after at q
      by_cases z : k = e.k
      · exact .inr ⟨e, List.mem_cons_self, z.symm⟩
      · rw [if_neg z] at q
        exact .inl q
    · exact .inr ⟨e', List.mem_cons_of_mem _ he, hk⟩
theorem Valid.mono {es : List Ev} (h : Valid es) : ∀ (i j : Nat) (a b : Ev), i < j → es[i]? = some a → es[j]? = some b → a.t ≤ b.t := fun i j a b hij ha hb => (h j b hb).2.2 i a hij ha
theorem lay_st : ∀ es : List Ev, PyData.canLayAll0 (es.map stD) = true ∧ PyData.depthAll (es.map stD) ≤ 1
  | [] => ⟨rfl, Nat.zero_le _⟩
  | e :: es => by
    obtain ⟨a, b⟩ := lay_st es
    refine ⟨?_, ?_⟩
    · have h : PyData.canLay0 (.str (wayS e.d)) = true := by cases e.d <;> decide +kernel
      show ((true && (PyData.canLay0 (.str (wayS e.d)) && true)) && PyData.canLayAll0 (es.map stD)) = true
      rw [a, h]
      rfl
    · show max (PyData.depth (stD e)) (PyData.depthAll (es.map stD)) ≤ 1
      have : PyData.depth (stD e) = 1 := rfl
      omega
theorem shaped_ord (es : List Ev) : SeqAt.shaped (ordD es) = true := by
  obtain ⟨a, b⟩ := lay_st es
  show (PyData.canLayAll0 (es.map stD) && decide (PyData.depthAll (es.map stD) + 1 ≤ 64)) = true
  rw [a, decide_eq_true (by omega)]
  rfl
theorem shaped_nil : SeqAt.shaped (.list []) = true := rfl
end Rm

set_option Elab.async false
set_option linter.all false
set_option maxRecDepth 100000
set_option maxHeartbeats 4000000
namespace La
open PySem PySem.Spec PyProof.Rows L2 Gd Rm

/-! ### codes -/
def signs : Str := "abcdefghijklmnopqrstuvwxyz0123456789"
def CodeOk (c : Str) : Prop := 1 ≤ c.cps.size ∧ c.cps.size ≤ 8 ∧ ∀ x ∈ c.cps.toList, x ∈ signs.cps.toList
instance (c : Str) : Decidable (CodeOk c) := by unfold CodeOk; infer_instance
theorem signs_low : ∀ x ∈ signs.cps.toList, x < 16 ^ 8 := by decide +kernel
theorem fit_code {c : Str} (h : CodeOk c) : Fit 210 0 (.str c) := by
  refine ⟨rfl, Nat.le_refl _, ?_⟩
  have q := PySem.StrLaws.reprText_len c fun x hx => signs_low x (h.2.2 x hx)
  have e : c.length = c.cps.size := rfl
  have := h.2.1
  show (reprText c).length ≤ 210
  omega
theorem joinL_one : ∀ cs : List Nat, TL.joinL [] (cs.map fun c => [c]) = cs
  | [] => rfl
  | [c] => rfl
  | c :: d :: r => by
    have ih := joinL_one (d :: r)
    show [c] ++ ([] ++ TL.joinL [] ((d :: r).map fun c => [c])) = c :: d :: r
    rw [ih]
    rfl
theorem join_one (cs : List Nat) : (Txt.join (("" : String) : Str) (cs.map fun c => (⟨#[c]⟩ : Str))).cps.toList = cs := by
  have h : ∀ a ys, Txt.join a ys = Str.join a ys := fun a ys => TL.join_eq a ys
  rw [h]
  show TL.tl (Str.join _ _) = cs
  rw [TL.tl_join, List.map_map]
  exact joinL_one cs
theorem code_join {cs : List Nat} (h1 : 1 ≤ cs.length) (h8 : cs.length ≤ 8) (h : ∀ c ∈ cs, c ∈ signs.cps.toList) : CodeOk (Txt.join (("" : String) : Str) (cs.map fun c => (⟨#[c]⟩ : Str))) := by
  have e := join_one cs
  refine ⟨?_, ?_, fun x hx => ?_⟩
  · rw [← Array.length_toList, e]; exact h1
  · rw [← Array.length_toList, e]; exact h8
  · rw [e] at hx; exact h x hx

/-! ### actions -/
inductive Actn where
  | none
  | thr
  | code (c : Str)
  | lay (w : Str) (j : Int)
  | dualC (c d : Str) (t : Int) (r : Str)
  | dualL (c : Str) (j t : Int) (r : Str)
def layWords : List Str := ["layer", "lock", "once"]
def rules : List Str := ["time", "other", "within"]
def ActOk (n i : Int) : Actn → Prop
  | .none => True
  | .thr => 0 < i
  | .code c => CodeOk c
  | .lay w j => w ∈ layWords ∧ 1 ≤ j ∧ j ≤ n - 1
  | .dualC c d t r => CodeOk c ∧ CodeOk d ∧ (1 ≤ t ∧ t ≤ 1000000000) ∧ r ∈ rules
  | .dualL c j t r => CodeOk c ∧ (1 ≤ j ∧ j ≤ n - 1) ∧ (1 ≤ t ∧ t ≤ 1000000000) ∧ r ∈ rules
def ActV (H : Hp) : Actn → V → Prop
  | .none, v => v = .str "none"
  | .thr, v => v = .str "through"
  | .code c, v => ∃ a, v = .ref a ∧ H a = some (.tup [.str "code", .str c])
  | .lay w j, v => ∃ a, v = .ref a ∧ H a = some (.tup [.str w, .int j])
  | .dualC c d t r, v => ∃ a b, v = .ref a ∧ H a = some (.tup [.str "dual", .str c, .ref b, .int t, .str r]) ∧ H b = some (.tup [.str "code", .str d])
  | .dualL c j t r, v => ∃ a b, v = .ref a ∧ H a = some (.tup [.str "dual", .str c, .ref b, .int t, .str r]) ∧ H b = some (.tup [.str "layer", .int j])
def actD : Actn → PyData
  | .none => .str "none"
  | .thr => .str "through"
  | .code c => .tuple [.str "code", .str c]
  | .lay w j => .tuple [.str w, .int j]
  | .dualC c d t r => .tuple [.str "dual", .str c, .tuple [.str "code", .str d], .int t, .str r]
  | .dualL c j t r => .tuple [.str "dual", .str c, .tuple [.str "layer", .int j], .int t, .str r]
theorem fit_word {w : Str} (h : w ∈ layWords ∨ w ∈ rules) : Fit 210 0 (.str w) := by
  refine ⟨rfl, Nat.le_refl _, ?_⟩
  unfold layWords rules at h
  simp only [List.mem_cons, List.mem_nil_iff, or_false] at h
  rcases h with (rfl | rfl | rfl) | (rfl | rfl | rfl) <;> decide +kernel
theorem fit_const (w : Str) (h : (reprText w).length ≤ 210 := by decide +kernel) : Fit 210 0 (.str w) := ⟨rfl, Nat.le_refl _, h⟩
theorem fit_two' {a b : PyData} (ha : Fit 210 0 a) (hb : Fit 210 0 b) : Fit 500 1 (.tuple [a, b]) := by
  refine Fit.mono (fit_tup (L := 210) (n := 0) fun d hd => ?_) (by show 2 * 212 + 3 ≤ 500; decide) (Nat.le_refl _)
  simp only [List.mem_cons, List.mem_nil_iff, or_false] at hd
  rcases hd with rfl | rfl
  · exact ha
  · exact hb
theorem fit_five {a b c d e : PyData} (ha : Fit 210 0 a) (hb : Fit 210 0 b) (hc : Fit 500 1 c) (hd : Fit 210 0 d) (he : Fit 210 0 e) : Fit 3000 2 (.tuple [a, b, c, d, e]) := by
  refine Fit.mono (fit_tup (L := 500) (n := 1) fun x hx => ?_) (by show 5 * 502 + 3 ≤ 3000; decide) (Nat.le_refl _)
  simp only [List.mem_cons, List.mem_nil_iff, or_false] at hx
  rcases hx with rfl | rfl | rfl | rfl | rfl
  · exact ha.mono (by decide) (by decide)
  · exact hb.mono (by decide) (by decide)
  · exact hc
  · exact hd.mono (by decide) (by decide)
  · exact he.mono (by decide) (by decide)
theorem fit_low {i : Int} (h : 0 ≤ i) (h2 : i ≤ 1000000000) : Fit 210 0 (.int i) := fit_int (by
  have : (2 : Nat) ^ 200 > 1000000000 := by decide
  omega)
theorem fit_act {n i : Int} {x : Actn} (h : ActOk n i x) (hn : n ≤ 1000) : Fit 3000 2 (actD x) := by
  cases x with
  | none => exact (fit_const "none").mono (by decide) (by decide)
  | thr => exact (fit_const "through").mono (by decide) (by decide)
  | code c => exact (fit_two' (fit_const "code") (fit_code h)).mono (by decide) (by decide)
  | lay w j =>
    obtain ⟨a, b, c⟩ := h
    exact (fit_two' (fit_word (.inl a)) (fit_low (by omega) (by omega))).mono (by decide) (by decide)
  | dualC c d t r =>
    obtain ⟨a, b, ⟨c1, c2⟩, e⟩ := h
    exact fit_five (fit_const "dual") (fit_code a) (fit_two' (fit_const "code") (fit_code b)) (fit_low (by omega) c2) (fit_word (.inr e))
  | dualL c j t r =>
    obtain ⟨a, ⟨b1, b2⟩, ⟨c1, c2⟩, e⟩ := h
    exact fit_five (fit_const "dual") (fit_code a) (fit_two' (fit_const "layer") (fit_low (by omega) (by omega))) (fit_low (by omega) c2) (fit_word (.inr e))

/-! ### heaps in which tuples stay -/
def Tk (H H' : Hp) : Prop := ∀ b xs, H b = some (.tup xs) → H' b = some (.tup xs)
theorem Tk.of {H H' : Hp} (s : Same H H') : Tk H H' := fun b xs h => s _ _ h
theorem Tk.trans {H H1 H2 : Hp} (a : Tk H H1) (b : Tk H1 H2) : Tk H H2 := fun c xs h => b c xs (a c xs h)
theorem Tk.refl (H : Hp) : Tk H H := fun _ _ h => h
theorem tk_upd {H : Hp} {r : Addr} {ys zs : List V} (h : H r = some (.lst ys)) : Tk H (upd H r (.lst zs)) := fun b xs e => by
  rw [upd_ne (ne_of e h (by intro z; cases z))]
  exact e
theorem ActV.keep {H H' : Hp} (t : Tk H H') : ∀ {x : Actn} {v : V}, ActV H x v → ActV H' x v
  | .none, _, h => h
  | .thr, _, h => h
  | .code _, _, ⟨a, e, h⟩ => ⟨a, e, t _ _ h⟩
  | .lay _ _, _, ⟨a, e, h⟩ => ⟨a, e, t _ _ h⟩
  | .dualC _ _ _ _, _, ⟨a, b, e, h, g⟩ => ⟨a, b, e, t _ _ h, t _ _ g⟩
  | .dualL _ _ _ _, _, ⟨a, b, e, h, g⟩ => ⟨a, b, e, t _ _ h, t _ _ g⟩
theorem ActV.dp {K : PySem.W.Frag} {H : Hp} : ∀ {x : Actn} {v : V}, ActV H x v → Dp K H v (actD x)
  | .none, _, h => by cases h; exact .str _
  | .thr, _, h => by cases h; exact .str _
  | .code _, _, ⟨a, e, h⟩ => by cases e; exact .tup (SqT.of h) (.cons (.str _) (.cons (.str _) .nil))
  | .lay _ _, _, ⟨a, e, h⟩ => by cases e; exact .tup (SqT.of h) (.cons (.str _) (.cons (.int _) .nil))
  | .dualC _ _ _ _, _, ⟨a, b, e, h, g⟩ => by
    cases e
    exact .tup (SqT.of h) (.cons (.str _) (.cons (.str _) (.cons (.tup (SqT.of g) (.cons (.str _) (.cons (.str _) .nil))) (.cons (.int _) (.cons (.str _) .nil)))))
  | .dualL _ _ _ _, _, ⟨a, b, e, h, g⟩ => by
    cases e
    exact .tup (SqT.of h) (.cons (.str _) (.cons (.str _) (.cons (.tup (SqT.of g) (.cons (.str _) (.cons (.int _) .nil))) (.cons (.int _) (.cons (.str _) .nil)))))

/-! ### rows and layouts -/
def Acts (H : Hp) (vs : List V) (xs : List Actn) : Prop := vs.length = xs.length ∧ ∀ (i : Nat) (v : V) (x : Actn), vs[i]? = some v → xs[i]? = some x → ActV H x v
def Row (H : Hp) (r : Addr) (xs : List Actn) : Prop := ∃ vs, H r = some (.lst vs) ∧ Acts H vs xs
def Rows (H : Hp) (rs : List Addr) (L : List (List Actn)) : Prop := rs.length = L.length ∧ ∀ (i : Nat) (r : Addr) (row : List Actn), rs[i]? = some r → L[i]? = some row → Row H r row
def Lay (H : Hp) (c : Addr) (L : List (List Actn)) : Prop := ∃ rs : List Addr, H c = some (.lst (rs.map V.ref)) ∧ Rows H rs L
def rowD (xs : List Actn) : PyData := .list (xs.map actD)
def layD (L : List (List Actn)) : PyData := .list (L.map rowD)
structure LayOk (L : List (List Actn)) (m : Nat) : Prop where
  n1 : 1 ≤ L.length
  n6 : L.length ≤ 6
  m1 : 1 ≤ m
  m16 : m ≤ 16
  len : ∀ row ∈ L, row.length = m
  ok : ∀ (i : Nat) (row : List Actn), L[i]? = some row → ∀ x ∈ row, ActOk L.length i x
section
variable {H H' : Hp} {c r : Addr} {vs : List V} {xs : List Actn} {rs : List Addr} {L : List (List Actn)} {m : Nat}
theorem Acts.nil : Acts H [] [] := ⟨rfl, fun i v x h _ => by simp at h⟩
theorem Acts.keep (h : Acts H vs xs) (t : Tk H H') : Acts H' vs xs := ⟨h.1, fun i v x a b => (h.2 i v x a b).keep t⟩
theorem Acts.at_ (h : Acts H vs xs) {i : Nat} (hi : i < xs.length) : ∃ v, vs[i]? = some v ∧ ActV H xs[i] v := by
  have hl := h.1
  exact ⟨vs[i], List.getElem?_eq_getElem (by omega), h.2 i _ _ (List.getElem?_eq_getElem (by omega)) (List.getElem?_eq_getElem hi)⟩
theorem Acts.snoc {v : V} {x : Actn} (h : Acts H vs xs) (hv : ActV H x v) : Acts H (vs ++ [v]) (xs ++ [x]) := by
  refine ⟨by rw [List.length_append, List.length_append, h.1]; rfl, fun i u y a b => ?_⟩
  have hl := h.1
  rcases Nat.lt_or_ge i vs.length with q | q
  · rw [List.getElem?_append_left q] at a
    rw [List.getElem?_append_left (by omega)] at b
    exact h.2 i u y a b
  · have hi : i = vs.length := by
      have := (List.getElem?_eq_some_iff.mp a).1
      rw [List.length_append] at this
      simp at this
      omega
    subst hi
    rw [List.getElem?_append_right (Nat.le_refl _), Nat.sub_self] at a
    rw [List.getElem?_append_right (by omega), show vs.length - xs.length = 0 by omega] at b
    have e1 : v = u := Option.some.inj a
    have e2 : x = y := Option.some.inj b
    subst e1 e2
    exact hv
theorem Acts.set {v : V} {x : Actn} {j : Nat} (h : Acts H vs xs) (hv : ActV H x v) : Acts H (vs.set j v) (xs.set j x) := by
  refine ⟨by rw [List.length_set, List.length_set, h.1], fun i u y a b => ?_⟩
  have hl := h.1
  by_cases z : j = i
  · subst z
    have hj : j < vs.length := by
      have := (List.getElem?_eq_some_iff.mp a).1
      rwa [List.length_set] at this
    rw [List.getElem?_set_self hj] at a
    rw [List.getElem?_set_self (by omega)] at b
    have e1 : v = u := Option.some.inj a
    have e2 : x = y := Option.some.inj b
    subst e1 e2
    exact hv
  · rw [List.getElem?_set_ne z] at a b
    exact h.2 i u y a b
theorem Row.same (h : Row H r xs) (s : Same H H') : Row H' r xs := by
  obtain ⟨vs, a, b⟩ := h
  exact ⟨vs, s _ _ a, b.keep (Tk.of s)⟩
theorem Rows.same (h : Rows H rs L) (s : Same H H') : Rows H' rs L := ⟨h.1, fun i r row a b => (h.2 i r row a b).same s⟩
theorem Lay.same (h : Lay H c L) (s : Same H H') : Lay H' c L := by
  obtain ⟨rs, a, b⟩ := h
  exact ⟨rs, s _ _ a, b.same s⟩
theorem Rows.at_ (h : Rows H rs L) {i : Nat} (hi : i < L.length) : ∃ r, rs[i]? = some r ∧ Row H r L[i] := by
  have hl := h.1
  exact ⟨rs[i], List.getElem?_eq_getElem (by omega), h.2 i _ _ (List.getElem?_eq_getElem (by omega)) (List.getElem?_eq_getElem hi)⟩
theorem Acts.dp {K : PySem.W.Frag} : ∀ {vs : List V} {xs : List Actn}, Acts H vs xs → DpAll K H vs (xs.map actD)
  | [], [], _ => .nil
  | [], _ :: _, h => by have := h.1; simp at this
  | _ :: _, [], h => by have := h.1; simp at this
  | v :: vs, x :: xs, h => .cons ((h.2 0 v x rfl rfl).dp) (Acts.dp ⟨by have := h.1; simpa using this, fun i u y a b => h.2 (i + 1) u y (by simpa using a) (by simpa using b)⟩)
theorem Row.dp {K : PySem.W.Frag} (h : Row H r xs) : Dp K H (.ref r) (rowD xs) := by
  obtain ⟨vs, a, b⟩ := h
  exact .lst (SqL.of a) b.dp
theorem Rows.dp {K : PySem.W.Frag} : ∀ {rs : List Addr} {L : List (List Actn)}, Rows H rs L → DpAll K H (rs.map V.ref) (L.map rowD)
  | [], [], _ => .nil
  | [], _ :: _, h => by have := h.1; simp at this
  | _ :: _, [], h => by have := h.1; simp at this
  | r :: rs, row :: L, h => .cons ((h.2 0 r row rfl rfl).dp) (Rows.dp ⟨by have := h.1; simpa using this, fun i u y a b => h.2 (i + 1) u y (by simpa using a) (by simpa using b)⟩)
theorem Lay.dp {K : PySem.W.Frag} (h : Lay H c L) : Dp K H (.ref c) (layD L) := by
  obtain ⟨rs, a, b⟩ := h
  exact .lst (SqL.of a) b.dp
theorem LayOk.fit (h : LayOk L m) : Fit 300100 4 (layD L) := by
  refine Fit.mono (fit_list (L := 50000) (n := 3) fun d hd => ?_) (by rw [List.length_map]; have := h.n6; omega) (Nat.le_refl _)
  obtain ⟨row, hr, rfl⟩ := List.mem_map.mp hd
  obtain ⟨i, hi⟩ := List.getElem?_of_mem hr
  refine Fit.mono (fit_list (L := 3000) (n := 2) fun d hd => ?_) (by rw [List.length_map, h.len row hr]; have := h.m16; omega) (Nat.le_refl _)
  obtain ⟨x, hx, rfl⟩ := List.mem_map.mp hd
  exact fit_act (h.ok i row hi x hx) (by have := h.n6; omega)
theorem LayOk.set (h : LayOk L m) {i j : Nat} {x : Actn} {row : List Actn} (hi : L[i]? = some row) (hx : ActOk L.length i x) : LayOk (L.set i (row.set j x)) m := by
  have hil := (List.getElem?_eq_some_iff.mp hi).1
  refine ⟨by rw [List.length_set]; exact h.n1, by rw [List.length_set]; exact h.n6, h.m1, h.m16, fun r hr => ?_, fun k r hk y hy => ?_⟩
  · rcases List.mem_or_eq_of_mem_set hr with q | q
    · exact h.len r q
    · rw [q, List.length_set]; exact h.len row (List.mem_of_getElem? hi)
  · rw [List.length_set]
    by_cases z : i = k
    · subst z
      rw [List.getElem?_set_self hil] at hk
      have e : row.set j x = r := Option.some.inj hk
      subst e
      rcases List.mem_or_eq_of_mem_set hy with q | q
      · exact h.ok i row hi y q
      · rw [q]; exact hx
    · rw [List.getElem?_set_ne z] at hk
      exact h.ok k r hk y hy
end
theorem inv_str (k : Str) : ∀ ws : List Str, inV (.str k) (ws.map V.str) = decide (k ∈ ws)
  | [] => rfl
  | n :: ns => by
    show (eqV (.str n) (.str k) || inV (.str k) (ns.map V.str)) = _
    rw [inv_str k ns]
    have e : eqV (.str n) (.str k) = decide (n = k) := by
      by_cases z : n = k <;> simp [eqV, z]
    rw [e]
    by_cases z : n = k
    · subst z; simp
    · have z' : ¬ k = n := fun q => z q.symm
      simp [z, z']
end La

set_option Elab.async false
set_option linter.all false
set_option maxRecDepth 100000
set_option maxHeartbeats 4000000
namespace Tx
open PySem PySem.Spec PyProof.Rows L2 Gd Rm La

/-! ### signs and numbers -/
theorem empty_app (x : Str) : Str.empty ++ x = x := TL.ext_tl (by rw [TL.tl_append]; rfl)
def numS (i : Int) : Str := Str.ofString (toString i)
theorem numS_tl {i : Int} (h : 0 ≤ i) : TL.tl (numS i) = TL.numL i.toNat := by
  have e : i = ((i.toNat : Nat) : Int) := by omega
  unfold numS
  rw [e]
  exact TL.tl_num _
theorem numL_head : ∀ n : Nat, 1 ≤ n → ∃ c r, TL.numL n = c :: r ∧ c ≠ 48 := by
  intro n
  induction n using Nat.strongRecOn with
  | _ n ih =>
    intro h
    by_cases z : n < 10
    · exact ⟨48 + n, [], TL.numL_lt z, by omega⟩
    · obtain ⟨c, r, e, hc⟩ := ih (n / 10) (by omega) (by omega)
      refine ⟨c, r ++ [48 + n % 10], ?_, hc⟩
      rw [TL.numL_step (by omega), e]
      rfl
theorem numL_low {n c : Nat} (h : c ∈ TL.numL n) : 48 ≤ c ∧ c ≤ 57 := TL.numL_digits n c h
theorem numS_len {i : Int} (h0 : 0 ≤ i) (h : i ≤ 1000000000) : (numS i).length ≤ 10 := by
  rw [TL.len_tl, numS_tl h0]
  refine TL.numL_len (by decide) ?_
  have : (10 : Nat) ^ 10 = 10000000000 := by decide
  omega
theorem numS_int {i : Int} (h0 : 0 ≤ i) (h : i ≤ 1000000000) : intText? (numS i) = some i := by
  have e : i = ((i.toNat : Nat) : Int) := by omega
  have l := numS_len h0 h
  rw [TL.len_tl, numS_tl h0] at l
  have := TL.int_num (n := i.toNat) (by omega)
  unfold numS
  rw [e]
  exact this
def sgn (w : Str) : Str := if w = ("layer" : String) then "@" else if w = ("lock" : String) then "!" else "^"
def rsg (r : Str) : Str := if r = ("time" : String) then "t" else if r = ("other" : String) then "o" else "w"
theorem signs_cases : ∀ c ∈ signs.cps.toList, (48 ≤ c ∧ c ≤ 57) ∨ (97 ≤ c ∧ c ≤ 122) := by decide +kernel
theorem code_low {c : Str} (h : CodeOk c) : ∀ x ∈ TL.tl c, (48 ≤ x ∧ x ≤ 57) ∨ (97 ≤ x ∧ x ≤ 122) := fun x hx => signs_cases x (h.2.2 x hx)
theorem code_len {c : Str} (h : CodeOk c) : c.length ≤ 8 := h.2.1
theorem sgn_tl {w : Str} (h : w ∈ layWords) : ∃ c, TL.tl (sgn w) = [c] ∧ (c = 64 ∨ c = 33 ∨ c = 94) ∧ sgn w = ⟨#[c]⟩ := by
  unfold layWords at h
  simp only [List.mem_cons, List.mem_nil_iff, or_false] at h
  rcases h with rfl | rfl | rfl
  · exact ⟨64, by decide +kernel, .inl rfl, by decide +kernel⟩
  · exact ⟨33, by decide +kernel, .inr (.inl rfl), by decide +kernel⟩
  · exact ⟨94, by decide +kernel, .inr (.inr rfl), by decide +kernel⟩
theorem rsg_tl {r : Str} (h : r ∈ rules) : ∃ c, TL.tl (rsg r) = [c] ∧ 97 ≤ c ∧ c ≤ 122 ∧ rsg r = ⟨#[c]⟩ := by
  unfold rules at h
  simp only [List.mem_cons, List.mem_nil_iff, or_false] at h
  rcases h with rfl | rfl | rfl
  · exact ⟨116, by decide +kernel, by decide, by decide, by decide +kernel⟩
  · exact ⟨111, by decide +kernel, by decide, by decide, by decide +kernel⟩
  · exact ⟨119, by decide +kernel, by decide, by decide, by decide +kernel⟩
/-- the word of an action -/
def wtx : Actn → Str
  | .none => "."
  | .thr => "-"
  | .code c => c
  | .lay w j => sgn w ++ numS j
  | .dualC c d t r => c ++ "/" ++ d ++ ":" ++ numS t ++ rsg r
  | .dualL c j t r => c ++ "/" ++ (sgn "layer" ++ numS j) ++ ":" ++ numS t ++ rsg r
theorem tl_s1 : TL.tl (("/" : String) : Str) = [47] := by decide +kernel
theorem tl_s2 : TL.tl (((":" : String)) : Str) = [58] := by decide +kernel
theorem tl_s3 : TL.tl (((" " : String)) : Str) = [32] := by decide +kernel
theorem tl_s4 : TL.tl (((  "\n" : String)) : Str) = [10] := by decide +kernel
theorem lay_in : (("layer" : String) : Str) ∈ layWords := by decide +kernel
theorem low33 {n i : Int} {x : Actn} (h : ActOk n i x) : ∀ c ∈ TL.tl (wtx x), 33 ≤ c := by
  have code : ∀ {c : Str}, CodeOk c → ∀ x ∈ TL.tl c, 33 ≤ x := fun hc x hx => by
    rcases code_low hc x hx with z | z <;> omega
  have num : ∀ {j : Int}, 0 ≤ j → ∀ x ∈ TL.tl (numS j), 33 ≤ x := fun hj x hx => by
    rw [numS_tl hj] at hx
    have := numL_low hx
    omega
  cases x with
  | none => decide +kernel
  | thr => decide +kernel
  | code c => exact code h
  | lay w j =>
    obtain ⟨h1, h2, h3⟩ := h
    intro c hc
    obtain ⟨d, e, hd, _⟩ := sgn_tl h1
    rw [wtx, TL.tl_append, e] at hc
    rcases List.mem_append.mp hc with z | z
    · rw [List.mem_singleton.mp z]; omega
    · exact num (by omega) c z
  | dualC c d t r =>
    obtain ⟨h1, h2, ⟨h3, h4⟩, h5⟩ := h
    obtain ⟨k, e, k1, k2, _⟩ := rsg_tl h5
    intro x hx
    simp only [wtx, TL.tl_append, tl_s1, tl_s2, e, List.mem_append, List.mem_singleton] at hx
    rcases hx with ((((z | z) | z) | z) | z) | z
    · exact code h1 x z
    · omega
    · exact code h2 x z
    · omega
    · exact num (by omega) x z
    · omega
  | dualL c j t r =>
    obtain ⟨h1, ⟨h2, h2'⟩, ⟨h3, h4⟩, h5⟩ := h
    obtain ⟨k, e, k1, k2, _⟩ := rsg_tl h5
    obtain ⟨g, eg, hg, _⟩ := sgn_tl lay_in
    intro x hx
    simp only [wtx, TL.tl_append, tl_s1, tl_s2, e, eg, List.mem_append, List.mem_singleton] at hx
    rcases hx with ((((z | z) | z) | z) | z) | z
    · exact code h1 x z
    · omega
    · rcases z with z | z
      · omega
      · exact num (by omega) x z
    · omega
    · exact num (by omega) x z
    · omega
theorem len_app (x y : Str) : (x ++ y).length = x.length + y.length := by
  rw [TL.len_tl, TL.tl_append, List.length_append, ← TL.len_tl, ← TL.len_tl]
theorem sgn_len {w : Str} (h : w ∈ layWords) : (sgn w).length = 1 := by
  obtain ⟨c, e, _⟩ := sgn_tl h
  rw [TL.len_tl, e]; rfl
theorem rsg_len {r : Str} (h : r ∈ rules) : (rsg r).length = 1 := by
  obtain ⟨c, e, _⟩ := rsg_tl h
  rw [TL.len_tl, e]; rfl
theorem wtx_len {n i : Int} {x : Actn} (h : ActOk n i x) (hn : n ≤ 1000) : (wtx x).length ≤ 40 := by
  have l1 : ((("/" : String) : Str)).length = 1 := by rw [TL.len_tl, tl_s1]; rfl
  have l2 : (((":" : String) : Str)).length = 1 := by rw [TL.len_tl, tl_s2]; rfl
  cases x with
  | none => decide +kernel
  | thr => decide +kernel
  | code c => have := code_len h; show c.length ≤ 40; omega
  | lay w j =>
    obtain ⟨h1, h2, h3⟩ := h
    have := numS_len (i := j) (by omega) (by omega)
    rw [wtx, len_app, sgn_len h1]; omega
  | dualC c d t r =>
    obtain ⟨h1, h2, ⟨h3, h4⟩, h5⟩ := h
    have a1 := numS_len (i := t) (by omega) (by omega)
    have a2 := code_len h1
    have a3 := code_len h2
    simp only [wtx, len_app, l1, l2, rsg_len h5]; omega
  | dualL c j t r =>
    obtain ⟨h1, ⟨h2, h2'⟩, ⟨h3, h4⟩, h5⟩ := h
    have a1 := numS_len (i := t) (by omega) (by omega)
    have a2 := code_len h1
    have a3 := numS_len (i := j) (by omega) (by omega)
    simp only [wtx, len_app, l1, l2, rsg_len h5, sgn_len lay_in]; omega

/-! ### joined, split -/
theorem joinL_len (S : List Nat) : ∀ ps : List (List Nat), (TL.joinL S ps).length ≤ (ps.map (·.length)).sum + ps.length * S.length
  | [] => Nat.zero_le _
  | [p] => by simp [TL.joinL]
  | p :: q :: r => by
    have ih := joinL_len S (q :: r)
    simp only [TL.joinL, List.length_append, List.map_cons, List.sum_cons, List.length_cons, Nat.add_mul] at ih ⊢
    omega
theorem joinL_mem (S : List Nat) (c : Nat) : ∀ ps : List (List Nat), c ∈ TL.joinL S ps → c ∈ S ∨ ∃ p ∈ ps, c ∈ p
  | [], h => by cases h
  | [p], h => .inr ⟨p, List.mem_singleton.mpr rfl, h⟩
  | p :: q :: r, h => by
    simp only [TL.joinL, List.mem_append] at h
    rcases h with z | z | z
    · exact .inr ⟨p, List.mem_cons_self .., z⟩
    · exact .inl z
    · rcases joinL_mem S c (q :: r) z with y | ⟨p', a, b⟩
      · exact .inl y
      · exact .inr ⟨p', List.mem_cons_of_mem _ a, b⟩
theorem join_tl (y : Str) (ps : List Str) : TL.tl (Txt.join y ps) = TL.joinL (TL.tl y) (ps.map TL.tl) := by rw [TL.join_eq, TL.tl_join]
theorem sum_le {k : Nat} : ∀ {ps : List Str}, (∀ p ∈ ps, p.length ≤ k) → (ps.map (·.length)).sum ≤ ps.length * k
  | [], _ => Nat.zero_le _
  | p :: r, h => by
    have ih := sum_le (fun q hq => h q (List.mem_cons_of_mem _ hq))
    have := h p (List.mem_cons_self ..)
    simp only [List.map_cons, List.sum_cons, List.length_cons, Nat.add_mul]
    omega
theorem join_len {y : Str} {ps : List Str} {k : Nat} (h : ∀ p ∈ ps, p.length ≤ k) (hy : y.length = 1) : (Txt.join y ps).length ≤ ps.length * (k + 1) := by
  rw [TL.len_tl, join_tl]
  have a := joinL_len (TL.tl y) (ps.map TL.tl)
  have b := sum_le h
  rw [List.length_map, ← TL.len_tl, hy, List.map_map] at a
  have e : (ps.map ((fun x : List Nat => x.length) ∘ TL.tl)) = ps.map (·.length) := List.map_congr_left fun p _ => (TL.len_tl p).symm
  rw [e] at a
  rw [Nat.mul_add]
  omega
def rowT (xs : List Actn) : Str := Txt.join ((" " : String) : Str) (xs.map wtx)
def layT (L : List (List Actn)) : Str := Txt.join (("\n" : String) : Str) (L.map rowT)
theorem sp_len : ((" " : String) : Str).length = 1 := by rw [TL.len_tl, tl_s3]; rfl
theorem nl_len : (("\n" : String) : Str).length = 1 := by rw [TL.len_tl, tl_s4]; rfl
def RowsOk (n : Int) (xs : List Actn) : Prop := xs ≠ [] ∧ xs.length ≤ 16 ∧ ∀ x ∈ xs, ∃ i, ActOk n i x
theorem words_len {n : Int} {xs : List Actn} (h : RowsOk n xs) (hn : n ≤ 1000) : ∀ p ∈ xs.map wtx, p.length ≤ 40 := fun p hp => by
  obtain ⟨x, hx, rfl⟩ := List.mem_map.mp hp
  obtain ⟨i, hi⟩ := h.2.2 x hx
  exact wtx_len hi hn
theorem rowT_len {n : Int} {xs : List Actn} (h : RowsOk n xs) (hn : n ≤ 1000) : (rowT xs).length ≤ 700 := by
  have a := join_len (words_len h hn) sp_len
  have := h.2.1
  rw [List.length_map] at a
  unfold rowT
  omega
theorem split_row {n : Int} {xs : List Actn} (h : RowsOk n xs) : Txt.split (rowT xs) ((" " : String) : Str) = xs.map wtx :=
  TL.split_join tl_s3 (by decide +kernel) (fun z => h.1 (List.map_eq_nil_iff.mp z)) fun p hp hm => by
    obtain ⟨x, hx, rfl⟩ := List.mem_map.mp hp
    obtain ⟨i, hi⟩ := h.2.2 x hx
    have := low33 hi 32 hm
    omega
theorem split_lay {n : Int} {L : List (List Actn)} (hL : L ≠ []) (h : ∀ xs ∈ L, RowsOk n xs) : Txt.split (layT L) (("\n" : String) : Str) = L.map rowT :=
  TL.split_join tl_s4 (by decide +kernel) (fun z => hL (List.map_eq_nil_iff.mp z)) fun p hp hm => by
    obtain ⟨xs, hx, rfl⟩ := List.mem_map.mp hp
    unfold rowT at hm
    rw [join_tl, tl_s3] at hm
    rcases joinL_mem _ _ _ hm with z | ⟨q, hq, z⟩
    · exact absurd (List.mem_singleton.mp z) (by decide)
    · rw [List.map_map] at hq
      obtain ⟨x, hx', rfl⟩ := List.mem_map.mp hq
      obtain ⟨i, hi⟩ := (h xs hx).2.2 x hx'
      have := low33 hi 10 z
      omega
theorem layT_len {n : Int} {L : List (List Actn)} (h6 : L.length ≤ 6) (h : ∀ xs ∈ L, RowsOk n xs) (hn : n ≤ 1000) : (layT L).length ≤ 5000 := by
  have a := join_len (y := (("\n" : String) : Str)) (ps := L.map rowT) (k := 700) (fun p hp => by
    obtain ⟨xs, hx, rfl⟩ := List.mem_map.mp hp
    exact rowT_len (h xs hx) hn) nl_len
  rw [List.length_map] at a
  unfold layT
  omega

/-! ### pieces of texts -/
theorem cut_last (a : Str) (c : Nat) : cutS (a ++ ⟨#[c]⟩) none (some (-1)) = a := by
  refine TL.ext_tl ?_
  unfold cutS
  rw [TL.tl_mk]
  have hl : (a ++ (⟨#[c]⟩ : Str)).length = a.length + 1 := by rw [len_app]; rfl
  rw [hl]
  have e1 : HT.sIx (a.length + 1) 0 none = 0 := rfl
  have e2 : HT.sIx (a.length + 1) (a.length + 1) (some (-1)) = a.length := by
    show (if (-1 : Int) < 0 then ((-1 : Int) + ((a.length + 1 : Nat) : Int)).toNat else min ((-1 : Int).toNat) (a.length + 1)) = _
    rw [if_pos (by decide)]
    omega
  rw [e1, e2, List.drop_zero, Nat.sub_zero]
  show ((TL.tl (a ++ (⟨#[c]⟩ : Str))).take a.length) = _
  rw [TL.tl_append, TL.len_tl, List.take_left]
theorem cut_end (a : Str) (c : Nat) : cutS (a ++ ⟨#[c]⟩) (some (-1)) none = ⟨#[c]⟩ := by
  refine TL.ext_tl ?_
  unfold cutS
  rw [TL.tl_mk]
  have hl : (a ++ (⟨#[c]⟩ : Str)).length = a.length + 1 := by rw [len_app]; rfl
  rw [hl]
  have e1 : HT.sIx (a.length + 1) (a.length + 1) none = a.length + 1 := rfl
  have e2 : HT.sIx (a.length + 1) 0 (some (-1)) = a.length := by
    show (if (-1 : Int) < 0 then ((-1 : Int) + ((a.length + 1 : Nat) : Int)).toNat else min ((-1 : Int).toNat) (a.length + 1)) = _
    rw [if_pos (by decide)]
    omega
  rw [e1, e2]
  show (((TL.tl (a ++ (⟨#[c]⟩ : Str))).drop a.length).take _) = _
  rw [TL.tl_append, TL.len_tl, List.drop_left, Nat.add_sub_cancel_left]
  rfl
theorem cut_head (a : Str) (c : Nat) : cutS (⟨#[c]⟩ ++ a) none (some 1) = ⟨#[c]⟩ := by
  refine TL.ext_tl ?_
  unfold cutS
  rw [TL.tl_mk]
  have hl : ((⟨#[c]⟩ : Str) ++ a).length = a.length + 1 := by rw [len_app, Nat.add_comm]; rfl
  rw [hl]
  have e1 : HT.sIx (a.length + 1) 0 none = 0 := rfl
  have e2 : HT.sIx (a.length + 1) (a.length + 1) (some 1) = 1 := by
    show (if (1 : Int) < 0 then ((1 : Int) + ((a.length + 1 : Nat) : Int)).toNat else min ((1 : Int).toNat) (a.length + 1)) = _
    rw [if_neg (by decide)]
    show min 1 (a.length + 1) = 1
    omega
  rw [e1, e2, List.drop_zero]
  show ((TL.tl ((⟨#[c]⟩ : Str) ++ a)).take 1) = _
  rw [TL.tl_append]
  rfl
theorem cut_tail (a : Str) (c : Nat) : cutS (⟨#[c]⟩ ++ a) (some 1) none = a := by
  refine TL.ext_tl ?_
  unfold cutS
  rw [TL.tl_mk]
  have hl : ((⟨#[c]⟩ : Str) ++ a).length = a.length + 1 := by rw [len_app, Nat.add_comm]; rfl
  rw [hl]
  have e1 : HT.sIx (a.length + 1) (a.length + 1) none = a.length + 1 := rfl
  have e2 : HT.sIx (a.length + 1) 0 (some 1) = 1 := by
    show (if (1 : Int) < 0 then ((1 : Int) + ((a.length + 1 : Nat) : Int)).toNat else min ((1 : Int).toNat) (a.length + 1)) = _
    rw [if_neg (by decide)]
    show min 1 (a.length + 1) = 1
    omega
  rw [e1, e2]
  show (((TL.tl ((⟨#[c]⟩ : Str) ++ a)).drop 1).take _) = _
  rw [TL.tl_append]
  show ((TL.tl a).take (a.length + 1 - 1)) = _
  rw [Nat.add_sub_cancel, TL.len_tl, List.take_length]
/-- the text of a hold -/
def HoldT (h : Str) : Prop := 47 ∉ TL.tl h ∧ 58 ∉ TL.tl h ∧ h.length ≤ 20
theorem hold_code {d : Str} (h : CodeOk d) : HoldT d := by
  refine ⟨fun z => ?_, fun z => ?_, by have := code_len h; omega⟩
  · rcases code_low h _ z with q | q <;> omega
  · rcases code_low h _ z with q | q <;> omega
theorem hold_lay {j : Int} (h : 1 ≤ j) (h2 : j ≤ 1000000000) : HoldT (sgn "layer" ++ numS j) := by
  obtain ⟨g, eg, hg, _⟩ := sgn_tl lay_in
  refine ⟨fun z => ?_, fun z => ?_, ?_⟩
  · rw [TL.tl_append, eg] at z
    rcases List.mem_append.mp z with q | q
    · have := List.mem_singleton.mp q; omega
    · rw [numS_tl (by omega)] at q
      have := numL_low q; omega
  · rw [TL.tl_append, eg] at z
    rcases List.mem_append.mp z with q | q
    · have := List.mem_singleton.mp q; omega
    · rw [numS_tl (by omega)] at q
      have := numL_low q; omega
  · have := numS_len (i := j) (by omega) h2
    rw [len_app, sgn_len lay_in]; omega
theorem part1 {c h : Str} {t : Int} {r : Str} (hc : CodeOk c) : Txt.partition (c ++ "/" ++ h ++ ":" ++ numS t ++ rsg r) (("/" : String) : Str) = (c, (("/" : String) : Str), h ++ ":" ++ (numS t ++ rsg r)) := by
  have e : c ++ "/" ++ h ++ ":" ++ numS t ++ rsg r = c ++ (("/" : String) : Str) ++ (h ++ ":" ++ (numS t ++ rsg r)) := TL.ext_tl (by simp only [TL.tl_append, List.append_assoc])
  rw [e]
  exact TL.partition_app tl_s1 (hold_code hc).1
theorem part2 {h : Str} {t : Int} {r : Str} (hh : HoldT h) : Txt.partition (h ++ ":" ++ (numS t ++ rsg r)) ((":" : String) : Str) = (h, ((":" : String) : Str), numS t ++ rsg r) :=
  TL.partition_app tl_s2 hh.2.1
theorem no_slash_code {c : Str} (h : CodeOk c) : 47 ∉ TL.tl c := (hold_code h).1
theorem no_slash_lay {w : Str} {j : Int} (h : w ∈ layWords) (hj : 1 ≤ j) : 47 ∉ TL.tl (sgn w ++ numS j) := fun z => by
  obtain ⟨g, eg, hg, _⟩ := sgn_tl h
  rw [TL.tl_append, eg] at z
  rcases List.mem_append.mp z with q | q
  · have := List.mem_singleton.mp q; omega
  · rw [numS_tl (by omega)] at q
    have := numL_low q; omega
theorem slash_in {c h : Str} {t : Int} {r : Str} : 47 ∈ TL.tl (c ++ "/" ++ h ++ ":" ++ numS t ++ rsg r) := by
  simp only [TL.tl_append, tl_s1, List.mem_append, List.mem_singleton]
  exact .inl (.inl (.inl (.inl (.inr trivial))))

/-! ### rules: index of a sign, of a word -/
section
variable {X : Cx}
def rSIndex : V → List V → Hp → VK → Prop := fun x xs H Q => ∃ (a b : Str) (i : Nat) (rest : List Nat), x = .str a ∧ xs = [.str b] ∧ Builtin.Str.occurrences a b 0 a.length 1 = i :: rest ∧ Q (.int (i : Nat)) H
theorem mt_sindex : MtR X "str.index" rSIndex := by
  intro pins s σ H x xs v us Q I rx rs h
  obtain ⟨a, b, i, rest, rfl, rfl, ho, q⟩ := h
  obtain ⟨t, rfl⟩ := rx
  cases rs with
  | cons r1 rs =>
    cases rs
    obtain ⟨u, rfl⟩ := r1
    exact PySem.SC.index ho ⟨.int (i : Nat), H, I.tok _, ⟨_, rfl⟩, q⟩
def rTIndex (K : PySem.W.Frag) : V → List V → Hp → VK → Prop := fun x xs H Q => ∃ (a : Addr) (ys : List Str) (y : Str), x = .ref a ∧ xs = [.str y] ∧ SqT K H a (ys.map V.str) ∧ y ∈ ys ∧ Q (.int (ys.idxOf y : Nat)) H
theorem mt_tindex : MtR X "tuple.index" (rTIndex X.K) := by
  intro pins s σ H x xs v us Q I rx rs h
  obtain ⟨a, ys, y, rfl, rfl, hs, hy, q⟩ := h
  cases rx
  cases rs with
  | cons r1 rs =>
    cases rs
    obtain ⟨u, rfl⟩ := r1
    obtain ⟨its, r, ht, _⟩ := I.tuple hs
    exact PySem.SeqAt.tuple_index_strs ht (L2.strs_of_vals r) hy ⟨.int _, H, I.tok _, ⟨_, rfl⟩, q⟩
theorem call_strB : CallR X (.type "str") (fun xs H Q => (∃ a, xs = [.str a] ∧ Q (.str a) H) ∨ (∃ i : Int, xs = [.int i] ∧ i.natAbs.log2 < 1920 ∧ Q (.str (numS i)) H)) := by
  intro pins s σ H xs us Q I r h
  rcases h with h | ⟨i, e, a, q⟩
  · exact SkE.call_str_str pins s σ H xs us Q I r h
  · exact call_str_int pins s σ H xs us Q I r ⟨i, e, a, q⟩
end
end Tx
namespace Tx
open PySem PySem.Spec PyProof.Rows L2 Gd Rm La
def rJoin (K : PySem.W.Frag) : V → List V → Hp → VK → Prop := fun x xs H Q => ∃ a p, ∃ ys : List Str, x = .str a ∧ xs = [.ref p] ∧ (SqL K H p (ys.map V.str) ∨ SqT K H p (ys.map V.str)) ∧
    (ys.map (·.length)).sum + ys.length * a.length ≤ 16777216 ∧ Q (.str (Txt.join a ys)) H
end Tx

set_option Elab.async false
set_option linter.all false
set_option maxRecDepth 100000
set_option maxHeartbeats 4000000
/-! repr of any data; bounds in the heap -/
namespace Gd
open PySem PySem.Spec PyProof.Rows L2
def rRepA (K : PySem.W.Frag) : List V → Hp → VK → Prop := fun xs H Q => ∃ (v : V) (d : PyData), xs = [v] ∧ Dp K H v d ∧
  d.showable = true ∧ d.depth ≤ 50 ∧ d.shown.length ≤ sizeLine ∧ Q (.str d.shown) H
theorem call_repA {X : Cx} {k : Nat} (hg : X.A.guards = some []) (hr : Room k X.A) : CallR X (.builtin "repr") (rRepA X.K) := by
  intro pins s σ H xs us Q I r h
  obtain ⟨v, d, rfl, hd, hs, hdp, hz, q⟩ := h
  cases d with
  | list ds =>
    cases hd with
    | lst h1 h2 => exact call_rep hg hr pins s σ H _ us Q I r ⟨_, _, rfl, .lst h1 h2, hs, hdp, hz, q⟩
  | tuple ds =>
    cases hd with
    | tup h1 h2 => exact call_rep hg hr pins s σ H _ us Q I r ⟨_, _, rfl, .tup h1 h2, hs, hdp, hz, q⟩
  | dict ds => cases hd
  | none =>
    cases hd
    obtain ⟨u, rfl, ru⟩ := vals1 r
    cases ru
    exact PySem.P.repr_of_none ⟨.str _, H, I.tok _, ⟨_, rfl⟩, q⟩
  | bool b =>
    cases hd
    obtain ⟨u, rfl, ru⟩ := vals1 r
    cases ru
    exact PySem.P.repr_of_bool ⟨.str _, H, I.tok _, ⟨_, rfl⟩, q⟩
  | int i =>
    cases hd
    obtain ⟨u, rfl, ⟨t, rfl⟩⟩ := vals1 r
    exact PySem.P.repr_of_int (of_decide_eq_true hs) ⟨.str _, H, I.tok _, ⟨_, rfl⟩, q⟩
  | str z =>
    cases hd
    obtain ⟨u, rfl, ⟨t, rfl⟩⟩ := vals1 r
    exact PySem.P.repr_of_str ⟨.str _, H, I.tok _, ⟨_, rfl⟩, q⟩ hz
end Gd

set_option Elab.async false
set_option linter.all false
set_option maxRecDepth 100000
set_option maxHeartbeats 4000000
/-! combos, and the pieces of a record -/
namespace Cb
open PySem PySem.Spec PyProof.Rows L2 Gd Rm La
structure Cmb where
  ks : List Int
  t : Int
  c : Str
structure CmbOk (many : Int) (cb : Cmb) : Prop where
  asc : cb.ks.Pairwise (· < ·)
  len : cb.ks.length = 2 ∨ cb.ks.length = 3
  key : ∀ k ∈ cb.ks, 0 ≤ k ∧ k < many
  time : 1 ≤ cb.t ∧ cb.t ≤ 10 ^ 9
  code : CodeOk cb.c
def CmbV (H : Hp) (cb : Cmb) (v : V) : Prop := ∃ a k, v = .ref a ∧ H a = some (.tup [.ref k, .int cb.t, .str cb.c]) ∧ H k = some (.tup (cb.ks.map V.int))
theorem CmbV.tk {H H' : Hp} {cb : Cmb} {v : V} (h : CmbV H cb v) (t : Tk H H') : CmbV H' cb v := by
  obtain ⟨a, k, e, h1, h2⟩ := h
  exact ⟨a, k, e, t _ _ h1, t _ _ h2⟩
/-- a list of combos -/
def Cmbs (H : Hp) (c : Addr) (cbs : List Cmb) : Prop := ∃ vs : List V, H c = some (.lst vs) ∧ vs.length = cbs.length ∧ ∀ (i : Nat) (v : V) (cb : Cmb), vs[i]? = some v → cbs[i]? = some cb → CmbV H cb v
theorem Cmbs.same {H H' : Hp} {c : Addr} {cbs : List Cmb} (h : Cmbs H c cbs) (s : Same H H') : Cmbs H' c cbs := by
  obtain ⟨vs, a, b, d⟩ := h
  exact ⟨vs, s _ _ a, b, fun i v cb x y => (d i v cb x y).tk (Tk.of s)⟩
theorem Cmbs.go {H H' : Hp} {c : Addr} {cbs : List Cmb} (h : Cmbs H c cbs) (t : Tk H H') (e : ∀ vs, H c = some (.lst vs) → H' c = some (.lst vs)) : Cmbs H' c cbs := by
  obtain ⟨vs, a, b, d⟩ := h
  exact ⟨vs, e _ a, b, fun i v cb x y => (d i v cb x y).tk t⟩
theorem Cmbs.at_ {H : Hp} {cbs : List Cmb} {vs : List V} (h : vs.length = cbs.length ∧ ∀ (i : Nat) (v : V) (cb : Cmb), vs[i]? = some v → cbs[i]? = some cb → CmbV H cb v) {i : Nat} (hi : i < cbs.length) :
    ∃ a k, vs[i]? = some (.ref a) ∧ H a = some (.tup [.ref k, .int cbs[i].t, .str cbs[i].c]) ∧ H k = some (.tup (cbs[i].ks.map V.int)) := by
  obtain ⟨hl, hv⟩ := h
  have hi' : i < vs.length := by omega
  obtain ⟨a, k, e, h1, h2⟩ := hv i vs[i] cbs[i] (List.getElem?_eq_getElem hi') (List.getElem?_eq_getElem hi)
  exact ⟨a, k, by rw [List.getElem?_eq_getElem hi', e], h1, h2⟩
/-- combos for so many keys -/
structure CbsOk (many : Int) (cbs : List Cmb) : Prop where
  all : ∀ cb ∈ cbs, CmbOk many cb
  few : cbs.length ≤ 6
  apart : (cbs.map Cmb.ks).Nodup
theorem CbsOk.nil (many : Int) : CbsOk many [] := ⟨fun cb h => by simp at h, by decide, List.nodup_nil⟩
def ksD (ks : List Int) : PyData := .tuple (ks.map PyData.int)
def cmbD (cb : Cmb) : PyData := .tuple [ksD cb.ks, .int cb.t, .str cb.c]
def cmbsD (cbs : List Cmb) : PyData := .list (cbs.map cmbD)
theorem CmbV.dp {K : PySem.W.Frag} {H : Hp} {cb : Cmb} {v : V} (h : CmbV H cb v) : Dp K H v (cmbD cb) := by
  obtain ⟨a, k, rfl, h1, h2⟩ := h
  exact .tup (SqT.of h1) (.cons (.tup (SqT.of h2) (dpInts _)) (.cons (.int _) (.cons (.str _) .nil)))
theorem dpAll_idx {α : Type} {K : PySem.W.Frag} {H : Hp} {g : α → PyData} {R : α → V → Prop} (hg : ∀ x v, R x v → Dp K H v (g x)) : ∀ (vs : List V) (xs : List α), vs.length = xs.length → (∀ (i : Nat) (v : V) (x : α), vs[i]? = some v → xs[i]? = some x → R x v) → DpAll K H vs (xs.map g)
  | [], [], _, _ => .nil
  | [], _ :: _, h, _ => by simp at h
  | _ :: _, [], h, _ => by simp at h
  | v :: vs, x :: xs, h, f => .cons (hg x v (f 0 v x rfl rfl)) (dpAll_idx hg vs xs (by simpa using h) fun i v x a b => f (i + 1) v x (by simpa using a) (by simpa using b))
theorem Cmbs.dp {K : PySem.W.Frag} {H : Hp} {c : Addr} {cbs : List Cmb} (h : Cmbs H c cbs) : Dp K H (.ref c) (cmbsD cbs) := by
  obtain ⟨vs, a, b, d⟩ := h
  exact .lst (SqL.of a) (dpAll_idx (R := CmbV H) (fun x v h => h.dp) vs cbs b d)
theorem fit_cmb {many : Int} {cb : Cmb} (hm : many ≤ 1000) (h : CmbOk many cb) : Fit 4000 2 (cmbD cb) := by
  have hk : Fit 1000 1 (ksD cb.ks) := by
    refine Fit.mono (fit_tup (L := 210) (n := 0) fun d hd => ?_) (by rw [List.length_map]; have := h.len; omega) (Nat.le_refl _)
    obtain ⟨v, hv, rfl⟩ := List.mem_map.mp hd
    have := h.key v hv
    exact fit_int (by omega)
  have ht := h.time
  refine Fit.mono (fit_tup (L := 1000) (n := 1) fun d hd => ?_) (by show 3 * 1002 + 3 ≤ 4000; decide) (Nat.le_refl _)
  simp only [List.mem_cons, List.mem_nil_iff, or_false] at hd
  rcases hd with rfl | rfl | rfl
  · exact hk
  · exact Fit.mono (fit_int (by omega)) (by decide) (by decide)
  · exact Fit.mono (fit_code h.code) (by decide) (by decide)
theorem fit_cmbs {many : Int} {cbs : List Cmb} (hm : many ≤ 1000) (h : CbsOk many cbs) : Fit 40000 3 (cmbsD cbs) := by
  refine Fit.mono (fit_list (L := 4000) (n := 2) fun d hd => ?_) (by rw [List.length_map]; have := h.few; omega) (Nat.le_refl _)
  obtain ⟨cb, hc, rfl⟩ := List.mem_map.mp hd
  exact fit_cmb hm (h.all cb hc)
theorem lay_cmb (cb : Cmb) (hc : CodeOk cb.c) : PyData.canLay0 (cmbD cb) = true ∧ PyData.depth (cmbD cb) = 2 := by
  obtain ⟨a, b⟩ := lay_ints cb.ks
  refine ⟨?_, ?_⟩
  · show (PyData.canLayAll0 (cb.ks.map PyData.int) && (PyData.canLay0 (.int cb.t) && (PyData.canLay0 (.str cb.c) && true))) = true
    have hs : PyData.strOk cb.c = true := by
      unfold PyData.strOk
      rw [← Array.all_toList, List.all_eq_true]
      have all : ∀ y ∈ signs.cps.toList, decide (y < 0x110000) = true := by decide +kernel
      exact fun y hy => all y (hc.2.2 y hy)
    rw [a]; simp [PyData.canLay0, hs]
  · show max (PyData.depthAll (cb.ks.map PyData.int) + 1) (max 0 (max 0 0)) + 1 = 2
    rw [b]; rfl
theorem lay_cmbs : ∀ cbs : List Cmb, (∀ cb ∈ cbs, CodeOk cb.c) → PyData.canLayAll0 (cbs.map cmbD) = true ∧ PyData.depthAll (cbs.map cmbD) ≤ 2
  | [], _ => ⟨rfl, by decide⟩
  | cb :: cbs, h => by
    obtain ⟨a, b⟩ := lay_cmbs cbs fun c hc => h c (List.mem_cons_of_mem _ hc)
    obtain ⟨x, y⟩ := lay_cmb cb (h cb List.mem_cons_self)
    refine ⟨?_, ?_⟩
    · show (PyData.canLay0 (cmbD cb) && PyData.canLayAll0 (cbs.map cmbD)) = true
      rw [x, a]; rfl
    · show max (PyData.depth (cmbD cb)) (PyData.depthAll (cbs.map cmbD)) ≤ 2
      omega
theorem shaped_cmbs (cbs : List Cmb) (h : ∀ cb ∈ cbs, CodeOk cb.c) : SeqAt.shaped (cmbsD cbs) = true := by
  obtain ⟨a, b⟩ := lay_cmbs cbs h
  show (PyData.canLayAll0 (cbs.map cmbD) && decide (PyData.depthAll (cbs.map cmbD) + 1 ≤ 64)) = true
  rw [a, decide_eq_true (by omega)]; rfl
theorem shaped_ks (ks : List Int) : SeqAt.shaped (ksD ks) = true := by
  obtain ⟨a, b⟩ := lay_ints ks
  show (PyData.canLayAll0 (ks.map PyData.int) && decide (PyData.depthAll (ks.map PyData.int) + 1 ≤ 64)) = true
  rw [a, b]; rfl
theorem lay_kss : ∀ kss : List (List Int), PyData.canLayAll0 (kss.map ksD) = true ∧ PyData.depthAll (kss.map ksD) ≤ 1
  | [] => ⟨rfl, by decide⟩
  | ks :: kss => by
    obtain ⟨a, b⟩ := lay_kss kss
    obtain ⟨x, y⟩ := lay_ints ks
    refine ⟨?_, ?_⟩
    · show (PyData.canLayAll0 (ks.map PyData.int) && PyData.canLayAll0 (kss.map ksD)) = true
      rw [x, a]; rfl
    · show max (PyData.depthAll (ks.map PyData.int) + 1) (PyData.depthAll (kss.map ksD)) ≤ 1
      omega
theorem shaped_kss (kss : List (List Int)) : SeqAt.shaped (.list (kss.map ksD)) = true := by
  obtain ⟨a, b⟩ := lay_kss kss
  show (PyData.canLayAll0 (kss.map ksD) && decide (PyData.depthAll (kss.map ksD) + 1 ≤ 64)) = true
  rw [a, decide_eq_true (by omega)]; rfl
theorem eqv_intsA : ∀ xs ys : List Int, PyData.eqvAll (xs.map PyData.int) (ys.map PyData.int) = decide (xs = ys)
  | [], [] => rfl
  | [], _ :: _ => rfl
  | _ :: _, [] => rfl
  | o :: xs, p :: ys => by
    show (PyData.eqv (.int o) (.int p) && PyData.eqvAll (xs.map PyData.int) (ys.map PyData.int)) = _
    have e : PyData.eqv (.int o) (.int p) = decide (o = p) := by
      by_cases z : o = p
      · subst z; simp [PyData.eqv]
      · simp [PyData.eqv, z]
    rw [e, eqv_intsA xs ys]
    by_cases a : o = p <;> by_cases b : xs = ys <;> simp [a, b]
theorem eqv_intL (xs ys : List Int) : PyData.eqv (.list (xs.map PyData.int)) (.list (ys.map PyData.int)) = decide (xs = ys) := by rw [← eqv_intsA]; rfl
theorem eqv_ks (xs ys : List Int) : PyData.eqv (ksD xs) (ksD ys) = decide (xs = ys) := by rw [← eqv_intsA]; rfl
theorem any_ks (ks : List Int) (kss : List (List Int)) : ((kss.map ksD).any fun z => PyData.eqv z (ksD ks)) = decide (ks ∈ kss) := by
  induction kss with
  | nil => rfl
  | cons x kss ih =>
    rw [List.map_cons, List.any_cons, ih, eqv_ks]
    by_cases a : x = ks
    · subst a; simp
    · have a' : ¬ ks = x := fun e => a e.symm
      by_cases b : ks ∈ kss <;> simp [a, a', b]
/-! ### pieces -/
def Match (cb : Cmb) (s : Nat) (ds : List Ev) : Prop := cb.ks.length = s ∧ cb.ks.Perm ((ds.take s).map Ev.k) ∧ ∃ a b, ds[0]? = some a ∧ ds[s - 1]? = some b ∧ b.t < a.t + cb.t
open Classical in
noncomputable def fp (cbs : List Cmb) (ds : List Ev) : Nat := if ∃ cb ∈ cbs, Match cb 3 ds then 3 else if ∃ cb ∈ cbs, Match cb 2 ds then 2 else 1
theorem match_le {cb : Cmb} {s : Nat} {ds : List Ev} (h : Match cb s ds) : s ≤ ds.length := by
  have a := h.2.1.length_eq
  rw [h.1, List.length_map, List.length_take] at a
  omega
theorem fp_pos (cbs : List Cmb) (ds : List Ev) : 1 ≤ fp cbs ds := by
  unfold fp
  split
  · decide
  · split <;> decide
theorem fp_le (cbs : List Cmb) {ds : List Ev} (h : ds ≠ []) : fp cbs ds ≤ ds.length := by
  unfold fp
  split
  · rename_i q
    obtain ⟨cb, _, m⟩ := q
    exact match_le m
  · split
    · rename_i q
      obtain ⟨cb, _, m⟩ := q
      exact match_le m
    · cases ds with
      | nil => exact absurd rfl h
      | cons _ _ => rw [List.length_cons]; omega
theorem fp_three {cbs : List Cmb} {ds : List Ev} {cb : Cmb} (h : cb ∈ cbs) (m : Match cb 3 ds) : fp cbs ds = 3 := by unfold fp; rw [if_pos ⟨cb, h, m⟩]
theorem fp_two {cbs : List Cmb} {ds : List Ev} {cb : Cmb} (n : ∀ cb ∈ cbs, ¬ Match cb 3 ds) (h : cb ∈ cbs) (m : Match cb 2 ds) : fp cbs ds = 2 := by
  unfold fp
  rw [if_neg (fun ⟨c, hc, q⟩ => n c hc q), if_pos ⟨cb, h, m⟩]
theorem fp_one {cbs : List Cmb} {ds : List Ev} (n : ∀ cb ∈ cbs, ¬ Match cb 3 ds) (n2 : ∀ cb ∈ cbs, ¬ Match cb 2 ds) : fp cbs ds = 1 := by
  unfold fp
  rw [if_neg (fun ⟨c, hc, q⟩ => n c hc q), if_neg (fun ⟨c, hc, q⟩ => n2 c hc q)]
/-- the numbers from a on, below b -/
def seg (a b : Nat) : List Int := (List.range' a (b - a)).map fun k : Nat => (k : Int)
/-- the events from s on, below e -/
def prt (es : List Ev) (s e : Nat) : List Ev := (es.drop s).take (e - s)
inductive Cut (es : List Ev) (cbs : List Cmb) (e : Nat) : Nat → List (List Int) → Prop
  | nil : Cut es cbs e e []
  | cons {s : Nat} {r : List (List Int)} : s < e → Cut es cbs e (s + fp cbs (prt es s e)) r → Cut es cbs e s (seg s (s + fp cbs (prt es s e)) :: r)
/-- from s on, below e, all are downs -/
def Downs (es : List Ev) (s e : Nat) : Prop := ∀ i, s ≤ i → i < e → ∃ ev, es[i]? = some ev ∧ ev.d = true
def Stops (es : List Ev) (e : Nat) : Prop := e = es.length ∨ ∃ ev, es[e]? = some ev ∧ ev.d = false
inductive Due (es : List Ev) (cbs : List Cmb) : Nat → List (List Int) → Prop
  | fin {s : Nat} : es.length ≤ s → Due es cbs s []
  | up {s : Nat} {ev : Ev} {r : List (List Int)} : es[s]? = some ev → ev.d = false → Due es cbs (s + 1) r → Due es cbs s r
  | down {s e : Nat} {r : List (List Int)} : s < e → Downs es s e → Stops es e → Due es cbs (s + fp cbs (prt es s e)) r → Due es cbs s (seg s (s + fp cbs (prt es s e)) :: r)
theorem Downs.le {es : List Ev} {s e : Nat} (h : Downs es s e) (hs : s < e) : e ≤ es.length := by
  obtain ⟨ev, q, _⟩ := h (e - 1) (by omega) (by omega)
  have := (List.getElem?_eq_some_iff.mp q).1
  omega
theorem prt_len {es : List Ev} {s e : Nat} (h : e ≤ es.length) : (prt es s e).length = e - s := by
  unfold prt
  rw [List.length_take, List.length_drop]
  omega
theorem stop_uniq {es : List Ev} {s e e' : Nat} (hs : s < e) (hs' : s < e') (d : Downs es s e) (d' : Downs es s e') (t : Stops es e) (t' : Stops es e') : e = e' := by
  have l := d.le hs
  have l' := d'.le hs'
  rcases Nat.lt_trichotomy e e' with q | q | q
  · rcases t with t | ⟨ev, g, f⟩
    · omega
    · obtain ⟨ev', g', f'⟩ := d' e (by omega) q
      rw [g] at g'
      cases g'
      rw [f] at f'; cases f'
  · exact q
  · rcases t' with t | ⟨ev, g, f⟩
    · omega
    · obtain ⟨ev', g', f'⟩ := d e' (by omega) q
      rw [g] at g'
      cases g'
      rw [f] at f'; cases f'
theorem Due.uniq {es : List Ev} {cbs : List Cmb} {s : Nat} {r : List (List Int)} (h : Due es cbs s r) : ∀ {r' : List (List Int)}, Due es cbs s r' → r = r' := by
  induction h with
  | fin hl =>
    intro r' h'
    cases h' with
    | fin _ => rfl
    | up g _ _ => have := (List.getElem?_eq_some_iff.mp g).1; omega
    | down hs d _ _ => have := d.le hs; omega
  | up g f _ ih =>
    intro r' h'
    cases h' with
    | fin hl => have := (List.getElem?_eq_some_iff.mp g).1; omega
    | up g' f' h' => exact ih h'
    | down hs d _ _ =>
      obtain ⟨ev', g', f'⟩ := d _ (Nat.le_refl _) hs
      rw [g] at g'
      cases g'
      rw [f] at f'; cases f'
  | down hs d t _ ih =>
    intro r' h'
    cases h' with
    | fin hl => have := d.le hs; omega
    | up g f h' =>
      obtain ⟨ev', g', f'⟩ := d _ (Nat.le_refl _) hs
      rw [g] at g'
      cases g'
      rw [f] at f'; cases f'
    | down hs' d' t' h' =>
      have e := stop_uniq hs hs' d d' t t'
      subst e
      rw [ih h']
theorem cut_due {es : List Ev} {cbs : List Cmb} {e : Nat} (t : Stops es e) {r : List (List Int)} (hr : Due es cbs e r) {s : Nat} {r1 : List (List Int)} (h : Cut es cbs e s r1) : Downs es s e → s ≤ e → Due es cbs s (r1 ++ r) := by
  induction h with
  | nil => intro _ _; exact hr
  | @cons s r1 hs _ ih =>
    intro d _
    have hl := prt_len (s := s) (d.le hs)
    have ne : prt es s e ≠ [] := fun z => by rw [z] at hl; simp at hl; omega
    have f := fp_le cbs ne
    rw [hl] at f
    exact Due.down hs d t (ih (fun i a b => d i (by omega) b) (by omega))
end Cb

set_option Elab.async false
set_option linter.all false
set_option maxRecDepth 100000
set_option maxHeartbeats 4000000
/-! Own classes in the layer HG: methods, and objects that are made. -/
namespace Gd
open PySem PySem.Spec PyProof.Rows L2
/-- a method that may be called by its name on an object of the class at C -/
structure ClM (P : Program) (w : World) (K : PySem.W.Frag) (mg : Str → Option Value) (base : Heap) (k : Nat) (C : Addr) (m : Str) (sp : Sp) : Prop where
  ex : ∃ (f : Addr) (fd : FuncData) (ps : List Str), FnG P w K mg base k f fd ps sp ∧ Meth K C m f ∧ Binds K fd ps []
structure AtM (K : PySem.W.Frag) (C : Addr) (m q : Str) (st : Stmt) (ps : List Str) : Prop where
  ex : ∃ (f : Addr) (fd : FuncData), Fun K m q st f fd ∧ Meth K C m f ∧ Binds K fd ps []
/-- a class of which an object may be made -/
structure ClI (P : Program) (w : World) (K : PySem.W.Frag) (mg : Str → Option Value) (base : Heap) (k : Nat) (C : Addr) (x : Str) (sp : Sp) : Prop where
  ex : ∃ (f : Addr) (fd : FuncData) (ps : List Str), FnG P w K mg base k f fd ps sp ∧ Mk K C f ∧ mg x = some (.ref C) ∧ Binds K fd ps []
structure AtI (K : PySem.W.Frag) (mg : Str → Option Value) (C : Addr) (x q : Str) (st : Stmt) (ps : List Str) : Prop where
  ex : ∃ (f : Addr) (fd : FuncData), Fun K "__init__" q st f fd ∧ Mk K C f ∧ mg x = some (.ref C) ∧ Binds K fd ps []
section
variable {P : Program} {w : World} {K : PySem.W.Frag} {mg : Str → Option Value} {base : Heap}
theorem clMG {C : Addr} {m q : Str} {st : Stmt} {N ps : List Str} {k : Nat} {sp : Sp} (a : AtM K C m q st ps) (S : FnScope N ps (defScope st))
    (len : ∀ vs H Q E, sp vs H Q E → vs.length = ps.length)
    (hb : ∀ (f : Addr) (cdv : Value) (A : Around) (outer : List Env) (s : Shared) (H : Hp) (vs : List V) (Q : VK),
      A.guards = some [] → Room k (A.deeper (envOfC q (defScope st) s.heap.objs.size f cdv)) → sp vs H Q E0 →
      ∃ t, PSs (cxOf CX0 P w K mg base N q (defScope st) f cdv A outer s H E0).nox (defBody st) t ∧
        t { nx := fun _ H' => Q .non H', rt := Q } (start N vs) H) : ClM P w K mg base (k + 1) C m sp := by
  obtain ⟨f, fd, F, hm, b⟩ := a.ex
  exact ⟨f, fd, ps, fnG F S len (hb f), hm, b⟩
theorem clIG {C : Addr} {x q : Str} {st : Stmt} {N ps : List Str} {k : Nat} {sp : Sp} (a : AtI K mg C x q st ps) (S : FnScope N ps (defScope st))
    (len : ∀ vs H Q E, sp vs H Q E → vs.length = ps.length)
    (hb : ∀ (f : Addr) (cdv : Value) (A : Around) (outer : List Env) (s : Shared) (H : Hp) (vs : List V) (Q : VK),
      A.guards = some [] → Room k (A.deeper (envOfC q (defScope st) s.heap.objs.size f cdv)) → sp vs H Q E0 →
      ∃ t, PSs (cxOf CX0 P w K mg base N q (defScope st) f cdv A outer s H E0).nox (defBody st) t ∧
        t { nx := fun _ H' => Q .non H', rt := Q } (start N vs) H) : ClI P w K mg base (k + 1) C x sp := by
  obtain ⟨f, fd, F, hm, hx, b⟩ := a.ex
  exact ⟨f, fd, ps, fnG F S len (hb f), hm, hx, b⟩
end
section
variable {X : Cx} {k j : Nat} {x m : Str} {C : Addr} {sp : Sp} {p pos apos : Pos} {o e : Expr} {es : List Expr} {t : TA} {ta : TE}
/-- o.m(e, ..) -/
theorem pe_clM {pl : Sem Bool} (c : ClM X.prog X.w X.K X.mg X.base k C m sp) (cc : Cls X.K C) (hg : X.A.guards = some []) (hr : Room j X.A) (hk : k ≤ j) (ho : PE X o ta) (ha : PA X (e :: es) t)
    (hst : starEach (e :: es) X.env = (false, eval e X.env) :: starEach es X.env := by rfl) (hpl : (backTo pos (starEach es X.env)).any (·.1) = false := by rfl)
    (ht : eval (.Call (.Attribute o m apos) (e :: es) [] pos) X.env = (do
      let ov ← eval o X.env
      standAt apos.atName
      let (f, first) ← holding [ov] (getMethod ov m pl)
      callWith pos f first (backTo pos (starEach (e :: es) X.env)) (backToKw pos (keywordEach [] X.env))) := by rfl) :
    PE X (.Call (.Attribute o m apos) (e :: es) [] pos) (tMeth C m sp [] E0 ta t) := by
  obtain ⟨f, fd, ps, F, hm, b⟩ := c.ex
  refine ⟨fun pins s σ H Q I h => ?_⟩
  refine PySem.W.methodCall_KW (pl := pl) (thn (ho.run pins s σ H _ I h) fun u s1 ⟨x, H1, I1, rx, a, dx, fs, ex, ea, l, q⟩ => ?_) ht
  subst ex
  obtain rfl : u = Value.ref a := rx
  refine getmeth_ok I1 ea cc hm l ?_
  refine PySem.W.callWith_K (first := [.ref a]) (h₀ := X.base) I.ok.mod.kin hm.kp (thn (ha.run pos pins s1 σ H1 _ I1 q) fun us s2 ⟨vs, H2, I2, r, q2⟩ => ⟨I2.kIn, ?_⟩) hst hpl
  exact run_cl (us := .ref a :: us) (vs := .ref a :: vs) F hg (hr.mono hk) b I2 (.cons rfl r) (by simpa using q2)
/-- o.m() -/
theorem pe_clM0 {pl : Sem Bool} (c : ClM X.prog X.w X.K X.mg X.base k C m sp) (cc : Cls X.K C) (hg : X.A.guards = some []) (hr : Room j X.A) (hk : k ≤ j) (ho : PE X o ta)
    (ht : eval (.Call (.Attribute o m apos) [] [] pos) X.env = (do
      let ov ← eval o X.env
      standAt apos.atName
      let (f, first) ← holding [ov] (getMethod ov m pl)
      callWith pos f first (backTo pos (starEach [] X.env)) (backToKw pos (keywordEach [] X.env))) := by rfl) :
    PE X (.Call (.Attribute o m apos) [] [] pos) (tMeth C m sp [] E0 ta tNil) := by
  obtain ⟨f, fd, ps, F, hm, b⟩ := c.ex
  refine ⟨fun pins s σ H Q I h => ?_⟩
  refine PySem.W.methodCall_KW (pl := pl) (thn (ho.run pins s σ H _ I h) fun u s1 ⟨x, H1, I1, rx, a, dx, fs, ex, ea, l, q⟩ => ?_) ht
  subst ex
  obtain rfl : u = Value.ref a := rx
  refine getmeth_ok I1 ea cc hm l ?_
  exact PySem.W.callWith_K0 (first := [.ref a]) I1.kIn hm.kp (run_cl (us := [.ref a]) (vs := [.ref a]) F hg (hr.mono hk) b I1 (.cons rfl .nil) q)
theorem run_clI {f : Addr} {fd : FuncData} {ps : List Str} {pins : List (Addr × Obj)} {σ : L2.St} {H : Hp} {s : Shared} {Q : VK} {us : List Value} {vs : List V} (M : Mk X.K C f) (F : FnG X.prog X.w X.K X.mg X.base k f fd ps sp) (hg : X.A.guards = some []) (hr : Room (k + 1) X.A) (hb : Binds X.K fd ps [])
    (I : Inv X pins σ H s) (r : Vals vs us)
    (h : ∀ x dx, H x = none → H dx = none → dx ≠ x → sp (.ref x :: vs) (upd (upd H dx (.own x)) x (.ins C dx [])) (fun v H2 => v = .non ∧ Q (.ref x) H2) E0) :
    wpAny (model X.prog X.w) X.A (call (.ref C) us) (EP X pins σ Q) X.xe s := by
  have hq := h (s.heap.objs.size + 1) s.heap.objs.size (I.hok.fresh (Nat.le_succ _)) (I.hok.fresh (Nat.le_refl _)) (Nat.ne_of_lt (Nat.lt_succ_self _))
  have I2 := Inv.made (C := C) I
  have r2 : Vals (V.ref (s.heap.objs.size + 1) :: vs) (Value.ref (s.heap.objs.size + 1) :: us) := .cons rfl r
  have hl : (Value.ref (s.heap.objs.size + 1) :: us).length = ps.length := by
    have e := r2.length
    rw [F.len _ _ _ _ hq] at e
    exact e.symm
  have bt := hb _ (Value.ref (s.heap.objs.size + 1) :: us) I2.kIn (by simpa using hl)
  rw [List.append_nil] at bt
  refine wpAny_call (make_map (f := f) I.kIn M.makes M.init (beq_iff_eq.mp M.fn) (codeAny_mono (F.go _ X.stack _ _ ⟨Value.ref (s.heap.objs.size + 1) :: us, []⟩ (Value.ref (s.heap.objs.size + 1) :: us) _ _ hg (hr.make C us [])
    (I2.env0.make C us []) bt r2 hq) fun r s' hq' => ?_))
  match r, hq' with
  | .ok (.ret u), hq' =>
    obtain ⟨v, H', I3, rv, ev, q3⟩ := I2.after hq'
    subst ev
    exact ⟨rv, ⟨V.ref (s.heap.objs.size + 1), H', I3, rfl, q3⟩⟩
  | .ok .next, hq' => exact False.elim hq'
  | .ok .brk, hq' => exact False.elim hq'
  | .ok .cont, hq' => exact False.elim hq'
  | .error _, hq' => exact False.elim hq'
/-- C(e, ..) -/
theorem pe_clI (c : ClI X.prog X.w X.K X.mg X.base k C x sp) (hg : X.A.guards = some []) (hr : Room j X.A) (hk : k + 1 ≤ j) (gl : Gl X x) (ha : PA X (e :: es) t)
    (hdb : (x == ("__debug__" : Str)) = false := by decide) (he : starEach (e :: es) X.env = (false, eval e X.env) :: starEach es X.env := by rfl) (hpl : (backTo pos (starEach es X.env)).any (·.1) = false := by rfl) :
    PE X (.Call (.Name x p) (e :: es) [] pos) (tMake C sp [] E0 t) := by
  obtain ⟨f, fd, ps, F, M, hm, b⟩ := c.ex
  refine ⟨fun pins s σ H Q I h => ?_⟩
  refine wpAny_Call_Name_kw (ld_glob I gl hm ?_ hdb)
  refine PySem.W.callWith_K (h₀ := X.base) I.ok.mod.kin M.kp (thn (ha.run pos pins s σ H _ I h) fun us s1 ⟨vs, H1, I1, r, q⟩ => ⟨I1.kIn, ?_⟩) he hpl
  exact run_clI M F hg (hr.mono hk) b I1 r (by simpa using q)
end
/-! ### list(d.values()) -/
def tListVals (te : TE) : TE := fun σ H Q => te σ H fun x H1 => ∃ (d : Addr) (kvs : List (Key × V)), x = .ref d ∧ H1 d = some (.dK kvs) ∧ ∀ p, H1 p = none → Q (.ref p) (upd H1 p (.lst (kvs.map (·.2))))
theorem kv_vals {kvs : List (Key × V)} {vs : List (Key × Value)} (h : KV kvs vs) : Vals (kvs.map (·.2)) (vs.map (·.2)) := by
  induction h with
  | nil => exact .nil
  | cons h t ih => exact .cons h.2 ih
section
variable {X : Cx} {e : Expr} {te : TE} {p apos cpos pos : Pos}
theorem pe_listVals (hc : X.calm = true) (he : PE X e te) (hg : Gl X "list") (hm : X.mg "list" = none) (hv : bootBuiltins "list" = some (.type "list")) (hbase : attributeBase e "values" X.env (eval e X.env) = eval e X.env := by rfl) (hline : (apos.endLine == cpos.line) = true := by rfl)
    (hs : starEach [.Call (.Attribute e "values" apos) [] [] cpos] X.env = (false, eval (.Call (.Attribute e "values" apos) [] [] cpos) X.env) :: starEach [] X.env := by rfl) :
    PE X (.Call (.Name "list" p) [.Call (.Attribute e "values" apos) [] [] cpos] [] pos) (tListVals te) := by
  refine ⟨fun pins s σ H Q I hq => ?_⟩
  refine wpAny_Call_Name_kw (ld_blt I hg hm hv ?_)
  refine PyProof.Rows.callWith_type1 ?_ hs rfl
  rw [hs]
  show wpAny _ _ (spliced ((false, eval (.Call (.Attribute e "values" apos) [] [] cpos) X.env) :: backTo pos (starEach [] X.env))) _ _ s
  refine Calls.spliced_cons ?_
  refine wpAny_Call_method (T := "dict") (id := "dict.values") hbase rfl hline F.plainAttrs_dict F.slot_dict_values F.type_dict_values (thn (he.run pins s σ H _ I hq) fun u s1 ⟨x, H1, I1, rx, d, kvs, ex, hd, q⟩ => ?_)
  subst ex
  obtain rfl : u = Value.ref d := rx
  obtain ⟨hz, hs0, vs, kv, hdo⟩ := I1.hok d _ hd
  obtain ⟨ep, hat⟩ := hdo.dictAt
  have lk : kvs.length = vs.length := Paired.length kv
  have I2 : Inv X pins σ H1 { s1 with heap := s1.heap.push { cls := .type "dict_values", data := .fields #[.ref d] } } := I1.kept (t' := s1.toks) fun b ob q => Heap.get?_push_of_some _ q
  refine ⟨hdo.typeIs, hdo.mapOf.noDict, ?_⟩
  show wpAny _ _ (callWith cpos (.builtin "dict.values") [.ref d] [] []) _ X.xe s1
  refine method_meetsIn F.slot_dict_values F.entry_dict_values rfl (PySem.evalArgs_none ⟨rfl, hdo.typeIs, F.args_dict_values_1 _, _, PySem.meets_dict_values (mixKind X.prog X.w) d hs0, ⟨vs, hdo⟩, ?_⟩)
  refine Calls.spliced_nil ?_
  refine PySem.W.kdl_call (PySem.W.kdl_values (knd := mixKind X.prog X.w) (kvs := vs) (ep := ep)) (I1.ok.hd hc) ⟨⟨_, Heap.get?_push_size _ rfl, rfl, rfl⟩, hat.push _⟩ (by omega) fun h' tk acc c hk hS hacc => ?_
  have hl : acc.toList = vs.map (·.2) := PySem.W.kdl_vals_eq acc.toList (by rw [Array.length_toList]; exact hacc.1) fun j v e => hacc.2 j v (by rw [← Array.getElem?_toList]; exact e)
  refine ⟨.ref _, _, I2.laid (t' := tk) hk (Nat.le_refl _) (show ObjOk X.prog X.w _ h' _ (.lst (kvs.map (·.2))) from ⟨by rw [List.length_map]; exact hz, acc.toList, c, by rw [hl]; exact kv_vals kv, by rw [Array.toArray_toList]; exact hS⟩), rfl, q _ I2.fresh⟩
end
end Gd

set_option Elab.async false
set_option linter.all false
set_option maxRecDepth 100000
set_option maxHeartbeats 4000000
/-! Playing: the state of the keys, and what each event is. -/
namespace Pl
open PySem PySem.Spec PyProof.Rows L2 Gd Rm La

/-! ### what the keys are bound to -/
abbrev Bd0 := List (Int × Actn)
def putB (bd : Bd0) (k : Int) (x : Actn) : Bd0 := if (bd.any fun p => decide (p.1 = k)) = true then bd.map (fun p => if p.1 = k then (p.1, x) else p) else bd ++ [(k, x)]
def dropB (bd : Bd0) (k : Int) : Bd0 := bd.filter fun p => decide (p.1 ≠ k)
def getB (bd : Bd0) (k : Int) : Option Actn := (bd.find? fun p => decide (p.1 = k)).map (·.2)
abbrev BdR (H : Hp) : (Key × V) → (Int × Actn) → Prop := fun p q => p.1 = Sum.inl q.1 ∧ ActV H q.2 p.2
def Bd (H : Hp) (kvs : List (Key × V)) (bd : Bd0) : Prop := Paired (BdR H) kvs bd
theorem Bd.keep {H H' : Hp} {kvs : List (Key × V)} {bd : Bd0} (h : Bd H kvs bd) (t : Tk H H') : Bd H' kvs bd := by
  unfold Bd at h ⊢
  induction h with
  | nil => exact .nil
  | cons a _ ih => exact .cons ⟨a.1, a.2.keep t⟩ ih
theorem Bd.length {H : Hp} {kvs : List (Key × V)} {bd : Bd0} (h : Bd H kvs bd) : kvs.length = bd.length := by
  unfold Bd at h
  induction h with
  | nil => rfl
  | cons _ _ ih => rw [List.length_cons, List.length_cons, ih]
theorem inl_iff {a b : Int} : ((Sum.inl a : Key) = Sum.inl b) ↔ a = b := ⟨fun h => Sum.inl.inj h, fun h => by rw [h]⟩
theorem Bd.any {H : Hp} {kvs : List (Key × V)} {bd : Bd0} (h : Bd H kvs bd) (k : Int) : (kvs.any fun p => decide (p.1 = (Sum.inl k : Key))) = bd.any fun p => decide (p.1 = k) := by
  unfold Bd at h
  induction h with
  | nil => rfl
  | @cons p q _ _ a _ ih =>
    rw [List.any_cons, List.any_cons, ih, a.1]
    congr 1
    exact decide_eq_decide.mpr inl_iff
theorem Bd.mapP {H : Hp} {kvs : List (Key × V)} {bd : Bd0} (h : Bd H kvs bd) {k : Int} {x : Actn} {v : V} (hx : ActV H x v) :
    Bd H (kvs.map fun p => if p.1 = (Sum.inl k : Key) then (p.1, v) else p) (bd.map fun p => if p.1 = k then (p.1, x) else p) := by
  unfold Bd at h ⊢
  induction h with
  | nil => exact .nil
  | @cons p q _ _ a _ ih =>
    refine .cons ?_ ih
    show BdR H (if p.1 = (Sum.inl k : Key) then (p.1, v) else p) (if q.1 = k then (q.1, x) else q)
    by_cases e : q.1 = k
    · rw [if_pos e, if_pos (by rw [a.1, e])]
      exact ⟨a.1, hx⟩
    · rw [if_neg e, if_neg (fun z => e (inl_iff.mp (a.1.symm.trans z)))]
      exact a
theorem Bd.snoc {H : Hp} {kvs : List (Key × V)} {bd : Bd0} (h : Bd H kvs bd) {p : Key × V} {q : Int × Actn} (a : BdR H p q) : Bd H (kvs ++ [p]) (bd ++ [q]) := by
  unfold Bd at h ⊢
  induction h with
  | nil => exact .cons a .nil
  | cons b _ ih => exact .cons b ih
theorem Bd.put {H : Hp} {kvs : List (Key × V)} {bd : Bd0} (h : Bd H kvs bd) {k : Int} {x : Actn} {v : V} (hx : ActV H x v) : Bd H (putK kvs (Sum.inl k) v) (putB bd k x) := by
  unfold putK putB
  rw [h.any k]
  split
  · exact h.mapP hx
  · exact h.snoc ⟨rfl, hx⟩
theorem Bd.drop {H : Hp} {kvs : List (Key × V)} {bd : Bd0} (h : Bd H kvs bd) (k : Int) : Bd H (dropK kvs (Sum.inl k)) (dropB bd k) := by
  unfold Bd dropK dropB at *
  induction h with
  | nil => exact .nil
  | @cons p q _ _ a _ ih =>
    by_cases e : q.1 = k
    · rw [List.filter_cons_of_neg (by simp [a.1, e]), List.filter_cons_of_neg (by simp [e])]
      exact ih
    · have e' : ¬ p.1 = (Sum.inl k : Key) := fun z => e (inl_iff.mp (a.1.symm.trans z))
      rw [List.filter_cons_of_pos (by simp [e']), List.filter_cons_of_pos (by simp [e])]
      exact .cons a ih
theorem Bd.get {H : Hp} {kvs : List (Key × V)} {bd : Bd0} (h : Bd H kvs bd) (k : Int) : (valV kvs (Sum.inl k) = none ∧ getB bd k = none) ∨ ∃ v x, valV kvs (Sum.inl k) = some v ∧ getB bd k = some x ∧ ActV H x v := by
  unfold Bd at h
  induction h with
  | nil => exact .inl ⟨rfl, rfl⟩
  | @cons p q _ _ a _ ih =>
    by_cases e : q.1 = k
    · refine .inr ⟨p.2, q.2, valV_pos (by rw [a.1, e]), ?_, a.2⟩
      unfold getB
      rw [List.find?_cons_of_pos (by simp [e])]
      rfl
    · have e' : ¬ p.1 = (Sum.inl k : Key) := fun z => e (inl_iff.mp (a.1.symm.trans z))
      rw [valV_neg e']
      have g : ∀ r : Bd0, getB (q :: r) k = getB r k := fun r => by
        unfold getB
        rw [List.find?_cons_of_neg (by simp [e])]
      rw [g]
      exact ih
theorem Bd.dp {K : PySem.W.Frag} {H : Hp} {kvs : List (Key × V)} {bd : Bd0} (h : Bd H kvs bd) : DpAll K H (kvs.map (·.2)) (bd.map fun q => actD q.2) := by
  unfold Bd at h
  induction h with
  | nil => exact .nil
  | cons a _ ih => exact .cons a.2.dp ih
theorem putB_len (bd : Bd0) (k : Int) (x : Actn) : (putB bd k x).length ≤ bd.length + 1 := by
  unfold putB
  split
  · rw [List.length_map]; omega
  · rw [List.length_append]; exact Nat.le_refl _
theorem dropB_len (bd : Bd0) (k : Int) : (dropB bd k).length ≤ bd.length := List.length_filter_le ..
theorem putB_mem {bd : Bd0} {k : Int} {x : Actn} {p : Int × Actn} (h : p ∈ putB bd k x) : p ∈ bd ∨ p = (k, x) := by
  unfold putB at h
  split at h
  · obtain ⟨q, hq, e⟩ := List.mem_map.mp h
    by_cases z : q.1 = k
    · rw [if_pos z] at e; rw [← e, z]; exact .inr rfl
    · rw [if_neg z] at e; rw [← e]; exact .inl hq
  · rcases List.mem_append.mp h with q | q
    · exact .inl q
    · exact .inr (List.mem_singleton.mp q)
theorem dropB_mem {bd : Bd0} {k : Int} {p : Int × Actn} (h : p ∈ dropB bd k) : p ∈ bd := (List.mem_filter.mp h).1
theorem getB_mem {bd : Bd0} {k : Int} {x : Actn} (h : getB bd k = some x) : ∃ p ∈ bd, p.1 = k ∧ p.2 = x := by
  unfold getB at h
  cases e : bd.find? fun p => decide (p.1 = k) with
  | none => rw [e] at h; cases h
  | some p =>
    rw [e] at h
    exact ⟨p, List.mem_of_find?_eq_some e, of_decide_eq_true (List.find?_some (p := fun p : Int × Actn => decide (p.1 = k)) e), Option.some.inj h⟩
/-- what a key may be bound to -/
def BdOk (n : Int) : Actn → Prop
  | .code c => CodeOk c
  | .lay w j => w = ("layer" : String) ∧ 1 ≤ j ∧ j ≤ n - 1
  | _ => False
theorem BdOk.act {n : Int} {x : Actn} (h : BdOk n x) (i : Int) : ActOk n i x := by
  cases x with
  | code c => exact h
  | lay w j => exact ⟨by rw [h.1]; decide +kernel, h.2.1, h.2.2⟩
  | none => exact h.elim
  | thr => exact h.elim
  | dualC _ _ _ _ => exact h.elim
  | dualL _ _ _ _ => exact h.elim
def BdsOk (n : Int) (bd : Bd0) : Prop := ∀ p ∈ bd, BdOk n p.2

/-! ### the state -/
structure Sm where
  lk : List Bool
  on : Int
  bd : Bd0
def isLay (i : Int) : Actn → Bool
  | .lay w j => decide (w = (("layer" : String) : Str)) && decide (j = i)
  | _ => false
def onL (s : Sm) (i : Nat) : Bool := decide (i = 0) || s.lk.getD i false || decide (s.on = i) || s.bd.any fun p => isLay i p.2
def isThr : Actn → Bool
  | .thr => true
  | _ => false
def actAt (L : List (List Actn)) (i k : Nat) : Actn := ((L.getD i []).getD k .none)
def filt (L : List (List Actn)) (s : Sm) (k : Nat) : List Nat := (List.range L.length).filter fun i => !isThr (actAt L i k) && onL s i
def takenL (L : List (List Actn)) (s : Sm) (k : Nat) : Nat := (filt L s k).getLast?.getD 0
def isDl : Actn → Bool
  | .dualC .. => true
  | .dualL .. => true
  | _ => false
def timeOf : Actn → Int
  | .dualC _ _ t _ => t
  | .dualL _ _ t _ => t
  | _ => 0
def ruleOf : Actn → Str
  | .dualC _ _ _ r => r
  | .dualL _ _ _ r => r
  | _ => Str.empty
def tapOf : Actn → Actn
  | .dualC c _ _ _ => .code c
  | .dualL c _ _ _ => .code c
  | x => x
def holdOf : Actn → Actn
  | .dualC _ d _ _ => .code d
  | .dualL _ j _ _ => .lay "layer" j
  | x => x
def press (s : Sm) (k : Int) (x : Actn) : Sm :=
  match x with
  | .code c => { s with on := 0, bd := putB s.bd k (.code c) }
  | .lay w j => if w = ("layer" : String) then { s with on := 0, bd := putB s.bd k (.lay w j) } else if w = ("lock" : String) then { s with on := 0, lk := s.lk.set j.toNat (!s.lk.getD j.toNat false) } else { s with on := j }
  | _ => { s with on := 0 }
def release (s : Sm) (k : Int) : Sm := { s with bd := dropB s.bd k }
def init (n : Nat) : Sm := ⟨List.replicate n false, 0, []⟩

/-! ### deciding events -/
def decEv (own : Int) (rule : Str) : List Int → List Ev → Option Nat
  | _, [] => none
  | inner, e :: r =>
    if e.k = own ∨ (rule = ("other" : String) ∧ e.d = true) then some 0
    else if e.d = true then (decEv own rule (inner ++ [e.k]) r).map (· + 1)
    else if rule = ("within" : String) ∧ e.k ∈ inner then some 0
    else (decEv own rule inner r).map (· + 1)
def decM (es : List Ev) (at_ : Nat) (rule : Str) : Option Nat := (decEv ((es.getD at_ ⟨0, 0, false⟩).k) rule [] (es.drop (at_ + 1))).map (· + (at_ + 1))
def evAt (es : List Ev) (i : Nat) : Ev := es.getD i ⟨0, 0, false⟩
def sureM (es : List Ev) (at_ : Nat) (x : Actn) : Option Nat :=
  match decM es at_ (ruleOf x) with
  | none => none
  | some n => if (evAt es at_).t + timeOf x ≤ (evAt es n).t then none else some n
def tapM (es : List Ev) (at_ : Nat) (sure : Option Nat) : Bool :=
  match sure with
  | none => false
  | some n => decide ((evAt es n).k = (evAt es at_).k)
def kindM (es : List Ev) (at_ : Nat) (x : Actn) : Str := if isDl x then (if tapM es at_ (sureM es at_ x) then "tap" else "hold") else "plain"
def whatM (x : Actn) (kind : Str) : Actn := if kind = ("plain" : String) then x else if kind = ("tap" : String) then tapOf x else holdOf x
/-- what is told of an event: of an up, or of a down -/
inductive Td where
  | up
  | dn (lay : Nat) (kind : Str) (what : Actn) (sure : Option Nat)
def stepS (L : List (List Actn)) (es : List Ev) (i : Nat) (s : Sm) : Sm :=
  if (evAt es i).d then
    let x := actAt L (takenL L s (evAt es i).k.toNat) (evAt es i).k.toNat
    press s (evAt es i).k (whatM x (kindM es i x))
  else release s (evAt es i).k
def stepT (L : List (List Actn)) (es : List Ev) (i : Nat) (s : Sm) : Td :=
  if (evAt es i).d then
    let l := takenL L s (evAt es i).k.toNat
    let x := actAt L l (evAt es i).k.toNat
    .dn l (kindM es i x) (whatM x (kindM es i x)) (if isDl x then sureM es i x else none)
  else .up
def runS (L : List (List Actn)) (es : List Ev) : Nat → Sm
  | 0 => init L.length
  | n + 1 => stepS L es n (runS L es n)
def runT (L : List (List Actn)) (es : List Ev) (i : Nat) : Td := stepT L es i (runS L es i)
end Pl

set_option Elab.async false
set_option linter.all false
set_option maxRecDepth 100000
set_option maxHeartbeats 4000000
namespace K66
open PySem PySem.Spec PyProof.Rows L2 Gd Rm La
def topS (i : Nat) : Stmt := PySem.Challenge.pw_holdtap_k66_record_and_result_texts.main.body.getD i (.Pass ⟨0, 0, 0, 0⟩)
abbrev s_is_an_integer : Stmt := topS 5
abbrev n_is_an_integer : List Str := ["value"]
theorem sc_is_an_integer : FnScope n_is_an_integer ["value"] (defScope s_is_an_integer) := ⟨rfl, rfl, rfl, by decide +kernel, rfl, by decide +kernel, by decide +kernel⟩
-- 0 value
abbrev s_is_code : Stmt := topS 9
abbrev n_is_code : List Str := ["value", "sign"]
theorem sc_is_code : FnScope n_is_code ["value"] (defScope s_is_code) := ⟨rfl, rfl, rfl, by decide +kernel, rfl, by decide +kernel, by decide +kernel⟩
-- 0 value, 1 sign*
abbrev s_is_output : Stmt := topS 12
abbrev n_is_output : List Str := ["value", "word", "code"]
theorem sc_is_output : FnScope n_is_output ["value"] (defScope s_is_output) := ⟨rfl, rfl, rfl, by decide +kernel, rfl, by decide +kernel, by decide +kernel⟩
-- 0 value, 1 word, 2 code
abbrev s_are_outputs : Stmt := topS 13
abbrev n_are_outputs : List Str := ["value", "output"]
theorem sc_are_outputs : FnScope n_are_outputs ["value"] (defScope s_are_outputs) := ⟨rfl, rfl, rfl, by decide +kernel, rfl, by decide +kernel, by decide +kernel⟩
-- 0 value, 1 output*
abbrev s_check_record : Stmt := topS 16
abbrev n_check_record : List Str := ["value", "many", "held", "index", "event"]
theorem sc_check_record : FnScope n_check_record ["value", "many"] (defScope s_check_record) := ⟨rfl, rfl, rfl, by decide +kernel, rfl, by decide +kernel, by decide +kernel⟩
-- 0 value, 1 many, 2 held, 3 index, 4 event
abbrev s_is_short_list : Stmt := topS 17
abbrev n_is_short_list : List Str := ["value"]
theorem sc_is_short_list : FnScope n_is_short_list ["value"] (defScope s_is_short_list) := ⟨rfl, rfl, rfl, by decide +kernel, rfl, by decide +kernel, by decide +kernel⟩
-- 0 value
abbrev s_is_event : Stmt := topS 18
abbrev n_is_event : List Str := ["value", "tick", "key", "way"]
theorem sc_is_event : FnScope n_is_event ["value"] (defScope s_is_event) := ⟨rfl, rfl, rfl, by decide +kernel, rfl, by decide +kernel, by decide +kernel⟩
-- 0 value, 1 tick, 2 key, 3 way
abbrev s_is_step : Stmt := topS 19
abbrev n_is_step : List Str := ["value", "key", "way"]
theorem sc_is_step : FnScope n_is_step ["value"] (defScope s_is_step) := ⟨rfl, rfl, rfl, by decide +kernel, rfl, by decide +kernel, by decide +kernel⟩
-- 0 value, 1 key, 2 way
abbrev s_is_below : Stmt := topS 20
abbrev n_is_below : List Str := ["key", "many"]
theorem sc_is_below : FnScope n_is_below ["key", "many"] (defScope s_is_below) := ⟨rfl, rfl, rfl, by decide +kernel, rfl, by decide +kernel, by decide +kernel⟩
-- 0 key, 1 many
abbrev s_can_follow : Stmt := topS 21
abbrev n_can_follow : List Str := ["event", "last", "held"]
theorem sc_can_follow : FnScope n_can_follow ["event", "last", "held"] (defScope s_can_follow) := ⟨rfl, rfl, rfl, by decide +kernel, rfl, by decide +kernel, by decide +kernel⟩
-- 0 event, 1 last, 2 held
abbrev s_takes_turn : Stmt := topS 22
abbrev n_takes_turn : List Str := ["held", "key", "way", "goes_down"]
theorem sc_takes_turn : FnScope n_takes_turn ["held", "key", "way"] (defScope s_takes_turn) := ⟨rfl, rfl, rfl, by decide +kernel, rfl, by decide +kernel, by decide +kernel⟩
-- 0 held, 1 key, 2 way, 3 goes_down
abbrev s_format_record : Stmt := topS 26
abbrev n_format_record : List Str := ["record", "event"]
theorem sc_format_record : FnScope n_format_record ["record"] (defScope s_format_record) := ⟨rfl, rfl, rfl, by decide +kernel, rfl, by decide +kernel, by decide +kernel⟩
-- 0 record, 1 event*
abbrev s_parse_record : Stmt := topS 27
abbrev n_parse_record : List Str := ["text", "record", "held", "at", "word", "event", "last"]
theorem sc_parse_record : FnScope n_parse_record ["text"] (defScope s_parse_record) := ⟨rfl, rfl, rfl, by decide +kernel, rfl, by decide +kernel, by decide +kernel⟩
-- 0 text, 1 record, 2 held, 3 at, 4 word, 5 event, 6 last
abbrev s_format_result : Stmt := topS 28
abbrev n_format_result : List Str := ["result", "output"]
theorem sc_format_result : FnScope n_format_result ["result"] (defScope s_format_result) := ⟨rfl, rfl, rfl, by decide +kernel, rfl, by decide +kernel, by decide +kernel⟩
-- 0 result, 1 output*
abbrev s_event_text : Stmt := topS 29
abbrev n_event_text : List Str := ["event", "tick", "key", "way"]
theorem sc_event_text : FnScope n_event_text ["event"] (defScope s_event_text) := ⟨rfl, rfl, rfl, by decide +kernel, rfl, by decide +kernel, by decide +kernel⟩
-- 0 event, 1 tick, 2 key, 3 way
abbrev s_way_sign : Stmt := topS 30
abbrev n_way_sign : List Str := ["way"]
theorem sc_way_sign : FnScope n_way_sign ["way"] (defScope s_way_sign) := ⟨rfl, rfl, rfl, by decide +kernel, rfl, by decide +kernel, by decide +kernel⟩
-- 0 way
abbrev s_event_of : Stmt := topS 31
abbrev n_event_of : List Str := ["word", "way", "key", "_", "tick"]
theorem sc_event_of : FnScope n_event_of ["word"] (defScope s_event_of) := ⟨rfl, rfl, rfl, by decide +kernel, rfl, by decide +kernel, by decide +kernel⟩
-- 0 word, 1 way, 2 key, 3 _, 4 tick
abbrev s_output_text : Stmt := topS 32
abbrev n_output_text : List Str := ["output", "word", "code"]
theorem sc_output_text : FnScope n_output_text ["output"] (defScope s_output_text) := ⟨rfl, rfl, rfl, by decide +kernel, rfl, by decide +kernel, by decide +kernel⟩
-- 0 output, 1 word, 2 code
abbrev s_output_sign : Stmt := topS 33
abbrev n_output_sign : List Str := ["word"]
theorem sc_output_sign : FnScope n_output_sign ["word"] (defScope s_output_sign) := ⟨rfl, rfl, rfl, by decide +kernel, rfl, by decide +kernel, by decide +kernel⟩
-- 0 word
abbrev s_is_number : Stmt := topS 34
abbrev n_is_number : List Str := ["text", "sign"]
theorem sc_is_number : FnScope n_is_number ["text"] (defScope s_is_number) := ⟨rfl, rfl, rfl, by decide +kernel, rfl, by decide +kernel, by decide +kernel⟩
-- 0 text, 1 sign*
abbrev s_is_signed_number : Stmt := topS 35
abbrev n_is_signed_number : List Str := ["text"]
theorem sc_is_signed_number : FnScope n_is_signed_number ["text"] (defScope s_is_signed_number) := ⟨rfl, rfl, rfl, by decide +kernel, rfl, by decide +kernel, by decide +kernel⟩
-- 0 text
abbrev s__law_reel : Stmt := topS 37
abbrev n__law_reel : List Str := ["_law_script", "_law_index", "_law_mixed", "_law_cell"]
theorem sc__law_reel : FnScope n__law_reel ["_law_script", "_law_index"] (defScope s__law_reel) := ⟨rfl, rfl, rfl, by decide +kernel, rfl, by decide +kernel, by decide +kernel⟩
-- 0 _law_script, 1 _law_index, 2 _law_mixed, 3 _law_cell
abbrev s__law_spin : Stmt := topS 38
abbrev n__law_spin : List Str := ["_law_reel_here", "_law_size", "_law_digit", "_law_wide"]
theorem sc__law_spin : FnScope n__law_spin ["_law_reel_here", "_law_size"] (defScope s__law_spin) := ⟨rfl, rfl, rfl, by decide +kernel, rfl, by decide +kernel, by decide +kernel⟩
-- 0 _law_reel_here, 1 _law_size, 2 _law_digit, 3 _law_wide
abbrev s__law_code : Stmt := topS 39
abbrev n__law_code : List Str := ["_law_reel_here", "_law_some", "_law_way", "_law_many", "_law_letters", "_law_turn"]
theorem sc__law_code : FnScope n__law_code ["_law_reel_here"] (defScope s__law_code) := ⟨rfl, rfl, rfl, by decide +kernel, rfl, by decide +kernel, by decide +kernel⟩
-- 0 _law_reel_here*, 1 _law_some, 2 _law_way, 3 _law_many, 4 _law_letters*, 5 _law_turn*
abbrev s__law_record : Stmt := topS 40
abbrev n__law_record : List Str := ["_law_reel_here", "_law_keys", "_law_size", "_law_gaps", "_law_found", "_law_down", "_law_tick", "_law_turn", "_law_key"]
theorem sc__law_record : FnScope n__law_record ["_law_reel_here", "_law_keys", "_law_size", "_law_gaps"] (defScope s__law_record) := ⟨rfl, rfl, rfl, by decide +kernel, rfl, by decide +kernel, by decide +kernel⟩
-- 0 _law_reel_here, 1 _law_keys, 2 _law_size, 3 _law_gaps, 4 _law_found, 5 _law_down, 6 _law_tick, 7 _law_turn, 8 _law_key
abbrev s__law_record_text : Stmt := topS 41
abbrev n__law_record_text : List Str := ["_law_record_here", "_law_tick", "_law_key", "_law_way"]
theorem sc__law_record_text : FnScope n__law_record_text ["_law_record_here"] (defScope s__law_record_text) := ⟨rfl, rfl, rfl, by decide +kernel, rfl, by decide +kernel, by decide +kernel⟩
-- 0 _law_record_here, 1 _law_tick*, 2 _law_key*, 3 _law_way*
abbrev s__law_crowd : Stmt := topS 42
abbrev n__law_crowd : List Str := ["_law_reel_here", "_law_keys", "_law_found", "_law_down", "_law_tick", "_law_turn", "_law_key"]
theorem sc__law_crowd : FnScope n__law_crowd ["_law_reel_here"] (defScope s__law_crowd) := ⟨rfl, rfl, rfl, by decide +kernel, rfl, by decide +kernel, by decide +kernel⟩
-- 0 _law_reel_here, 1 _law_keys, 2 _law_found, 3 _law_down, 4 _law_tick, 5 _law_turn, 6 _law_key
abbrev s__law_right : Stmt := topS 43
abbrev n__law_right : List Str := ["_law_record_here", "_law_is_far", "_law_kept", "_law_text", "_law_turn", "_law_again", "_law_told"]
theorem sc__law_right : FnScope n__law_right ["_law_record_here", "_law_is_far"] (defScope s__law_right) := ⟨rfl, rfl, rfl, by decide +kernel, rfl, by decide +kernel, by decide +kernel⟩
-- 0 _law_record_here, 1 _law_is_far, 2 _law_kept, 3 _law_text, 4 _law_turn, 5 _law_again, 6 _law_told
abbrev s__law_result_right : Stmt := topS 44
abbrev n__law_result_right : List Str := ["_law_reel_here", "_law_size", "_law_found", "_law_due", "_law_turn", "_law_way", "_law_code_here", "_law_kept"]
theorem sc__law_result_right : FnScope n__law_result_right ["_law_reel_here", "_law_size"] (defScope s__law_result_right) := ⟨rfl, rfl, rfl, by decide +kernel, rfl, by decide +kernel, by decide +kernel⟩
-- 0 _law_reel_here, 1 _law_size, 2 _law_found, 3 _law_due, 4 _law_turn, 5 _law_way, 6 _law_code_here, 7 _law_kept
abbrev s_law : Stmt := topS 45
abbrev n_law : List Str := ["_law_script", "_law_index", "_law_reel_here", "_law_turn", "_law_keys", "_law_size", "_law_record_here", "_law_start", "_law_taps", "_law_told", "_law_key", "_law_number", "_law_tick", "_law_way"]
theorem sc_law : FnScope n_law ["_law_script"] (defScope s_law) := ⟨rfl, rfl, rfl, by decide +kernel, rfl, by decide +kernel, by decide +kernel⟩
-- 0 _law_script, 1 _law_index, 2 _law_reel_here, 3 _law_turn, 4 _law_keys, 5 _law_size, 6 _law_record_here, 7 _law_start*, 8 _law_taps, 9 _law_told, 10 _law_key*, 11 _law_number*, 12 _law_tick*, 13 _law_way*


theorem small400 {n : Nat} (h : n ≤ 1000) : n ≤ sizeLine := Nat.le_of_lt (small1000 h)
theorem get_map_ref {as : List Addr} {i : Nat} {b : Addr} (h : as[i]? = some b) : (as.map V.ref)[i]? = some (.ref b) := by rw [List.getElem?_map, h]; rfl
theorem get_map_int {ns : List Int} {i : Nat} {b : Int} (h : ns[i]? = some b) : (ns.map V.int)[i]? = some (.int b) := by rw [List.getElem?_map, h]; rfl
theorem atI_end {xs : List V} {v : V} (h : xs[xs.length - 1]? = some v) : atI xs (-1) = some v := by
  have hn : xs ≠ [] := by
    intro e
    subst e
    simp at h
  have e := List.getLast?_eq_getElem? (l := xs)
  rw [h] at e
  have hz : xs.dropLast ++ [v] = xs := by
    have := List.dropLast_concat_getLast hn
    rw [List.getLast?_eq_some_getLast hn] at e
    rw [← Option.some.inj e]
    exact this
  rw [← hz]
  exact atI_last _ _
/-- a new list of new tuples, one more -/
structure Grown {α : Type} (f : α → List V) (H0 : Hp) (L : Addr) (es : List α) (H : Hp) : Prop where
  same : Same H0 H
  ls : Lst f H L es
theorem Grown.start {α : Type} {f : α → List V} {H0 : Hp} {L : Addr} (n : H0 L = none) : Grown f H0 L [] (upd H0 L (.lst [])) := ⟨same_upd n, [], upd_same, Tups.nil⟩
theorem Grown.more {α : Type} {f : α → List V} {H0 H : Hp} {L p : Addr} {es : List α} {e : α} (g : Grown f H0 L es H) (n : H0 L = none) (np : H p = none) :
    ∃ acc : List V, upd H p (.tup (f e)) L = some (.lst acc) ∧ acc.length = es.length ∧ Grown f H0 L (es ++ [e]) (upd (upd H p (.tup (f e))) L (.lst (acc ++ [.ref p]))) := by
  obtain ⟨s, as, h, t⟩ := g
  have pl : L ≠ p := ne_of_none h np
  have h1 : upd H p (.tup (f e)) L = some (.lst (as.map V.ref)) := (same_upd np) _ _ h
  refine ⟨as.map V.ref, h1, by rw [List.length_map]; exact t.1, Same.off (s.trans (same_upd np)) n off_upd, as ++ [p], ?_, ?_⟩
  · rw [upd_same, List.map_append]; rfl
  · refine Tups.snoc ((t.same (same_upd np)).off h1 off_upd) ?_
    rw [upd_ne pl.symm]
    exact upd_same
def rLenB (K : PySem.W.Frag) : List V → Hp → VK → Prop := fun xs H Q => ∃ p ys, xs = [.ref p] ∧ (SqL K H p ys ∨ SqT K H p ys) ∧ Q (.int ys.length) H
def rListOf (K : PySem.W.Frag) : List V → Hp → VK → Prop := fun xs H Q => ∃ p ys, xs = [.ref p] ∧ (SqL K H p ys ∨ SqT K H p ys) ∧ ∀ l, H l = none → Q (.ref l) (upd H l (.lst ys))
theorem allTrue (n : Nat) : (List.replicate n true).all id = true := by simp
/-! ### the reel -/
def Reel (H : Hp) (r : Addr) (n : Nat) : Prop := ∃ x y z : Int, H r = some (.lst [.int x, .int y, .int z]) ∧ 0 ≤ x ∧ 0 ≤ y ∧ y < 10 ^ 42 ∧ 0 ≤ z ∧ z ≤ (n : Int)
theorem Reel.mono {H : Hp} {r : Addr} {n m : Nat} (h : Reel H r n) (l : n ≤ m) : Reel H r m := by
  obtain ⟨x, y, z, a, b, c, d, e, f⟩ := h
  exact ⟨x, y, z, a, b, c, d, e, by omega⟩
theorem Reel.same {H H' : Hp} {r : Addr} {n : Nat} (h : Reel H r n) (l : Same H H') : Reel H' r n := by
  obtain ⟨x, y, z, a, b⟩ := h
  exact ⟨x, y, z, l _ _ a, b⟩
/-- the draws so far are fewer than this -/
abbrev most : Nat := 1000000000
def spSpin : Sp := fun vs H Q _ => ∃ (r : Addr) (m : Int) (n : Nat), vs = [.ref r, .int m] ∧ 0 < m ∧ m < 10 ^ 40 ∧ n < most ∧ Reel H r n ∧
  ∀ d H', 0 ≤ d → d < m → Reel H' r (n + 1) → Off r H H' → Q (.int d) H'
structure Bt (mg : Str → Option Value) : Prop where
  m_len : mg "len" = none
  m_abs : mg "abs" = none
  m_max : mg "max" = none
  m_repr : mg "repr" = none
  m_isinstance : mg "isinstance" = none
  m_all : mg "all" = none
  m_list : mg "list" = none
  m_tuple : mg "tuple" = none
  m_int : mg "int" = none
  m_bool : mg "bool" = none
  m_str : mg "str" = none
  m_range : mg "range" = none
  m_enumerate : mg "enumerate" = none
  m_min : mg "min" = none
section
variable {P : Program} {w : World} {K : PySem.W.Frag} {mg : Str → Option Value} {base : Heap}
theorem p43 : (10 : Int) ^ (43 : Int).toNat + 57 = 10 ^ 43 + 57 := rfl
theorem ok__law_spin (a : At K mg "_law_spin" s__law_spin ["_law_reel_here", "_law_size"]) : Cl P w K mg base 1 "_law_spin" spSpin := by
  refine clG a sc__law_spin (fun vs H Q E h => ?_) (fun f cdv A outer s H vs Q hg hr h => ?_)
  · obtain ⟨r, m, n, rfl, _⟩ := h
    rfl
  · obtain ⟨r, m, n, rfl, hm, hm2, hn0, ⟨x, y, z, hR, hx, hy, hy2, hz, hz2⟩, q⟩ := h
    have hn : n < 1000000000 := hn0
    refine ⟨_, (pss_cons (ps_if (pt_cmpR op_gt (pe_ix ix_list (pv 0) pe_int (fun _ _ => rfl)) pe_int (nomark _)) (pss_cons (ps_set (i := 2) sc__law_spin.nd rfl (Or.inl rfl) (pe_op op_mod (pe_ix ix_list (pv 0) pe_int (fun _ _ => rfl)) (pv 1)))
      (pss_cons (ps_asg (pe_op op_fdivW (pe_ix ix_list (pv 0) pe_int (fun _ _ => rfl)) (pv 1)) (pg_sub (pv 0) pe_int set_list))
      (pss_one (ps_ret (pv 2))))) pss_nil)
      (pss_cons (ps_asg (pe_op op_add (pe_ix ix_list (pv 0) pe_int (fun _ _ => rfl)) pe_int) (pg_sub (pv 0) pe_int set_list))
      (pss_cons (ps_set (i := 3) sc__law_spin.nd rfl (Or.inl rfl) (pe_op op_mod (pe_op op_powW (pe_op op_add (pe_ix ix_list (pv 0) pe_int (fun _ _ => rfl)) (pe_op op_mulW pe_int (pe_ix ix_list (pv 0) pe_int (fun _ _ => rfl)))) pe_int) (pe_op op_add (pe_op op_powW pe_int pe_int) pe_int)))
      (pss_cons (ps_set (i := 3) sc__law_spin.nd rfl (Or.inl rfl) (pe_op op_mod (pe_op op_powW (pe_op op_add (pv 3) (pe_op op_mulW pe_int (pe_ix ix_list (pv 0) pe_int (fun _ _ => rfl)))) pe_int) (pe_op op_add (pe_op op_powW pe_int pe_int) pe_int)))
      (pss_one (ps_ret (pe_op op_mod (pe_op op_fdivW (pv 3) pe_int) (pv 1)))))))), ?_⟩
    refine ⟨_, rfl, r, _, 0, _, rfl, rfl, SqL.of hR, atI_nat (j := 0) rfl, ?_⟩
    refine ⟨_, _, rfl, rfl, _, rfl, ite2 (fun e => ?_) (fun e => ?_)⟩
    · -- a digit of the great number
      have e0 : 0 < x := of_decide_eq_true e
      refine ⟨_, rfl, r, _, 0, _, rfl, rfl, SqL.of hR, atI_nat (j := 0) rfl, _, rfl, _, _, rfl, rfl, hm, ?_⟩
      refine ⟨_, rfl, r, _, 0, _, rfl, rfl, SqL.of hR, atI_nat (j := 0) rfl, _, rfl, _, _, rfl, rfl, wide_div (b := 140) hm (by omega) (by decide) (by decide), ?_⟩
      refine ⟨_, rfl, r, _, 0, 0, rfl, rfl, hR, rfl, ?_⟩
      refine ⟨_, rfl, q _ _ (Int.emod_nonneg _ (by omega)) (Int.emod_lt_of_pos _ hm) ⟨x / m, y, z, upd_same, Int.ediv_nonneg hx (by omega), hy, hy2, hz, by omega⟩ off_upd⟩
    · refine ⟨_, rfl, r, _, 2, _, rfl, rfl, SqL.of hR, atI_nat (j := 2) rfl, _, _, rfl, rfl, ?_⟩
      refine ⟨_, rfl, r, _, 2, 2, rfl, rfl, hR, rfl, ?_⟩
      have hR1 : upd H r (.lst [.int x, .int y, .int (z + 1)]) r = some (.lst [.int x, .int y, .int (z + 1)]) := upd_same
      refine ⟨_, rfl, r, _, 1, _, rfl, rfl, SqL.of hR1, atI_nat (j := 1) rfl, ?_⟩
      refine ⟨_, rfl, r, _, 2, _, rfl, rfl, SqL.of hR1, atI_nat (j := 2) rfl, ?_⟩
      have b1 : (z + 1).natAbs < 2 ^ 40 := by omega
      have b2 : (49979687 * (z + 1)).natAbs < 2 ^ 80 := by omega
      refine ⟨_, _, rfl, rfl, wide_mul (a := 40) (b := 40) (by decide) b1 (by decide) (by decide) (by decide), ?_⟩
      refine ⟨_, _, rfl, rfl, ?_⟩
      have b3 : (y + 49979687 * (z + 1)).natAbs < 2 ^ 150 := by omega
      refine ⟨_, _, rfl, rfl, powW (n := 150) (k := 3) b3 (by decide), ?_⟩
      refine ⟨_, _, rfl, rfl, powW (n := 40) (k := 43) (by decide) (by decide), ?_⟩
      refine ⟨_, _, rfl, rfl, _, _, rfl, rfl, (show (0 : Int) < 10 ^ 43 + 57 by decide), ?_⟩
      have c1 : 0 ≤ (y + 49979687 * (z + 1)) ^ 3 % (10 ^ 43 + 57) := Int.emod_nonneg _ (by decide)
      have c2 : (y + 49979687 * (z + 1)) ^ 3 % (10 ^ 43 + 57) < 10 ^ 43 + 57 := Int.emod_lt_of_pos _ (by decide)
      generalize hu : (y + 49979687 * (z + 1)) ^ 3 % (10 ^ 43 + 57) = u at c1 c2
      refine ⟨.int u, congrArg (fun v => some (some (V.int v))) hu, ?_⟩
      refine ⟨_, rfl, r, _, 2, _, rfl, rfl, SqL.of hR1, atI_nat (j := 2) rfl, ?_⟩
      have b4 : (22801763 * (z + 1)).natAbs < 2 ^ 80 := by omega
      refine ⟨_, _, rfl, rfl, wide_mul (a := 40) (b := 40) (by decide) b1 (by decide) (by decide) (by decide), ?_⟩
      have b5 : (u + 22801763 * (z + 1)).natAbs < 2 ^ 150 := by omega
      refine ⟨_, _, rfl, rfl, _, _, rfl, rfl, powW (n := 150) (k := 5) b5 (by decide), ?_⟩
      refine ⟨_, _, rfl, rfl, powW (n := 40) (k := 40) (by decide) (by decide), ?_⟩
      refine ⟨_, _, rfl, rfl, _, _, rfl, rfl, (show (0 : Int) < 10 ^ 40 + 121 by decide), ?_⟩
      refine ⟨_, rfl, _, _, rfl, rfl, wide_div (b := 40) (by decide) (by decide) (by decide) (by decide), ?_⟩
      refine ⟨_, rfl, _, _, rfl, rfl, hm, ?_⟩
      exact q _ _ (Int.emod_nonneg _ (by omega)) (Int.emod_lt_of_pos _ hm) ⟨x, y, z + 1, upd_same, hx, hy, hy2, by omega, by omega⟩ off_upd
def spReel (K : PySem.W.Frag) : Sp := fun vs H Q _ => ∃ (s : Addr) (ns : List Int) (i : Nat), vs = [.ref s, .int (i : Int)] ∧ SqL K H s (ns.map V.int) ∧ ns.length ≤ 63 ∧ i < 100 ∧
  ∀ r H', Same H H' → H r = none → Reel H' r 0 → Q (.ref r) H'
theorem ok__law_reel (bt : Bt mg) (a : At K mg "_law_reel" s__law_reel ["_law_script", "_law_index"]) : Cl P w K mg base 1 "_law_reel" (spReel K) := by
  refine clG a sc__law_reel (fun vs H Q E h => ?_) (fun f cdv A outer s H vs Q hg hr h => ?_)
  · obtain ⟨r, m, n, rfl, _⟩ := h
    rfl
  · obtain ⟨sc, ns, i, rfl, hS, hl, hi, q⟩ := h
    refine ⟨_, (pss_cons (ps_set (i := 2) sc__law_reel.nd rfl (Or.inl rfl) (pe_op op_add pe_int (pe_op op_mulW pe_int (pv 1))))
      (pss_cons (ps_for PassesOwn.never rfl (pi_list (pv 0)) (pg_name (i := 3) sc__law_reel.nd rfl (Or.inl rfl)) (pss_one (ps_set (i := 2) sc__law_reel.nd rfl (Or.inl rfl) (pe_op op_mod (pe_op op_add (pe_op op_mulW (pv 2) pe_int) (pe_op op_mod (pv 3) (pe_op op_add (pe_op op_powW pe_int pe_int) pe_int))) (pe_op op_add (pe_op op_powW pe_int pe_int) pe_int)))))
      (pss_cons (ps_set (i := 3) sc__law_reel.nd rfl (Or.inl rfl) (pe_ifExp (pt_cmpR op_lt (pv 1) (pe_callB call_len_seq (by rfl) bt.m_len (by decide +kernel) (pa_cons (pv 0) pa_nil)) (nomark _)) (pe_callB call_abs (by rfl) bt.m_abs (by decide +kernel) (pa_cons (pe_ix ix_list (pv 0) (pv 1) (fun _ _ => rfl)) pa_nil)) pe_int))
      (pss_one (ps_ret (pe_lst (pa_cons (pe_callB (call_max2 rfl) (by rfl) bt.m_max (by decide +kernel) (pa_cons pe_int (pa_cons (pe_op op_sub (pv 3) (pe_op op_powW pe_int pe_int)) pa_nil))) (pa_cons (pv 2) (pa_cons pe_int pa_nil))))))))), ?_⟩
    -- mixed = 60013 + 53 * index
    refine ⟨_, rfl, _, _, rfl, rfl, wide_mul (a := 40) (b := 40) (by decide) (by omega) (by decide) (by decide) (by decide), _, _, rfl, rfl, ?_⟩
    refine ⟨_, rfl, sc, rfl, ⟨_, hS⟩, for_it (walk_list (xs := ns.map V.int)) (fun _ σ H' => H' = H ∧ ∃ m y3, σ = [some (.ref sc), some (.int (i : Int)), some (.int m), y3] ∧ 0 ≤ m ∧ m < 10 ^ 42)
      ⟨rfl, _, _, rfl, by omega, by omega⟩ (fun _ _ H' _ p => by obtain ⟨rfl, _⟩ := p; exact hS) (fun j x σ H1 H2 hj p y => ?_) (fun σ H1 p => ?_)⟩
    · obtain ⟨rfl, m, y3, rfl, m0, m1⟩ := p
      obtain ⟨rfl, hx⟩ := y
      obtain ⟨c, hc, rfl⟩ : ∃ c, ns[j]? = some c ∧ V.int c = x := by
        rw [List.getElem?_map] at hx
        cases e : ns[j]? with
        | none => rw [e] at hx; cases hx
        | some c => rw [e] at hx; exact ⟨c, rfl, Option.some.inj hx⟩
      have b1 : m.natAbs < 2 ^ 140 := by omega
      refine ⟨_, rfl, _, _, rfl, rfl, wide_mul (a := 140) (b := 40) b1 (by decide) (by decide) (by decide) (by decide), ?_⟩
      refine ⟨_, rfl, _, _, rfl, rfl, powW (n := 40) (k := 43) (by decide) (by decide), _, _, rfl, rfl, ?_⟩
      refine ⟨_, _, rfl, rfl, (show (0 : Int) < 10 ^ 43 + 57 by decide), _, _, rfl, rfl, _, _, rfl, rfl, powW (n := 40) (k := 41) (by decide) (by decide), ?_⟩
      refine ⟨_, _, rfl, rfl, _, _, rfl, rfl, (show (0 : Int) < 10 ^ 41 + 37 by decide), ?_⟩
      have c1 := Int.emod_nonneg (m * 8675311 + c % (10 ^ 43 + 57)) (b := 10 ^ 41 + 37) (by decide)
      have c2 := Int.emod_lt_of_pos (m * 8675311 + c % (10 ^ 43 + 57)) (b := 10 ^ 41 + 37) (by decide)
      refine ⟨rfl, _, _, rfl, c1, ?_⟩
      exact Int.lt_trans c2 (by decide)
    · obtain ⟨rfl, m, y3, rfl, m0, m1⟩ := p
      refine ⟨_, rfl, .ref sc, rfl, sc, _, rfl, .inl hS, _, _, rfl, rfl, _, rfl, ite2 (fun e => ?_) (fun e => ?_)⟩
      · have e0 : (i : Int) < ((ns.map V.int).length : Nat) := of_decide_eq_true e
        rw [List.length_map] at e0
        have hlt : i < ns.length := by omega
        have g : (ns.map V.int)[i]? = some (.int ns[i]) := by
          rw [List.getElem?_map, List.getElem?_eq_getElem hlt]; rfl
        refine ⟨_, rfl, _, rfl, sc, _, (i : Int), _, rfl, rfl, hS, atI_nat g, _, rfl, ?_⟩
        refine ⟨_, rfl, _, _, rfl, rfl, powW (n := 40) (k := 18) (by decide) (by decide), _, _, rfl, rfl, _, _, rfl, .int m, rfl, (by show 3 ≤ sizeLine; decide), fun p np => ?_⟩
        exact q p _ (same_upd np) np ⟨_, m, 0, upd_same, by split <;> omega, m0, m1, by decide, by decide⟩
      · refine ⟨_, rfl, _, _, rfl, rfl, powW (n := 40) (k := 18) (by decide) (by decide), _, _, rfl, rfl, _, _, rfl, .int m, rfl, (by show 3 ≤ sizeLine; decide), fun p np => ?_⟩
        exact q p _ (same_upd np) np ⟨_, m, 0, upd_same, by split <;> omega, m0, m1, by decide, by decide⟩
end
end K66

set_option Elab.async false
set_option linter.all false
set_option maxRecDepth 100000
set_option maxHeartbeats 8000000
namespace K66
open PySem PySem.Spec PyProof.Rows L2 Gd Rm La Cb Pl
section
variable {P : Program} {w : World} {K : PySem.W.Frag} {mg : Str → Option Value} {base : Heap}
/-! ### the program's small tests -/
def spInt : Sp := fun vs H Q _ => ∃ i : Int, vs = [.int i] ∧ Q (.bl true) H
theorem ok_is_an_integer (bt : Bt mg) (a : At K mg "is_an_integer" s_is_an_integer ["value"]) : Cl P w K mg base 1 "is_an_integer" spInt := by
  refine clG a sc_is_an_integer (fun vs H Q E h => ?_) (fun f cdv A outer s H vs Q hg hr h => ?_)
  · obtain ⟨i, rfl, _⟩ := h
    rfl
  · obtain ⟨i, rfl, q⟩ := h
    refine ⟨_, (pss_one (ps_ret (pe_and (pe_callB call_isi (by rfl) bt.m_isinstance (by decide +kernel) (pa_cons (pv 0) (pa_cons (pe_bltn (v := .ty "int") (by rfl) bt.m_int (by decide +kernel) rfl) pa_nil))) (pe_one (pe_not (pe_callB call_isi (by rfl) bt.m_isinstance (by decide +kernel) (pa_cons (pv 0) (pa_cons (pe_bltn (v := .ty "bool") (by rfl) bt.m_bool (by decide +kernel) rfl) pa_nil)))))))), ?_⟩
    refine ⟨_, rfl, _, _, _, _, true, rfl, .ty "int", .base (.int i), kit_ty (by decide +kernel), _, rfl, iteT ?_⟩
    exact ⟨_, rfl, _, _, _, _, false, rfl, .ty "bool", .base (.int i), kit_ty (by decide +kernel), _, rfl, q⟩
theorem down_or_up (d : Bool) : inV (.str (wayS d)) [.str "down", .str "up"] = true := by cases d <;> decide +kernel
def spStep : Sp := fun vs H Q _ => ∃ (a : Addr) (e : Ev), vs = [.ref a] ∧ H a = some (.tup (stV e)) ∧ 0 ≤ e.k ∧ ∀ H', Same H H' → Q (.bl true) H'
theorem ok_is_step (bt : Bt mg) (a : At K mg "is_step" s_is_step ["value"]) (c_is_an_integer : Cl P w K mg base 1 "is_an_integer" spInt) : Cl P w K mg base 2 "is_step" spStep := by
  refine clG a sc_is_step (fun vs H Q E h => ?_) (fun f cdv A outer s H vs Q hg hr h => ?_)
  · obtain ⟨a, e, rfl, _⟩ := h
    rfl
  · obtain ⟨a, e, rfl, ha, h0, q⟩ := h
    refine ⟨_, (pss_cons (ps_if (PW.pt (pw_or (pt_not (pt_val (pe_callB call_isi (by rfl) bt.m_isinstance (by decide +kernel) (pa_cons (pv 0) (pa_cons (pe_bltn (v := .ty "tuple") (by rfl) bt.m_tuple (by decide +kernel) rfl) pa_nil))))) (pw_or1 (pt_cmpR op_ne (pe_callB call_len_seq (by rfl) bt.m_len (by decide +kernel) (pa_cons (pv 0) pa_nil)) pe_int (nomark _))))) (pss_one (ps_ret pe_bl)) pss_nil)
      (pss_cons (ps_asg (pv 0) (pg_tup rfl (pgs_cons (pg_name (i := 1) sc_is_step.nd rfl (Or.inl rfl)) (pgs_cons (pg_name (i := 2) sc_is_step.nd rfl (Or.inl rfl)) pgs_nil))))
      (pss_one (ps_ret (pe_and (pe_cl c_is_an_integer hg hr (by decide) (by rfl) (pa_cons (pv 1) pa_nil)) (pe_and (pe_cmpR op_ge (pv 1) pe_int (nomark _)) (pe_and (pe_callB call_isi (by rfl) bt.m_isinstance (by decide +kernel) (pa_cons (pv 2) (pa_cons (pe_bltn (v := .ty "str") (by rfl) bt.m_str (by decide +kernel) rfl) pa_nil))) (pe_one (pe_cmpR op_in_seq (pv 2) (pe_tup (pa_cons pe_str (pa_cons pe_str pa_nil))) (by rfl)))))))))), ?_⟩
    refine ⟨_, rfl, _, _, _, _, true, rfl, .ty "tuple", .base (.tup ha), kit_ty (by decide +kernel), _, rfl, iteF ?_⟩
    refine ⟨_, rfl, a, _, rfl, .inr (SqT.of ha), rfl, _, rfl, iteF ?_⟩
    refine ⟨_, rfl, a, _, rfl, SqT.of ha, rfl, _, _, rfl, _, _, rfl, rfl, ?_⟩
    refine ⟨_, rfl, _, rfl, _, rfl, iteT ?_⟩
    refine ⟨_, rfl, _, _, rfl, rfl, true, congrArg V.bl (decide_eq_true h0), iteT ?_⟩
    refine ⟨_, rfl, _, _, _, _, true, rfl, .ty "str", .base (.str _), kit_ty (by decide +kernel), _, rfl, iteT ?_⟩
    refine ⟨_, rfl, (by show 2 ≤ sizeLine; decide), fun p np => ?_⟩
    refine ⟨p, _, rfl, .inr (SqT.of upd_same), rfl, rfl, ?_⟩
    have hd := down_or_up e.d
    show Q (.bl (inV (.str (wayS e.d)) [.str "down", .str "up"])) _
    rw [hd]
    exact q _ (same_upd np)
def spEvent : Sp := fun vs H Q _ => ∃ (a : Addr) (e : Ev), vs = [.ref a] ∧ H a = some (.tup (evV e)) ∧ 0 ≤ e.k ∧ ∀ H', Same H H' → Q (.bl true) H'
theorem ok_is_event (bt : Bt mg) (a : At K mg "is_event" s_is_event ["value"]) (c_is_an_integer : Cl P w K mg base 1 "is_an_integer" spInt) (c_is_step : Cl P w K mg base 2 "is_step" spStep) : Cl P w K mg base 3 "is_event" spEvent := by
  refine clG a sc_is_event (fun vs H Q E h => ?_) (fun f cdv A outer s H vs Q hg hr h => ?_)
  · obtain ⟨a, e, rfl, _⟩ := h
    rfl
  · obtain ⟨a, e, rfl, ha, h0, q⟩ := h
    refine ⟨_, (pss_cons (ps_if (PW.pt (pw_or (pt_not (pt_val (pe_callB call_isi (by rfl) bt.m_isinstance (by decide +kernel) (pa_cons (pv 0) (pa_cons (pe_bltn (v := .ty "tuple") (by rfl) bt.m_tuple (by decide +kernel) rfl) pa_nil))))) (pw_or1 (pt_cmpR op_ne (pe_callB call_len_seq (by rfl) bt.m_len (by decide +kernel) (pa_cons (pv 0) pa_nil)) pe_int (nomark _))))) (pss_one (ps_ret pe_bl)) pss_nil)
      (pss_cons (ps_asg (pv 0) (pg_tup rfl (pgs_cons (pg_name (i := 1) sc_is_event.nd rfl (Or.inl rfl)) (pgs_cons (pg_name (i := 2) sc_is_event.nd rfl (Or.inl rfl)) (pgs_cons (pg_name (i := 3) sc_is_event.nd rfl (Or.inl rfl)) pgs_nil)))))
      (pss_one (ps_ret (pe_and (pe_cl c_is_an_integer hg hr (by decide) (by rfl) (pa_cons (pv 1) pa_nil)) (pe_one (pe_cl c_is_step hg hr (by decide) (by rfl) (pa_cons (pe_tup (pa_cons (pv 2) (pa_cons (pv 3) pa_nil))) pa_nil)))))))), ?_⟩
    refine ⟨_, rfl, _, _, _, _, true, rfl, .ty "tuple", .base (.tup ha), kit_ty (by decide +kernel), _, rfl, iteF ?_⟩
    refine ⟨_, rfl, a, _, rfl, .inr (SqT.of ha), rfl, _, rfl, iteF ?_⟩
    refine ⟨_, rfl, a, _, rfl, SqT.of ha, rfl, _, _, rfl, _, _, rfl, _, _, rfl, rfl, ?_⟩
    refine ⟨_, rfl, _, rfl, _, rfl, iteT ?_⟩
    refine ⟨_, rfl, _, rfl, (by show 2 ≤ sizeLine; decide), fun p np => ?_⟩
    exact ⟨p, e, rfl, upd_same, h0, fun H' s' => q H' ((same_upd np).trans s')⟩
def spShort : Sp := fun vs H Q _ => ∃ (a : Addr) (xs : List V), vs = [.ref a] ∧ H a = some (.lst xs) ∧ xs.length ≤ 400 ∧ Q (.bl true) H
theorem ok_is_short_list (bt : Bt mg) (tk : Tok) (m_MOST_EVENTS : mg "MOST_EVENTS" = some (.int 400 tk)) (a : At K mg "is_short_list" s_is_short_list ["value"]) : Cl P w K mg base 1 "is_short_list" spShort := by
  refine clG a sc_is_short_list (fun vs H Q E h => ?_) (fun f cdv A outer s H vs Q hg hr h => ?_)
  · obtain ⟨a, xs, rfl, _⟩ := h
    rfl
  · obtain ⟨a, xs, rfl, ha, hl, q⟩ := h
    refine ⟨_, (pss_one (ps_ret (pe_and (pe_callB call_isi (by rfl) bt.m_isinstance (by decide +kernel) (pa_cons (pv 0) (pa_cons (pe_bltn (v := .ty "list") (by rfl) bt.m_list (by decide +kernel) rfl) pa_nil))) (pe_one (pe_cmpR op_le (pe_callB call_len_seq (by rfl) bt.m_len (by decide +kernel) (pa_cons (pv 0) pa_nil)) (pe_glob (v := .int 400) (by rfl) m_MOST_EVENTS ⟨_, rfl⟩) (nomark _)))))), ?_⟩
    refine ⟨_, rfl, _, _, _, _, true, rfl, .ty "list", .base (.lst ha), kit_ty (by decide +kernel), _, rfl, iteT ?_⟩
    refine ⟨_, rfl, a, _, rfl, .inl (SqL.of ha), _, _, rfl, rfl, ?_⟩
    show Q (.bl (decide ((xs.length : Int) ≤ 400))) H
    rw [decide_eq_true (show (xs.length : Int) ≤ 400 by omega)]
    exact q
def spTurn : Sp := fun vs H Q _ => ∃ (d : Addr) (kvs : List (Key × V)) (k : Int) (b : Bool), vs = [.ref d, .int k, .str (wayS b)] ∧ H d = some (.dK kvs) ∧ kvs.length < sizeLine ∧
  (valV kvs (Sum.inl k)).getD (.bl false) = .bl (!b) ∧ Q (.bl true) (upd H d (.dK (putK kvs (Sum.inl k) (.bl b))))
theorem ok_takes_turn (a : At K mg "takes_turn" s_takes_turn ["held", "key", "way"]) : Cl P w K mg base 1 "takes_turn" spTurn := by
  refine clG a sc_takes_turn (fun vs H Q E h => ?_) (fun f cdv A outer s H vs Q hg hr h => ?_)
  · obtain ⟨d, kvs, k, b, rfl, _⟩ := h
    rfl
  · obtain ⟨d, kvs, k, b, rfl, hd, hl, hv, q⟩ := h
    refine ⟨_, (pss_cons (ps_set (i := 3) sc_takes_turn.nd rfl (Or.inl rfl) (pe_cmpR op_eq (pv 2) pe_str (nomark _)))
      (pss_cons (ps_if (pt_cmpR op_eq (pe_dget2 (hu_of hr) (pv 0) (pv 1) pe_bl ⟨rfl, rfl, rfl, rfl⟩) (pv 3) (nomark _)) (pss_one (ps_ret pe_bl)) pss_nil)
      (pss_cons (ps_dput (hu_of hr) (pv 0) (pv 1) (pv 3) rfl)
      (pss_one (ps_ret pe_bl))))), ?_⟩
    refine ⟨_, rfl, rfl, ?_⟩
    refine ⟨_, rfl, d, rfl, .inl ⟨kvs, .inl hd⟩, _, rfl, _, DGet.k (k := Sum.inl k) hd, ?_⟩
    rw [wayS_down, hv]
    refine ⟨_, rfl, rfl, _, rfl, ?_⟩
    rw [decide_eq_false (fun z => by have := V.bl.inj z; cases b <;> cases this)]
    refine iteF ?_
    exact ⟨_, rfl, _, rfl, _, rfl, d, _, rfl, DPut.k (k := Sum.inl k) hd hl, q⟩
def spBelow : Sp := fun vs H Q _ => ∃ k : Int, vs = [.int k, .non] ∧ Q (.bl true) H
theorem ok_is_below (a : At K mg "is_below" s_is_below ["key", "many"]) : Cl P w K mg base 1 "is_below" spBelow := by
  refine clG a sc_is_below (fun vs H Q E h => ?_) (fun f cdv A outer s H vs Q hg hr h => ?_)
  · obtain ⟨k, rfl, _⟩ := h
    rfl
  · obtain ⟨k, rfl, q⟩ := h
    refine ⟨_, (pss_one (ps_ret (pe_or (pe_cmpR op_isN (pv 1) pe_non (nomark _)) (pe_one (pe_cmpR op_lt (pv 0) (pv 1) (nomark _)))))), ?_⟩
    exact ⟨_, rfl, rfl, _, rfl, iteT q⟩
def spFollow : Sp := fun vs H Q _ => ∃ (b d : Addr) (e : Ev) (l : V) (kvs : List (Key × V)), vs = [.ref b, l, .ref d] ∧ H b = some (.tup (evV e)) ∧
  (l = .non ∨ ∃ (b' : Addr) (e' : Ev), l = .ref b' ∧ H b' = some (.tup (evV e')) ∧ e'.t ≤ e.t) ∧ H d = some (.dK kvs) ∧ kvs.length < sizeLine ∧
  (valV kvs (Sum.inl e.k)).getD (.bl false) = .bl (!e.d) ∧ Q (.bl true) (upd H d (.dK (putK kvs (Sum.inl e.k) (.bl e.d))))
theorem ok_can_follow (a : At K mg "can_follow" s_can_follow ["event", "last", "held"]) (c_takes_turn : Cl P w K mg base 1 "takes_turn" spTurn) : Cl P w K mg base 2 "can_follow" spFollow := by
  refine clG a sc_can_follow (fun vs H Q E h => ?_) (fun f cdv A outer s H vs Q hg hr h => ?_)
  · obtain ⟨b, d, e, l, kvs, rfl, _⟩ := h
    rfl
  · obtain ⟨b, d, e, l, kvs, rfl, hb, hl, hd, hz, hv, q⟩ := h
    refine ⟨_, (pss_cons (ps_if (PW.pt (pw_and (pt_cmpR op_notN (pv 1) pe_non (nomark _)) (pw_and1 (pt_cmpR op_lt (pe_ix ix_tup (pv 0) pe_int (fun _ _ => rfl)) (pe_ix ix_tup (pv 1) pe_int (fun _ _ => rfl)) (nomark _))))) (pss_one (ps_ret pe_bl)) pss_nil)
      (pss_one (ps_ret (pe_cl c_takes_turn hg hr (by decide) (by rfl) (pa_cons (pv 2) (pa_cons (pe_ix ix_tup (pv 0) pe_int (fun _ _ => rfl)) (pa_cons (pe_ix ix_tup (pv 0) pe_int (fun _ _ => rfl)) pa_nil))))))), ?_⟩
    rcases hl with rfl | ⟨b', e', rfl, hb', hle⟩
    · refine ⟨_, rfl, rfl, _, rfl, iteF ?_⟩
      refine ⟨_, rfl, _, rfl, b, _, _, _, rfl, rfl, SqT.of hb, atI_nat (j := 1) rfl, _, rfl, b, _, _, _, rfl, rfl, SqT.of hb, atI_nat (j := 2) rfl, ?_⟩
      exact ⟨d, kvs, e.k, e.d, rfl, hd, hz, hv, q⟩
    · refine ⟨_, rfl, rfl, _, rfl, iteT ?_⟩
      refine ⟨_, rfl, b, _, _, _, rfl, rfl, SqT.of hb, atI_nat (j := 0) rfl, _, rfl, b', _, _, _, rfl, rfl, SqT.of hb', atI_nat (j := 0) rfl, _, _, rfl, rfl, _, rfl, ite2 (fun z => ?_) (fun z => ?_)⟩
      · have z0 : e.t < e'.t := of_decide_eq_true z
        omega
      · refine ⟨_, rfl, _, rfl, b, _, _, _, rfl, rfl, SqT.of hb, atI_nat (j := 1) rfl, _, rfl, b, _, _, _, rfl, rfl, SqT.of hb, atI_nat (j := 2) rfl, ?_⟩
        exact ⟨d, kvs, e.k, e.d, rfl, hd, hz, hv, q⟩
def spCheck : Sp := fun vs H Q _ => ∃ (c : Addr) (es : List Ev), vs = [.ref c, .non] ∧ Lst evV H c es ∧ Valid es ∧ es.length ≤ 400 ∧ ∀ H', Same H H' → Q .non H'
theorem ok_check_record (bt : Bt mg) (a : AtX K mg "check_record" s_check_record ["value", "many"] [.none]) (c_is_short_list : Cl P w K mg base 1 "is_short_list" spShort) (c_is_event : Cl P w K mg base 3 "is_event" spEvent) (c_can_follow : Cl P w K mg base 2 "can_follow" spFollow) (c_is_below : Cl P w K mg base 1 "is_below" spBelow) :
    ClD P w K mg base 4 "check_record" spCheck [.non] := by
  refine clXD a (.cons rfl .nil) sc_check_record (fun vs H Q E h => ?_) (fun f cdv A outer s H vs Q hg hr h => ?_)
  · obtain ⟨a, e, rfl, _⟩ := h
    rfl
  · obtain ⟨c, es, rfl, hL, hV, hl, q⟩ := h
    refine ⟨_, (pss_cons (ps_if (pt_not (pt_val (pe_cl c_is_short_list hg hr (by decide) (by rfl) (pa_cons (pv 0) pa_nil)))) pss_never pss_nil)
      (pss_cons (ps_set (i := 2) sc_check_record.nd rfl (Or.inl rfl) pe_dnewK)
      (pss_one (ps_for PassesOwn.never rfl (pi_enum (by rfl) bt.m_enumerate (pa_cons (pv 0) pa_nil)) (pg_tup rfl (pgs_cons (pg_name (i := 3) sc_check_record.nd rfl (Or.inl rfl)) (pgs_cons (pg_name (i := 4) sc_check_record.nd rfl (Or.inl rfl)) pgs_nil))) (pss_cons (ps_if (PW.pt (pw_or (pt_not (pt_val (pe_cl c_is_event hg hr (by decide) (by rfl) (pa_cons (pv 4) pa_nil)))) (pw_or1 (pt_not (pt_truth (pe_cl c_is_below hg hr (by decide) (by rfl) (pa_cons (pe_ix ix_tup (pv 4) pe_int (fun _ _ => rfl)) (pa_cons (pv 1) pa_nil))) (by intro _; rfl)))))) pss_never pss_nil)
      (pss_one (ps_if (pt_not (pt_val (pe_cl c_can_follow hg hr (by decide) (by rfl) (pa_cons (pv 4) (pa_cons (pe_ifExp (pt_cmpR op_gt (pv 3) pe_int (nomark _)) (pe_ix ix_list (pv 0) (pe_op op_sub (pv 3) pe_int) (fun _ _ => rfl)) pe_non) (pa_cons (pv 2) pa_nil)))))) pss_never pss_nil))))))), ?_⟩
    obtain ⟨as, hc, hT⟩ := hL
    have hlen : (as.map V.ref).length = es.length := by rw [List.length_map]; exact hT.1
    refine ⟨_, rfl, c, _, rfl, hc, by omega, _, rfl, iteF ?_⟩
    intro d nd
    refine ⟨_, rfl, c, _, rfl, SqL.of ((same_upd nd) _ _ hc), for_it (walk_enum (xs := as.map V.ref))
      (fun i σ H' => Same H H' ∧ ∃ kvs y2 y3, σ = [some (.ref c), some .non, some (.ref d), y2, y3] ∧ H' d = some (.dK kvs) ∧ kvs.length ≤ i ∧ HeldK kvs (heldB (es.take i)))
      ⟨same_upd nd, _, _, _, rfl, upd_same, Nat.le_refl _, HeldK.nil⟩ (fun _ _ H' _ p => SqL.of (p.1 _ _ hc)) (fun i x σ H1 H2 hi p y => ?_) (fun σ H1 p => ?_)⟩
    · obtain ⟨s1, kvs, y2, y3, rfl, hd, hkl, hk⟩ := p
      obtain ⟨T, u, v, rfl, nT, rfl, e1, e2⟩ := y
      have hi' : i < es.length := by omega
      obtain ⟨b, hb, hbt⟩ := hT.at_ hi'
      have he : es[i]? = some es[i] := List.getElem?_eq_getElem hi'
      obtain ⟨v1, v2, v3⟩ := hV i _ he
      have e2' : v = .ref b := by
        have e2 : (as.map V.ref)[i]? = some v := e2
        rw [List.getElem?_map, hb] at e2
        exact (Option.some.inj e2).symm
      subst e2'
      have e1' : u = .int (i : Nat) := (Option.some.inj e1).symm
      subst e1'
      have s2 : Same H (upd H1 T (.tup [.int (i : Nat), .ref b])) := s1.trans (same_upd nT)
      have hb2 := s2 _ _ hbt
      refine ⟨T, _, rfl, SqT.of upd_same, rfl, _, _, rfl, _, _, rfl, rfl, ?_⟩
      refine ⟨_, rfl, b, _, rfl, hb2, v1, fun H3 s3 => ?_⟩
      have s4 := s2.trans s3
      have hb4 := s4 _ _ hbt
      refine ⟨_, rfl, iteF ?_⟩
      refine ⟨_, rfl, b, _, _, _, rfl, rfl, SqT.of hb4, atI_nat (j := 1) rfl, _, rfl, es[i].k, rfl, _, rfl, iteF ?_⟩
      have hd4 : H3 d = some (.dK kvs) := s3 _ _ ((same_upd nT) _ _ hd)
      have fin : Same H (upd H3 d (.dK (putK kvs (Sum.inl es[i].k) (.bl es[i].d)))) ∧ ∃ kvs' y2 y3, [some (V.ref c), some V.non, some (V.ref d), some (V.int (i : Nat)), some (V.ref b)] = [some (V.ref c), some V.non, some (V.ref d), y2, y3] ∧
          upd H3 d (.dK (putK kvs (Sum.inl es[i].k) (.bl es[i].d))) d = some (.dK kvs') ∧ kvs'.length ≤ i + 1 ∧ HeldK kvs' (heldB (es.take (i + 1))) := by
        refine ⟨Same.off s4 nd off_upd, _, _, _, rfl, upd_same, ?_, ?_⟩
        · have := put_len kvs (Sum.inl es[i].k) (.bl es[i].d); omega
        · rw [List.take_add_one, he]
          exact hk.put
      have hv : (valV kvs (Sum.inl es[i].k)).getD (.bl false) = .bl (!es[i].d) := by rw [hk.at_, v2]
      have hz : kvs.length < sizeLine := small1000 (by omega)
      refine ⟨_, rfl, _, rfl, _, _, rfl, rfl, _, rfl, ite2 (fun e => ?_) (fun e => ?_)⟩
      · have e0 : (0 : Int) < (i : Nat) := of_decide_eq_true e
        obtain ⟨b', hb', hbt'⟩ := hT.at_ (i := i - 1) (by omega)
        have hle := v3 (i - 1) _ (by omega) (List.getElem?_eq_getElem (by omega))
        have g : (as.map V.ref)[i - 1]? = some (.ref b') := by rw [List.getElem?_map, hb']; rfl
        refine ⟨_, rfl, _, rfl, _, _, rfl, rfl, c, _, _, .ref b', rfl, rfl, SqL.of (s4 _ _ hc), at_of (j := i - 1) (by omega) g, _, rfl, ?_⟩
        exact ⟨b, d, es[i], .ref b', kvs, rfl, hb4, .inr ⟨b', _, rfl, s4 _ _ hbt', hle⟩, hd4, hz, hv, _, rfl, iteF fin⟩
      · exact ⟨_, rfl, b, d, es[i], .non, kvs, rfl, hb4, .inl rfl, hd4, hz, hv, _, rfl, iteF fin⟩
    · exact q _ p.1
end
end K66

set_option Elab.async false
set_option linter.all false
set_option maxRecDepth 100000
set_option maxHeartbeats 8000000
namespace K66
open PySem PySem.Spec PyProof.Rows L2 Gd Rm La Cb Pl
section
variable {P : Program} {w : World} {K : PySem.W.Frag} {mg : Str → Option Value} {base : Heap}
structure RecOk (keys : Int) (size : Nat) (es : List Ev) : Prop where
  valid : Valid es
  len : es.length = size
  key : ∀ e ∈ es, 0 ≤ e.k ∧ e.k < keys
  tick : ∀ e ∈ es, -(10 ^ 20) < e.t ∧ e.t < 10 ^ 20
def spRec : Sp := fun vs H Q _ => ∃ (r g : Addr) (n size : Nat) (keys : Int) (gs : List Int), vs = [.ref r, .int keys, .int (size : Int), .ref g] ∧ Reel H r n ∧ n + 2000 < most ∧ 0 < keys ∧ keys ≤ 1000 ∧ size ≤ 200 ∧
  H g = some (.lst (gs.map V.int)) ∧ g ≠ r ∧ 0 < gs.length ∧ gs.length ≤ 10 ∧ (∀ x ∈ gs, 0 ≤ x ∧ x ≤ 10 ^ 10) ∧
  ∀ (H' : Hp) (p : Addr) (es : List Ev), Off r H H' → H p = none → Reel H' r (n + 1000) → Lst evV H' p es → RecOk keys size es → Q (.ref p) H'
structure RecIn (H0 : Hp) (r g F Dn : Addr) (gs : List Int) (m : Nat) (keys : Int) (i : Nat) (tick : Int) (es : List Ev) (ns : List Int) (H : Hp) : Prop where
  Fr : F ≠ r
  Dr : Dn ≠ r
  FD : F ≠ Dn
  gr : g ≠ r
  nF : H0 F = none
  nD : H0 Dn = none
  gap0 : H0 g = some (.lst (gs.map V.int))
  off : Off r H0 H
  reel : Reel H r m
  gap : H g = some (.lst (gs.map V.int))
  found : Lst evV H F es
  down : H Dn = some (.lst (ns.map V.int))
  ok : RecOk keys i es
  dn : DownOk ns es
  key : ∀ k ∈ ns, 0 ≤ k ∧ k < keys
  nl : ns.length ≤ i
  last : ∀ e ∈ es, e.t ≤ tick
  tk : -(10 ^ 16) ≤ tick ∧ tick ≤ 10 ^ 16 + i * 10 ^ 10
section
variable {H0 H H' : Hp} {r g F Dn : Addr} {gs : List Int} {m m' : Nat} {keys : Int} {i : Nat} {tick : Int} {es : List Ev} {ns : List Int}
theorem RecIn.go (h : RecIn H0 r g F Dn gs m keys i tick es ns H) (o : Off r H H') (R : Reel H' r m') : RecIn H0 r g F Dn gs m' keys i tick es ns H' := by
  obtain ⟨x, y, z, hr, _⟩ := id h.reel
  exact { h with off := h.off.trans o, reel := R, gap := o _ _ h.gap h.gr, found := h.found.off hr h.Fr o, down := o _ _ h.down h.Dr }
theorem RecIn.same (h : RecIn H0 r g F Dn gs m keys i tick es ns H) (o : Same H H') : RecIn H0 r g F Dn gs m keys i tick es ns H' := h.go (Off.of o) (h.reel.same o)
theorem RecIn.push {p : Addr} {ns' : List Int} {e : Ev} (h : RecIn H0 r g F Dn gs m keys i tick es ns H) (np : upd H Dn (.lst (ns'.map V.int)) p = none)
    (dn : DownOk ns' (es ++ [e])) (hv : Valid (es ++ [e])) (hk : 0 ≤ e.k ∧ e.k < keys) (hns : ∀ k ∈ ns', 0 ≤ k ∧ k < keys) (nl : ns'.length ≤ i + 1) (ht : tick ≤ e.t) (tk : e.t ≤ 10 ^ 16 + ((i + 1 : Nat) : Int) * 10 ^ 10) (hi : i < 1000) :
    ∃ as : List Addr, upd (upd H Dn (.lst (ns'.map V.int))) p (.tup (evV e)) F = some (.lst (as.map V.ref)) ∧ as.length = i ∧
      RecIn H0 r g F Dn gs m keys (i + 1) e.t (es ++ [e]) ns' (upd (upd (upd H Dn (.lst (ns'.map V.int))) p (.tup (evV e))) F (.lst (as.map V.ref ++ [.ref p]))) := by
  obtain ⟨x, y, z, hr, hb⟩ := id h.reel
  obtain ⟨as, hF, hT⟩ := h.found
  have gD : g ≠ Dn := ne_of_none h.gap0 h.nD
  have gF : g ≠ F := ne_of_none h.gap0 h.nF
  have hr1 : upd H Dn (.lst (ns'.map V.int)) r = some (.lst [.int x, .int y, .int z]) := by rw [upd_ne h.Dr.symm]; exact hr
  have hF1 : upd H Dn (.lst (ns'.map V.int)) F = some (.lst (as.map V.ref)) := by rw [upd_ne h.FD]; exact hF
  have hg1 : upd H Dn (.lst (ns'.map V.int)) g = some (.lst (gs.map V.int)) := by rw [upd_ne gD]; exact h.gap
  have hT1 : Tups (upd H Dn (.lst (ns'.map V.int))) evV as es := hT.off h.down off_upd
  have hD1 : upd H Dn (.lst (ns'.map V.int)) Dn = some (.lst (ns'.map V.int)) := upd_same
  have o1 : Off r H0 (upd H Dn (.lst (ns'.map V.int))) := h.off.new h.nD
  generalize upd H Dn (.lst (ns'.map V.int)) = H1 at *
  have hF2 := (same_upd (o := .tup (evV e)) np) _ _ hF1
  have hr2 := (same_upd (o := .tup (evV e)) np) _ _ hr1
  have hg2 := (same_upd (o := .tup (evV e)) np) _ _ hg1
  have hD2 := (same_upd (o := .tup (evV e)) np) _ _ hD1
  have hp : upd H1 p (.tup (evV e)) p = some (.tup (evV e)) := upd_same
  have pF : p ≠ F := (ne_of_none hF1 np).symm
  have hl := h.ok.len
  have hal := hT.1
  refine ⟨as, hF2, by omega, ?_⟩
  refine { h with off := (o1.sameTrans (same_upd np)).new h.nF, reel := ⟨x, y, z, by rw [upd_ne h.Fr.symm]; exact hr2, hb⟩, gap := by rw [upd_ne gF]; exact hg2,
                  found := ⟨as ++ [p], by rw [upd_same, List.map_append]; rfl, Tups.snoc ((hT1.same (same_upd np)).off hF2 off_upd) (by rw [upd_ne pF]; exact hp)⟩,
                  down := by rw [upd_ne h.FD.symm]; exact hD2, ok := ⟨hv, by rw [List.length_append, hl]; rfl, fun x hx => ?_, fun x hx => ?_⟩, dn := dn, key := hns, nl := nl, last := fun x hx => ?_, tk := ⟨by have := h.tk.1; omega, tk⟩ }
  · rcases List.mem_append.mp hx with hx | hx
    · exact h.ok.key x hx
    · rw [List.mem_singleton.mp hx]; exact hk
  · rcases List.mem_append.mp hx with hx | hx
    · exact h.ok.tick x hx
    · rw [List.mem_singleton.mp hx]
      have := h.tk.1
      exact ⟨by omega, by omega⟩
  · rcases List.mem_append.mp hx with hx | hx
    · have := h.last x hx; omega
    · rw [List.mem_singleton.mp hx]; exact Int.le_refl _
theorem RecIn.mono (h : RecIn H0 r g F Dn gs m keys i tick es ns H) (l : m ≤ m') : RecIn H0 r g F Dn gs m' keys i tick es ns H := { h with reel := h.reel.mono l }
end
theorem ok__law_record (bt : Bt mg) (a : At K mg "_law_record" s__law_record ["_law_reel_here", "_law_keys", "_law_size", "_law_gaps"]) (c__law_spin : Cl P w K mg base 1 "_law_spin" spSpin) : Cl P w K mg base 2 "_law_record" spRec := by
  refine clG a sc__law_record (fun vs H Q E h => ?_) (fun f cdv A outer s H vs Q hg hr h => ?_)
  · obtain ⟨r, g, n, size, keys, gs, rfl, _⟩ := h
    rfl
  · obtain ⟨r, g, n, size, keys, gs, rfl, hR, hn, hk0, hk1, hs, hG, gr, g0, g1, g2, q⟩ := h
    have hn' : n + 2000 < 1000000000 := hn
    refine ⟨_, (pss_cons (ps_par3 (i := 4) (j := 5) (l := 6) rfl sc__law_record.nd rfl rfl rfl (by decide) (by decide) (by decide) rfl rfl rfl (pa_cons (pe_lst pa_nil) (pa_cons (pe_lst pa_nil) (pa_cons (pe_ix ix_list (pe_lst (pa_cons pe_int (pa_cons (pe_op op_sub pe_int (pe_op op_powW pe_int pe_int)) (pa_cons (pe_cl c__law_spin hg hr (by decide) (by rfl) (pa_cons (pv 0) (pa_cons (pe_op op_powW pe_int pe_int) pa_nil))) pa_nil)))) (pe_cl c__law_spin hg hr (by decide) (by rfl) (pa_cons (pv 0) (pa_cons pe_int pa_nil))) (fun _ _ => rfl)) pa_nil))) (by rfl))
      (pss_cons (ps_for PassesOwn.never rfl (pi_range1 (by rfl) bt.m_range (pa_cons (pv 2) pa_nil)) (pg_name (i := 7) sc__law_record.nd rfl (Or.inl rfl)) (pss_cons (ps_set (i := 8) sc__law_record.nd rfl (Or.inl rfl) (pe_cl c__law_spin hg hr (by decide) (by rfl) (pa_cons (pv 0) (pa_cons (pv 1) pa_nil))))
      (C8.pss_cut (ps_if (PW.pt (pw_and (pt_cmpR (op_neD hr.units) (pv 5) (pe_lst pa_nil) (nomark _)) (pw_and1 (pt_cmpR op_eq (pe_cl c__law_spin hg hr (by decide) (by rfl) (pa_cons (pv 0) (pa_cons pe_int pa_nil))) pe_int (nomark _))))) (pss_one (ps_set (i := 8) sc__law_record.nd rfl (Or.inl rfl) (pe_ix ix_list (pv 5) (pe_cl c__law_spin hg hr (by decide) (by rfl) (pa_cons (pv 0) (pa_cons (pe_callB call_len_seq (by rfl) bt.m_len (by decide +kernel) (pa_cons (pv 5) pa_nil)) pa_nil))) (fun _ _ => rfl)))) pss_nil)
      (pss_cons (ps_set (i := 6) sc__law_record.nd rfl (Or.inl rfl) (pe_op op_add (pv 6) (pe_ix ix_list (pv 3) (pe_cl c__law_spin hg hr (by decide) (by rfl) (pa_cons (pv 0) (pa_cons (pe_callB call_len_seq (by rfl) bt.m_len (by decide +kernel) (pa_cons (pv 3) pa_nil)) pa_nil))) (fun _ _ => rfl))))
      (pss_one (ps_if (pt_cmpR op_in_seq (pv 8) (pv 5) (by rfl)) (pss_cons (ps_expr (pe_bm PySem.F.plainAttrs_list PySem.F.slot_list_remove PySem.F.type_list_remove mt_remove (pv 5) (pa_cons (pv 8) pa_nil)))
      (pss_one (ps_expr (pe_bm PySem.F.plainAttrs_list PySem.F.slot_list_append PySem.F.type_list_append mt_append (pv 4) (pa_cons (pe_tup (pa_cons (pv 6) (pa_cons (pv 8) (pa_cons pe_str pa_nil)))) pa_nil))))) (pss_cons (ps_expr (pe_bm PySem.F.plainAttrs_list PySem.F.slot_list_append PySem.F.type_list_append mt_append (pv 5) (pa_cons (pv 8) pa_nil)))
      (pss_one (ps_expr (pe_bm PySem.F.plainAttrs_list PySem.F.slot_list_append PySem.F.type_list_append mt_append (pv 4) (pa_cons (pe_tup (pa_cons (pv 6) (pa_cons (pv 8) (pa_cons pe_str pa_nil)))) pa_nil)))))))))))
      (pss_one (ps_ret (pv 4))))), ?_⟩
    refine ⟨Nat.zero_le _, fun F nF => ⟨Nat.zero_le _, fun Dn nD => ?_⟩⟩
    have FD : F ≠ Dn := ne_of_none upd_same nD
    have s1 : Same H (upd (upd H F (.lst [])) Dn (.lst [])) := (same_upd nF).trans (same_upd nD)
    have hF1 : upd (upd H F (.lst [])) Dn (.lst []) F = some (.lst []) := by rw [upd_ne FD]; exact upd_same
    have hD1 : upd (upd H F (.lst [])) Dn (.lst []) Dn = some (.lst []) := upd_same
    have nD0 : H Dn = none := (same_upd nF).free nD
    obtain ⟨rx, ry, rz, hr0, _⟩ := id hR
    have Fr : F ≠ r := (ne_of_none hr0 nF).symm
    have Dr : Dn ≠ r := (ne_of_none hr0 nD0).symm
    have Fg : F ≠ g := (ne_of_none hG nF).symm
    have Dg : Dn ≠ g := (ne_of_none hG nD0).symm
    have hR1 := hR.same s1
    generalize upd (upd H F (.lst [])) Dn (.lst []) = H1 at s1 hF1 hD1 hR1
    -- [0, 0 - 10 ** 15, spin][spin]
    refine ⟨_, _, rfl, rfl, powW (n := 40) (k := 15) (by decide) (by decide), _, _, rfl, rfl, ?_⟩
    refine ⟨_, rfl, _, _, rfl, rfl, powW (n := 40) (k := 14) (by decide) (by decide), r, _, n, rfl, by decide, by decide, by show n < 1000000000; omega, hR1, fun d1 H2 d10 d11 hR2 o2 => ?_⟩
    refine ⟨by show 3 ≤ sizeLine; decide, fun L nL => ?_⟩
    refine ⟨_, rfl, r, 3, n + 1, rfl, by decide, by decide, by show n + 1 < 1000000000; omega, hR2.same (same_upd nL), fun d2 H3 d20 d21 hR3 o3 => ?_⟩
    have Lr : L ≠ r := by
      obtain ⟨_, _, _, hr2, _⟩ := id hR2
      exact (ne_of_none hr2 nL).symm
    have hL3 : H3 L = some (.lst ([0, 0 - 10 ^ 15, d1].map V.int)) := o3 _ _ upd_same Lr
    obtain ⟨t0, at0, m0⟩ := getI (ns := [0, 0 - 10 ^ 15, d1]) d20 (by show d2 < 3; exact d21)
    have bt0 : -(10 ^ 16) ≤ t0 ∧ t0 ≤ 10 ^ 16 + ((0 : Nat) : Int) * 10 ^ 10 := by
      have hm := List.mem_of_getElem? m0
      have d11' : d1 < 10 ^ 14 := d11
      simp only [List.mem_cons, List.mem_nil_iff, or_false] at hm
      omega
    have hF3 : Lst evV H3 F [] := by
      obtain ⟨_, _, _, hr2, _⟩ := id hR2
      refine ⟨[], ?_, Tups.nil⟩
      exact o3 _ _ ((same_upd nL) _ _ (o2 _ _ hF1 Fr)) Fr
    have hD3 : H3 Dn = some (.lst (([] : List Int).map V.int)) := o3 _ _ ((same_upd nL) _ _ (o2 _ _ hD1 Dr)) Dr
    have hG3 : H3 g = some (.lst (gs.map V.int)) := o3 _ _ ((same_upd nL) _ _ (o2 _ _ (s1 _ _ hG) gr)) gr
    have I0 : RecIn H r g F Dn gs (n + 2 + 4 * 0) keys 0 t0 [] [] H3 :=
      ⟨Fr, Dr, FD, gr, nF, nD0, hG, (Off.of s1).trans (o2.trans ((Off.of (same_upd nL)).trans o3)), hR3, hG3, hF3, hD3,
        ⟨Valid.nil, rfl, fun e h => by simp at h, fun e h => by simp at h⟩, DownOk.nil, fun k h => by simp at h, Nat.le_refl _, fun e h => by simp at h, bt0⟩
    refine ⟨L, _, d2, .int t0, rfl, rfl, SqL.of hL3, at0, _, _, _, rfl, ?_⟩
    refine ⟨_, rfl, (size : Int), rfl, by omega, by omega, for_it walk_range (fun i σ H' => ∃ tick es ns y7 y8, σ = [some (.ref r), some (.int keys), some (.int (size : Int)), some (.ref g), some (.ref F), some (.ref Dn), some (.int tick), y7, y8] ∧
      RecIn H r g F Dn gs (n + 2 + 4 * i) keys i tick es ns H') ⟨t0, [], [], _, _, rfl, I0⟩ (fun _ _ _ _ _ => True.intro) (fun i x σ H4 H5 hi p y => ?_) (fun σ H4 p => ?_)⟩
    · obtain ⟨tick, es, ns, y7, y8, rfl, R⟩ := p
      obtain ⟨rfl, rfl⟩ := y
      have hi' : i < size := by omega
      -- key = spin(reel, keys)
      refine ⟨_, rfl, _, rfl, r, keys, n + 2 + 4 * i, rfl, hk0, Int.lt_of_le_of_lt hk1 (by decide), by show _ < 1000000000; omega, R.reel, fun k H5 k0 k1 R5 o5 => ?_⟩
      have R1 := R.go o5 R5
      clear R R5 o5
      refine ⟨fun σ' H' => ∃ k : Int, σ' = [some (.ref r), some (.int keys), some (.int (size : Int)), some (.ref g), some (.ref F), some (.ref Dn), some (.int tick), some (.int (0 + (i : Int))), some (.int k)] ∧ 0 ≤ k ∧ k < keys ∧ RecIn H r g F Dn gs (n + 2 + 4 * i + 3) keys i tick es ns H', ?_, ?_⟩
      · -- if down != [] and spin(reel, 2) == 0
        refine ⟨_, rfl, Nat.zero_le _, fun e ne => ?_⟩
        have R2 := R1.same (same_upd (o := .lst []) ne)
        refine ⟨_, _, .lst (SqL.of R2.down) (dpInts ns), .lst (SqL.of upd_same) .nil, shaped_ints ns, shaped_nil, _, rfl, ?_⟩
        rw [eqv_nil]
        cases ns with
        | nil => exact iteF (iteF ⟨k, rfl, k0, k1, R2.mono (by omega)⟩)
        | cons d0 dr =>
          refine iteT ⟨_, rfl, r, 2, n + 2 + 4 * i + 1, rfl, by decide, by decide, by show _ < 1000000000; omega, R2.reel, fun b H6 b0 b1 R6 o6 => ⟨rfl, _, rfl, ite2 (fun z => ?_) (fun z => ?_)⟩⟩
          · have R3 := R2.go o6 R6
            refine ⟨_, rfl, _, rfl, _, rfl, Dn, _, rfl, .inl (SqL.of R3.down), r, _, n + 2 + 4 * i + 1 + 1, rfl, ?_, ?_, by show _ < 1000000000; omega, R3.reel, fun c H7 c0 c1 R7 o7 => ?_⟩
            · rw [List.length_map, List.length_cons]; omega
            · have := R3.nl
              rw [List.length_map]
              have h2 : (10 : Int) ^ 40 > 1000 := by decide
              omega
            · have R4 := R3.go o7 R7
              rw [List.length_map] at c1
              obtain ⟨k', ak, mk⟩ := getI (ns := d0 :: dr) c0 c1
              have hk' := R4.key k' (List.mem_of_getElem? mk)
              exact ⟨Dn, _, c, _, rfl, rfl, SqL.of R4.down, ak, k', rfl, hk'.1, hk'.2, R4.mono (by omega)⟩
          · exact ⟨k, rfl, k0, k1, (R2.go o6 R6).mono (by omega)⟩
      · rintro σ' H' ⟨k, rfl, k0, k1, R⟩
        refine ⟨_, rfl, _, rfl, _, rfl, _, rfl, g, _, rfl, .inl (SqL.of R.gap), r, _, n + 2 + 4 * i + 3, rfl, ?_, ?_, by show _ < 1000000000; omega, R.reel, fun c H6 c0 c1 R6 o6 => ?_⟩
        · rw [List.length_map]; omega
        · rw [List.length_map]
          have h2 : (10 : Int) ^ 40 > 1000 := by decide
          omega
        · have R2 := R.go o6 R6
          rw [List.length_map] at c1
          obtain ⟨dv, adv, mdv⟩ := getI (ns := gs) c0 c1
          have hdv := g2 dv (List.mem_of_getElem? mdv)
          refine ⟨g, _, c, _, rfl, rfl, SqL.of R2.gap, adv, _, _, rfl, rfl, ?_⟩
          have htk := R2.tk
          have hup : tick + dv ≤ 10 ^ 16 + ((i + 1 : Nat) : Int) * 10 ^ 10 := by
            have e : ((i + 1 : Nat) : Int) * 10 ^ 10 = (i : Int) * 10 ^ 10 + 10 ^ 10 := by rw [Int.natCast_add, Int.add_mul]; rfl
            omega
          refine ⟨_, rfl, _, rfl, Dn, _, rfl, .inl (SqL.of R2.down), rfl, flat_ints ns, _, rfl, ?_⟩
          show (if inV (.int k) (ns.map V.int) = true then _ else _)
          rw [inv_int]
          have hlast : ∀ e' ∈ es, e'.t ≤ tick + dv := fun e' he => by have := R2.last e' he; omega
          have eqm : n + 2 + 4 * (i + 1) = n + 2 + 4 * i + 3 + 1 := by omega
          refine ite2 (fun z => ?_) (fun z => ?_)
          · have zm : k ∈ ns := of_decide_eq_true z
            obtain ⟨j, hj⟩ := List.getElem?_of_mem zm
            refine ⟨_, rfl, .inl ⟨rfl, _, SqL.of R2.down⟩, _, rfl, Dn, ns, k, j, rfl, rfl, R2.down, hj, first_ix R2.dn.nd hj, ?_⟩
            have hF := R2.found
            refine ⟨_, rfl, ?_, _, rfl, _, rfl, (by show 3 ≤ sizeLine; decide), fun p np => ?_⟩
            · obtain ⟨as, hFa, _⟩ := hF
              exact .inl ⟨rfl, _, SqL.of (by rw [upd_ne R2.FD]; exact hFa)⟩
            · obtain ⟨as, h1, h2, R3⟩ := R2.push (e := ⟨tick + dv, k, false⟩) np (R2.dn.up hj) (R2.ok.valid.snoc k0 ((R2.dn.mem k).mp zm) hlast) ⟨k0, k1⟩
                (fun x hx => R2.key x ((mem_eraseIdx R2.dn.nd hj x).mp hx).2) (by have := R2.nl; have := List.length_eraseIdx_le ns j; omega) (by show tick ≤ tick + dv; omega) hup (by omega)
              refine ⟨F, _, .ref p, rfl, rfl, h1, by rw [List.length_map, h2]; exact small1000 (by omega), tick + dv, es ++ [⟨tick + dv, k, false⟩], ns.eraseIdx j, _, _, rfl, ?_⟩
              rw [eqm]
              exact R3
          · have zm : ¬ k ∈ ns := fun q => z (decide_eq_true q)
            refine ⟨_, rfl, .inl ⟨rfl, _, SqL.of R2.down⟩, _, rfl, Dn, _, .int k, rfl, rfl, R2.down, by rw [List.length_map]; have := R2.nl; exact small1000 (by omega), ?_⟩
            have hF := R2.found
            have emap : (ns.map V.int) ++ [V.int k] = (ns ++ [k]).map V.int := by rw [List.map_append]; rfl
            rw [emap]
            refine ⟨_, rfl, ?_, _, rfl, _, rfl, (by show 3 ≤ sizeLine; decide), fun p np => ?_⟩
            · obtain ⟨as, hFa, _⟩ := hF
              exact .inl ⟨rfl, _, SqL.of (by rw [upd_ne R2.FD]; exact hFa)⟩
            · obtain ⟨as, h1, h2, R3⟩ := R2.push (e := ⟨tick + dv, k, true⟩) np (R2.dn.down zm) (R2.ok.valid.snoc k0 (R2.dn.not zm) hlast) ⟨k0, k1⟩
                (fun x hx => by
                  rcases List.mem_append.mp hx with hx | hx
                  · exact R2.key x hx
                  · rw [List.mem_singleton.mp hx]; exact ⟨k0, k1⟩) (by rw [List.length_append]; have := R2.nl; simp; omega) (by show tick ≤ tick + dv; omega) hup (by omega)
              refine ⟨F, _, .ref p, rfl, rfl, h1, by rw [List.length_map, h2]; exact small1000 (by omega), tick + dv, es ++ [⟨tick + dv, k, true⟩], ns ++ [k], _, _, rfl, ?_⟩
              rw [eqm]
              exact R3
    · obtain ⟨tick, es, ns, y7, y8, rfl, R⟩ := p
      have e : ((size : Int)).toNat = size := Int.toNat_natCast size
      rw [e] at R
      exact ⟨_, rfl, q H4 F es R.off nF (R.reel.mono (by omega)) R.found R.ok⟩
end
end K66

set_option Elab.async false
set_option linter.all false
set_option maxRecDepth 100000
set_option maxHeartbeats 8000000
namespace K66
open PySem PySem.Spec PyProof.Rows L2 Gd Rm La Cb Pl
/-! ### a crowd -/
structure CrH (H0 : Hp) (r Ks F Dn : Addr) (m : Nat) (ks : List Int) (es : List Ev) (ns : List Int) (H : Hp) : Prop where
  Fr : F ≠ r
  Dr : Dn ≠ r
  Kr : Ks ≠ r
  FD : F ≠ Dn
  KF : Ks ≠ F
  KD : Ks ≠ Dn
  nF : H0 F = none
  nD : H0 Dn = none
  nK : H0 Ks = none
  off : Off r H0 H
  reel : Reel H r m
  keys : H Ks = some (.lst (ks.map V.int))
  found : Lst evV H F es
  down : H Dn = some (.lst (ns.map V.int))
section
variable {H0 H H' : Hp} {r Ks F Dn : Addr} {m m' : Nat} {ks ns ns' ks' : List Int} {es : List Ev}
theorem CrH.go (h : CrH H0 r Ks F Dn m ks es ns H) (o : Off r H H') (R : Reel H' r m') : CrH H0 r Ks F Dn m' ks es ns H' := by
  obtain ⟨x, y, z, hr, _⟩ := id h.reel
  exact { h with off := h.off.trans o, reel := R, keys := o _ _ h.keys h.Kr, found := h.found.off hr h.Fr o, down := o _ _ h.down h.Dr }
theorem CrH.same (h : CrH H0 r Ks F Dn m ks es ns H) (o : Same H H') : CrH H0 r Ks F Dn m ks es ns H' := h.go (Off.of o) (h.reel.same o)
theorem CrH.mono (h : CrH H0 r Ks F Dn m ks es ns H) (l : m ≤ m') : CrH H0 r Ks F Dn m' ks es ns H := { h with reel := h.reel.mono l }
theorem CrH.setDown (h : CrH H0 r Ks F Dn m ks es ns H) : CrH H0 r Ks F Dn m ks es ns' (upd H Dn (.lst (ns'.map V.int))) := by
  obtain ⟨x, y, z, hr, hb⟩ := id h.reel
  exact { h with off := h.off.new h.nD, reel := ⟨x, y, z, by rw [upd_ne h.Dr.symm]; exact hr, hb⟩, keys := by rw [upd_ne h.KD]; exact h.keys,
                 found := h.found.off h.down h.FD off_upd, down := upd_same }
theorem CrH.setKeys (h : CrH H0 r Ks F Dn m ks es ns H) : CrH H0 r Ks F Dn m ks' es ns (upd H Ks (.lst (ks'.map V.int))) := by
  obtain ⟨x, y, z, hr, hb⟩ := id h.reel
  exact { h with off := h.off.new h.nK, reel := ⟨x, y, z, by rw [upd_ne h.Kr.symm]; exact hr, hb⟩, down := by rw [upd_ne h.KD.symm]; exact h.down,
                 found := h.found.off h.keys h.KF.symm off_upd, keys := upd_same }
theorem CrH.append {p : Addr} {e : Ev} (h : CrH H0 r Ks F Dn m ks es ns H) (np : H p = none) : ∃ as : List Addr, upd H p (.tup (evV e)) F = some (.lst (as.map V.ref)) ∧ as.length = es.length ∧
    CrH H0 r Ks F Dn m ks (es ++ [e]) ns (upd (upd H p (.tup (evV e))) F (.lst (as.map V.ref ++ [.ref p]))) := by
  obtain ⟨as, hF, hT⟩ := h.found
  have h1 := h.same (same_upd (o := .tup (evV e)) np)
  obtain ⟨x, y, z, hr, hb⟩ := id h1.reel
  have hF1 := (same_upd (o := .tup (evV e)) np) _ _ hF
  have pF : p ≠ F := (ne_of_none hF np).symm
  refine ⟨as, hF1, hT.1, { h1 with off := h1.off.new h.nF, reel := ⟨x, y, z, by rw [upd_ne h.Fr.symm]; exact hr, hb⟩, keys := by rw [upd_ne h.KF]; exact h1.keys, down := (by rw [upd_ne h.FD.symm]; exact h1.down), found := ⟨as ++ [p], by rw [upd_same, List.map_append]; rfl, Tups.snoc ((hT.same (same_upd np)).off hF1 off_upd) (by rw [upd_ne pF]; exact upd_same)⟩ }⟩
end
structure CrOk (ks : List Int) (i : Nat) (tick : Int) (es : List Ev) (ns : List Int) : Prop where
  inks : ∀ e ∈ es, e.k ∈ ks
  valid : Valid es
  dn : DownOk ns es
  sub : ∀ k, heldB es k = true → k ∈ ks.take i
  len : es.length ≤ 2 * i
  nl : ns.length ≤ i
  key : ∀ e ∈ es, 0 ≤ e.k ∧ e.k < 10 ^ 30
  last : ∀ e ∈ es, e.t ≤ tick
  low : ∀ e ∈ es, -(10 ^ 20) < e.t
  tk : -(10 ^ 16) ≤ tick ∧ tick ≤ 10 * (i : Int)
theorem eraseIdx_map (f : Int → V) : ∀ (ns : List Int) (j : Nat), (ns.map f).eraseIdx j = (ns.eraseIdx j).map f
  | [], _ => rfl
  | _ :: _, 0 => rfl
  | n :: ns, j + 1 => by
    show f n :: (ns.map f).eraseIdx j = f n :: (ns.eraseIdx j).map f
    rw [eraseIdx_map f ns j]
theorem CrOk.down {ks : List Int} {i : Nat} {tick d : Int} {es : List Ev} {ns : List Int} {k : Int} (h : CrOk ks i tick es ns) (nd : ks.Nodup) (hk : ks[i]? = some k) (k0 : 0 ≤ k ∧ k < 10 ^ 30) (d0 : 0 ≤ d) (d1 : d < 5) (hi : i < 100) :
    ¬ k ∈ ns ∧ Valid (es ++ [⟨tick + d, k, true⟩]) ∧ DownOk (ns ++ [k]) (es ++ [⟨tick + d, k, true⟩]) ∧ (∀ x, heldB (es ++ [⟨tick + d, k, true⟩]) x = true → x ∈ ks.take (i + 1)) ∧ (∀ e ∈ es ++ [⟨tick + d, k, true⟩], (0 ≤ e.k ∧ e.k < 10 ^ 30) ∧ e.t ≤ tick + d ∧ -(10 ^ 20) < e.t) ∧
    (es ++ [(⟨tick + d, k, true⟩ : Ev)]).length ≤ 2 * i + 1 ∧ (ns ++ [k]).length ≤ i + 1 ∧ -(10 ^ 16) ≤ tick + d ∧ tick + d ≤ 10 * ((i + 1 : Nat) : Int) := by
  have hb : heldB es k = false := by
    cases e : heldB es k with
    | false => rfl
    | true =>
      obtain ⟨j, hj⟩ := List.getElem?_of_mem (h.sub k e)
      have hji : j < i := by
        rcases Nat.lt_or_ge j i with q | q
        · exact q
        · rw [List.getElem?_eq_none (by rw [List.length_take]; omega)] at hj; cases hj
      rw [List.getElem?_take_of_lt hji] at hj
      have := nd_ix nd hj hk
      omega
  have nk : ¬ k ∈ ns := fun m => by rw [(h.dn.mem k).mp m] at hb; cases hb
  have hl : ∀ e ∈ es, e.t ≤ tick + d := fun e he => by have := h.last e he; omega
  have htk := h.tk
  refine ⟨nk, h.valid.snoc k0.1 (by show heldB es k = !true; rw [hb]; rfl) hl, h.dn.down nk, fun x hx => ?_, fun e he => ?_, ?_, ?_, by omega, by omega⟩
  · rw [heldB_snoc] at hx
    unfold after at hx
    rw [List.take_add_one, hk]
    by_cases z : x = k
    · subst z; simp
    · rw [if_neg (show ¬ x = (⟨tick + d, k, true⟩ : Ev).k from z)] at hx
      exact List.mem_append.mpr (.inl (h.sub x hx))
  · rcases List.mem_append.mp he with he | he
    · exact ⟨h.key e he, hl e he, h.low e he⟩
    · rw [List.mem_singleton.mp he]
      exact ⟨k0, Int.le_refl _, by show -(10 ^ 20) < tick + d; omega⟩
  · rw [List.length_append]; have := h.len; simp; omega
  · rw [List.length_append]; have := h.nl; simp; omega
def Pk (j : Nat) (k : Int) : Prop := k = 7 * (j : Int) ∨ k = 10 ^ 12 + (j : Int) ∨ k = 10 ^ 30 - 1 - (j : Int)
theorem pk_inj {j j' : Nat} {k : Int} (h : Pk j k) (h' : Pk j' k) (a : j < 60) (b : j' < 60) : j = j' := by
  unfold Pk at h h'
  omega
structure KsOk (i : Nat) (ks : List Int) : Prop where
  nd : ks.Nodup
  len : ks.length = i
  at_ : ∀ k ∈ ks, ∃ j, j < i ∧ Pk j k
theorem KsOk.insert {i a : Nat} {ks : List Int} {k : Int} (h : KsOk i ks) (hk : Pk i k) (hi : i < 60) : KsOk (i + 1) (ks.take a ++ [k] ++ ks.drop a) := by
  have p : (ks.take a ++ [k] ++ ks.drop a).Perm (k :: ks) := by
    have e : ks.take a ++ [k] ++ ks.drop a = ks.take a ++ k :: ks.drop a := by simp
    rw [e]
    refine List.perm_middle.trans ?_
    rw [List.take_append_drop]
  refine ⟨p.nodup_iff.mpr (List.nodup_cons.mpr ⟨fun m => ?_, h.nd⟩), by rw [p.length_eq, List.length_cons, h.len], fun x hx => ?_⟩
  · obtain ⟨j, hj, hp⟩ := h.at_ k m
    have := pk_inj hk hp hi (by omega)
    omega
  · rcases List.mem_cons.mp (p.mem_iff.mp hx) with rfl | hx
    · exact ⟨i, by omega, hk⟩
    · obtain ⟨j, hj, hp⟩ := h.at_ x hx
      exact ⟨j, by omega, hp⟩
theorem pk_bound {j : Nat} {k : Int} (h : Pk j k) (a : j < 60) : 0 ≤ k ∧ k < 10 ^ 30 := by
  unfold Pk at h
  omega
section
variable {P : Program} {w : World} {K : PySem.W.Frag} {mg : Str → Option Value} {base : Heap}
structure CrowdOk (es : List Ev) : Prop where
  few : ∃ ds : List Int, ds.length < 64 ∧ ∀ e ∈ es, e.k ∈ ds
  valid : Valid es
  len : es.length ≤ 150
  key : ∀ e ∈ es, 0 ≤ e.k ∧ e.k < 10 ^ 30
  tick : ∀ e ∈ es, -(10 ^ 20) < e.t ∧ e.t < 10 ^ 20
def spCrowd : Sp := fun vs H Q _ => ∃ (r : Addr) (n : Nat), vs = [.ref r] ∧ Reel H r n ∧ n + 2000 < most ∧
  ∀ (H' : Hp) (p : Addr) (es : List Ev), Off r H H' → H p = none → Reel H' r (n + 1000) → Lst evV H' p es → CrowdOk es → Q (.ref p) H'
theorem ok__law_crowd (bt : Bt mg) (a : At K mg "_law_crowd" s__law_crowd ["_law_reel_here"]) (c__law_spin : Cl P w K mg base 1 "_law_spin" spSpin) : Cl P w K mg base 2 "_law_crowd" spCrowd := by
  refine clG a sc__law_crowd (fun vs H Q E h => ?_) (fun f cdv A outer s H vs Q hg hr h => ?_)
  · obtain ⟨r, n, rfl, _⟩ := h
    rfl
  · obtain ⟨r, n, rfl, hR, hn, q⟩ := h
    have hn' : n + 2000 < 1000000000 := hn
    refine ⟨_, (pss_cons (ps_asg (pe_tup (pa_cons (pe_lst pa_nil) (pa_cons (pe_lst pa_nil) (pa_cons (pe_lst pa_nil) (pa_cons (pe_op op_sub pe_int (pe_cl c__law_spin hg hr (by decide) (by rfl) (pa_cons (pv 0) (pa_cons (pe_op op_powW pe_int pe_int) pa_nil)))) pa_nil))))) (pg_tup rfl (pgs_cons (pg_name (i := 1) sc__law_crowd.nd rfl (Or.inl rfl)) (pgs_cons (pg_name (i := 2) sc__law_crowd.nd rfl (Or.inl rfl)) (pgs_cons (pg_name (i := 3) sc__law_crowd.nd rfl (Or.inl rfl)) (pgs_cons (pg_name (i := 4) sc__law_crowd.nd rfl (Or.inl rfl)) pgs_nil))))))
      (pss_cons (ps_for PassesOwn.never rfl (pi_range1 (by rfl) bt.m_range (pa_cons (pe_op op_add pe_int (pe_cl c__law_spin hg hr (by decide) (by rfl) (pa_cons (pv 0) (pa_cons pe_int pa_nil)))) pa_nil)) (pg_name (i := 5) sc__law_crowd.nd rfl (Or.inl rfl)) (pss_one (ps_expr (pe_bm PySem.F.plainAttrs_list PySem.F.slot_list_insert PySem.F.type_list_insert mt_insert (pv 1) (pa_cons (pe_cl c__law_spin hg hr (by decide) (by rfl) (pa_cons (pv 0) (pa_cons (pe_op op_add (pv 5) pe_int) pa_nil))) (pa_cons (pe_ix ix_list (pe_lst (pa_cons (pe_op op_mulW pe_int (pv 5)) (pa_cons (pe_op op_add (pe_op op_powW pe_int pe_int) (pv 5)) (pa_cons (pe_op op_sub (pe_op op_sub (pe_op op_powW pe_int pe_int) pe_int) (pv 5)) pa_nil)))) (pe_cl c__law_spin hg hr (by decide) (by rfl) (pa_cons (pv 0) (pa_cons pe_int pa_nil))) (fun _ _ => rfl)) pa_nil))))))
      (pss_cons (ps_for PassesOwn.never rfl (pi_list (pv 1)) (pg_name (i := 6) sc__law_crowd.nd rfl (Or.inl rfl)) (pss_cons (ps_set (i := 4) sc__law_crowd.nd rfl (Or.inl rfl) (pe_op op_add (pv 4) (pe_cl c__law_spin hg hr (by decide) (by rfl) (pa_cons (pv 0) (pa_cons pe_int pa_nil)))))
      (pss_cons (ps_expr (pe_bm PySem.F.plainAttrs_list PySem.F.slot_list_append PySem.F.type_list_append mt_append (pv 2) (pa_cons (pe_tup (pa_cons (pv 4) (pa_cons (pv 6) (pa_cons pe_str pa_nil)))) pa_nil)))
      (pss_cons (ps_expr (pe_bm PySem.F.plainAttrs_list PySem.F.slot_list_append PySem.F.type_list_append mt_append (pv 3) (pa_cons (pv 6) pa_nil)))
      (pss_one (ps_if (pt_cmpR op_eq (pe_cl c__law_spin hg hr (by decide) (by rfl) (pa_cons (pv 0) (pa_cons pe_int pa_nil))) pe_int (nomark _)) (pss_one (ps_expr (pe_bm PySem.F.plainAttrs_list PySem.F.slot_list_append PySem.F.type_list_append mt_append (pv 2) (pa_cons (pe_tup (pa_cons (pv 4) (pa_cons (pe_bm PySem.F.plainAttrs_list PySem.F.slot_list_pop PySem.F.type_list_pop mt_popAt (pv 3) (pa_cons (pe_cl c__law_spin hg hr (by decide) (by rfl) (pa_cons (pv 0) (pa_cons (pe_callB call_len_seq (by rfl) bt.m_len (by decide +kernel) (pa_cons (pv 3) pa_nil)) pa_nil))) pa_nil)) (pa_cons pe_str pa_nil)))) pa_nil)))) pss_nil))))))
      (pss_one (ps_ret (pv 2)))))), ?_⟩
    refine ⟨Nat.zero_le _, fun Ks nK => ⟨Nat.zero_le _, fun F nF => ⟨Nat.zero_le _, fun Dn nD => ?_⟩⟩⟩
    have nF0 : H F = none := (same_upd nK).free nF
    have s2 : Same H (upd (upd H Ks (.lst [])) F (.lst [])) := (same_upd nK).trans (same_upd nF)
    have nD0 : H Dn = none := s2.free nD
    have KF : Ks ≠ F := ne_of_none upd_same nF
    have FD : F ≠ Dn := ne_of_none upd_same nD
    have KD : Ks ≠ Dn := ne_of_none ((same_upd nF) _ _ upd_same) nD
    obtain ⟨rx, ry, rz, hr0, _⟩ := id hR
    have Fr : F ≠ r := (ne_of_none hr0 nF0).symm
    have Dr : Dn ≠ r := (ne_of_none hr0 nD0).symm
    have Kr : Ks ≠ r := (ne_of_none hr0 nK).symm
    have C0 : CrH H r Ks F Dn n [] [] [] (upd (upd (upd H Ks (.lst [])) F (.lst [])) Dn (.lst [])) :=
      ⟨Fr, Dr, Kr, FD, KF, KD, nF0, nD0, nK, Off.of (s2.trans (same_upd nD)), hR.same (s2.trans (same_upd nD)), (by rw [upd_ne KD, upd_ne KF]; exact upd_same), ⟨[], by rw [upd_ne FD]; exact upd_same, Tups.nil⟩, upd_same⟩
    generalize upd (upd (upd H Ks (.lst [])) F (.lst [])) Dn (.lst []) = H1 at C0
    refine ⟨_, rfl, _, _, rfl, rfl, powW (n := 40) (k := 15) (by decide) (by decide), r, _, n, rfl, by decide, by decide, by show n < 1000000000; omega, C0.reel, fun d1 H2 d10 d11 R2 o2 => ⟨_, _, rfl, rfl, (by show 4 ≤ sizeLine; decide), fun T nT => ⟨T, _, rfl, SqT.of upd_same, rfl, _, _, rfl, _, _, rfl, _, _, rfl, _, _, rfl, rfl, ?_⟩⟩⟩
    have d11' : d1 < 10 ^ 15 := d11
    have C1 := (C0.go o2 R2).same (same_upd (o := .tup [.ref Ks, .ref F, .ref Dn, .int (0 - d1)]) nT)
    generalize upd H2 T (.tup [.ref Ks, .ref F, .ref Dn, .int (0 - d1)]) = H3 at C1
    refine ⟨_, rfl, r, 60, n + 1, rfl, by decide, by decide, by show n + 1 < 1000000000; omega, C1.reel, fun cnt H4 c0 c1 R4 o4 => ⟨_, _, rfl, rfl, 1 + cnt, rfl, by omega, by omega, ?_⟩⟩
    have C2 := C1.go o4 R4
    have eN : (1 + cnt).toNat ≤ 60 := by omega
    generalize (1 + cnt).toNat = N at eN
    refine for_it walk_range (fun i σ H' => ∃ ks y5 y6, σ = [some (.ref r), some (.ref Ks), some (.ref F), some (.ref Dn), some (.int (0 - d1)), y5, y6] ∧ CrH H r Ks F Dn (n + 2 + 2 * i) ks [] [] H' ∧ KsOk i ks) ⟨[], _, _, rfl, C2, List.nodup_nil, rfl, fun k h => by simp at h⟩ (fun _ _ _ _ _ => True.intro) (fun i x σ H5 H6 hi p y => ?_) (fun σ H5 p => ?_)
    · obtain ⟨ks, y5, y6, rfl, C, kk⟩ := p
      obtain ⟨rfl, rfl⟩ := y
      refine ⟨_, rfl, .inl ⟨rfl, _, SqL.of C.keys⟩, _, rfl, _, rfl, _, _, rfl, rfl, r, _, n + 2 + 2 * i, rfl, by omega, ?_, by show _ < 1000000000; omega, C.reel, fun ia H6 a0 a1 R6 o6 => ?_⟩
      · have h2 : (10 : Int) ^ 40 > 1000 := by decide
        omega
      · have C3 := C.go o6 R6
        have ja : ((0 : Int) + (i : Int) + 1) = ((i + 1 : Nat) : Int) := by omega
        refine ⟨_, rfl, _, _, rfl, rfl, wide_mul (i := 7) (j := 0 + (i : Int)) (a := 40) (b := 40) (by decide) (by omega) (by decide) (by decide) (by decide), _, _, rfl, rfl, powW (i := 10) (n := 40) (k := 12) (by decide) (by decide), _, rfl, _, _, rfl, rfl, _, _, rfl, rfl, powW (i := 10) (n := 40) (k := 30) (by decide) (by decide), _, _, rfl, rfl, _, rfl, _, _, rfl, rfl, (by show 3 ≤ sizeLine; decide), fun L nL => ?_⟩
        have C4 := C3.same (same_upd (o := .lst [.int (7 * (0 + (i : Int))), .int (10 ^ 12 + (0 + (i : Int))), .int (10 ^ 30 - 1 - (0 + (i : Int)))]) nL)
        refine ⟨_, rfl, r, 3, n + 2 + 2 * i + 1, rfl, by decide, by decide, by show _ < 1000000000; omega, C4.reel, fun b H7 b0 b1 R7 o7 => ?_⟩
        have C5 := C4.go o7 R7
        have Lr : L ≠ r := by
          obtain ⟨_, _, _, hr2, _⟩ := id C3.reel
          exact (ne_of_none hr2 nL).symm
        have hL : H7 L = some (.lst ([7 * (0 + (i : Int)), 10 ^ 12 + (0 + (i : Int)), 10 ^ 30 - 1 - (0 + (i : Int))].map V.int)) := o7 _ _ upd_same Lr
        obtain ⟨k, ak, mk⟩ := getI (ns := [7 * (0 + (i : Int)), 10 ^ 12 + (0 + (i : Int)), 10 ^ 30 - 1 - (0 + (i : Int))]) b0 (by show b < 3; exact b1)
        have pk : Pk i k := by
          have hm := List.mem_of_getElem? mk
          simp only [List.mem_cons, List.mem_nil_iff, or_false] at hm
          unfold Pk
          omega
        refine ⟨L, _, b, .int k, rfl, rfl, SqL.of hL, ak, Ks, _, ia, .int k, rfl, rfl, C5.keys, by rw [List.length_map, kk.len]; exact small1000 (by omega), a0, by omega, ?_⟩
        have em : (ks.map V.int).take ia.toNat ++ [V.int k] ++ (ks.map V.int).drop ia.toNat = (ks.take ia.toNat ++ [k] ++ ks.drop ia.toNat).map V.int := by
          rw [List.map_append, List.map_append, List.map_take, List.map_drop]; rfl
        rw [em]
        refine ⟨ks.take ia.toNat ++ [k] ++ ks.drop ia.toNat, _, _, rfl, ?_, kk.insert pk (by omega)⟩
        have e2 : n + 2 + 2 * (i + 1) = n + 2 + 2 * i + 1 + 1 := by omega
        rw [e2]
        exact C5.setKeys
    · obtain ⟨ks, y5, y6, rfl, C, kk⟩ := p
      refine ⟨_, rfl, Ks, rfl, ⟨_, SqL.of C.keys⟩, for_it (walk_list (xs := ks.map V.int)) (fun i σ H' => ∃ tick es ns y5 y6, σ = [some (.ref r), some (.ref Ks), some (.ref F), some (.ref Dn), some (.int tick), y5, y6] ∧ CrH H r Ks F Dn (n + 200 + 4 * i) ks es ns H' ∧ CrOk ks i tick es ns)
        ⟨_, [], [], _, _, rfl, C.mono (by omega), fun e h => by simp at h, Valid.nil, DownOk.nil, fun k h => by simp [heldB] at h, Nat.zero_le _, Nat.zero_le _, fun e h => by simp at h, fun e h => by simp at h, fun e h => by simp at h, by omega, by omega⟩ (fun i σ H' _ p => by obtain ⟨_, _, _, _, _, _, C, _⟩ := p; exact SqL.of C.keys) (fun i x σ H6 H7 hi p y => ?_) (fun σ H6 p => ?_)⟩
      · obtain ⟨tick, es, ns, y5, y6, rfl, C, O⟩ := p
        obtain ⟨rfl, hx⟩ := y
        have hi' : i < ks.length := by rw [List.length_map] at hi; exact hi
        have hN : ks.length ≤ 60 := by rw [kk.len]; exact eN
        have hx' := List.getElem?_eq_getElem hi'
        have ex : V.int ks[i] = x := Option.some.inj ((get_map_int hx').symm.trans hx)
        subst ex
        generalize hk : ks[i] = k at hx'
        obtain ⟨j, hj, pk⟩ := kk.at_ k (List.mem_of_getElem? hx')
        have bk := pk_bound pk (by omega)
        refine ⟨_, rfl, _, rfl, r, 5, n + 200 + 4 * i, rfl, by decide, by decide, by show _ < 1000000000; omega, C.reel, fun d H7 d0 d1 R7 o7 => ⟨_, _, rfl, rfl, ?_⟩⟩
        have C1 := C.go o7 R7
        obtain ⟨nk, hv, hdn, hsub, hall, hlen, hnl, tk1, tk2⟩ := O.down kk.nd hx' bk d0 d1 (by omega)
        have inD : ∀ e ∈ es ++ [⟨tick + d, k, true⟩], e.k ∈ ks := fun e he => by
          rcases List.mem_append.mp he with he | he
          · exact O.inks e he
          · rw [List.mem_singleton.mp he]; exact List.mem_of_getElem? hx'
        obtain ⟨as0, hF0, _⟩ := C1.found
        refine ⟨_, rfl, .inl ⟨rfl, _, SqL.of hF0⟩, _, rfl, _, rfl, (by show 3 ≤ sizeLine; decide), fun p np => ?_⟩
        obtain ⟨as, h1, h2, C2⟩ := C1.append (e := ⟨tick + d, k, true⟩) np
        have hol := O.len
        have honl := O.nl
        refine ⟨F, _, .ref p, rfl, rfl, h1, by rw [List.length_map, h2]; exact small1000 (by omega), ?_⟩
        refine ⟨_, rfl, .inl ⟨rfl, _, SqL.of C2.down⟩, _, rfl, Dn, _, .int k, rfl, rfl, C2.down, by rw [List.length_map]; exact small1000 (by omega), ?_⟩
        have emap : (ns.map V.int) ++ [V.int k] = (ns ++ [k]).map V.int := by rw [List.map_append]; rfl
        rw [emap]
        have C3 := C2.setDown (ns' := ns ++ [k])
        refine ⟨_, rfl, r, 3, n + 200 + 4 * i + 1, rfl, by decide, by decide, by show _ < 1000000000; omega, C3.reel, fun b H8 b0 b1 R8 o8 => ⟨rfl, _, rfl, ite2 (fun z => ?_) (fun z => ?_)⟩⟩
        · have C4 := C3.go o8 R8
          obtain ⟨as4, hF4, _⟩ := C4.found
          refine ⟨_, rfl, .inl ⟨rfl, _, SqL.of hF4⟩, _, rfl, _, rfl, .inl ⟨rfl, _, SqL.of C4.down⟩, _, rfl, _, rfl, Dn, _, rfl, .inl (SqL.of C4.down), r, _, n + 200 + 4 * i + 1 + 1, rfl, ?_, ?_, by show _ < 1000000000; omega, C4.reel, fun c H9 c0 c1 R9 o9 => ?_⟩
          · rw [List.length_map, List.length_append, List.length_singleton]; omega
          · have h2 : (10 : Int) ^ 40 > 1000 := by decide
            rw [List.length_map]
            omega
          · have C5 := C4.go o9 R9
            rw [List.length_map] at c1
            obtain ⟨k2, ak, mk⟩ := getI (ns := ns ++ [k]) c0 c1
            obtain ⟨j2, s1, s2, s3, s4, s5⟩ := atI_get ak
            have sj : j2 = c.toNat := by
              have := seqIndex_of c0 (n := ((ns ++ [k]).map V.int).length) (by rw [List.length_map]; exact c1)
              rw [s1] at this
              exact Option.some.inj this
            subst sj
            refine ⟨Dn, _, c, c.toNat, .int k2, rfl, rfl, C5.down, by omega, by omega, s1, s2, ?_⟩
            rw [eraseIdx_map]
            have C6 := C5.setDown (ns' := (ns ++ [k]).eraseIdx c.toNat)
            refine ⟨(by show 3 ≤ sizeLine; decide), fun p2 np2 => ?_⟩
            obtain ⟨as2, g1, g2, C7⟩ := C6.append (e := ⟨tick + d, k2, false⟩) np2
            have hk2 : heldB (es ++ [⟨tick + d, k, true⟩]) k2 = true := (hdn.mem k2).mp (List.mem_of_getElem? mk)
            obtain ⟨e2, he2, ek2⟩ := held_mem hk2
            have bk2 := (hall e2 he2).1
            rw [ek2] at bk2
            refine ⟨F, _, .ref p2, rfl, rfl, g1, by rw [List.length_map, g2]; exact small1000 (by omega), tick + d, es ++ [⟨tick + d, k, true⟩] ++ [⟨tick + d, k2, false⟩], (ns ++ [k]).eraseIdx c.toNat, _, _, rfl, ?_, ?_⟩
            · rw [show n + 200 + 4 * (i + 1) = n + 200 + 4 * i + 1 + 1 + 1 + 1 by omega]
              exact C7.mono (by omega)
            · have inD2 : ∀ e ∈ es ++ [⟨tick + d, k, true⟩] ++ [⟨tick + d, k2, false⟩], e.k ∈ ks := fun e he => by
                rcases List.mem_append.mp he with he | he
                · exact inD e he
                · rw [List.mem_singleton.mp he]
                  show k2 ∈ ks
                  rw [← ek2]
                  exact inD e2 he2
              refine ⟨inD2, hv.snoc bk2.1 hk2 (fun e he => (hall e he).2.1), hdn.up mk, fun x hx => ?_, ?_, ?_, fun e he => ?_, fun e he => ?_, fun e he => ?_, tk1, tk2⟩
              · rw [heldB_snoc] at hx
                unfold after at hx
                by_cases z2 : x = k2
                · subst z2
                  simp at hx
                · rw [if_neg (show ¬ x = (⟨tick + d, k2, false⟩ : Ev).k from z2)] at hx
                  exact hsub x hx
              · rw [List.length_append]; simp only [List.length_cons, List.length_nil]; omega
              · have := List.length_eraseIdx_le (ns ++ [k]) c.toNat; omega
              · rcases List.mem_append.mp he with he | he
                · exact (hall e he).1
                · rw [List.mem_singleton.mp he]; exact bk2
              · rcases List.mem_append.mp he with he | he
                · exact (hall e he).2.1
                · rw [List.mem_singleton.mp he]; exact Int.le_refl _
              · rcases List.mem_append.mp he with he | he
                · exact (hall e he).2.2
                · rw [List.mem_singleton.mp he]; show -(10 ^ 20) < tick + d; omega
        · refine ⟨tick + d, es ++ [⟨tick + d, k, true⟩], ns ++ [k], _, _, rfl, ?_, ?_⟩
          · exact (C3.go o8 R8).mono (by omega)
          · exact ⟨inD, hv, hdn, hsub, by omega, hnl, fun e he => (hall e he).1, fun e he => (hall e he).2.1, fun e he => (hall e he).2.2, tk1, tk2⟩
      · obtain ⟨tick, es, ns, y5, y6, rfl, C, O⟩ := p
        rw [List.length_map] at C O
        have hN : ks.length ≤ 60 := by rw [kk.len]; exact eN
        have h1 := O.len
        have h2 := O.tk
        refine ⟨_, rfl, q H6 F es C.off nF0 (C.reel.mono (by omega)) C.found ⟨⟨ks, by omega, O.inks⟩, O.valid, by omega, O.key, fun e he => ⟨O.low e he, ?_⟩⟩⟩
        have := O.last e he
        omega
end
end K66

set_option Elab.async false
set_option linter.all false
set_option maxRecDepth 100000
set_option maxHeartbeats 8000000
namespace K66
open PySem PySem.Spec PyProof.Rows L2 Gd Rm La Cb Pl
section
variable {P : Program} {w : World} {K : PySem.W.Frag} {mg : Str → Option Value} {base : Heap}
def BadC (c : Str) : Prop := 1 ≤ c.cps.size ∧ c.cps.size ≤ 8 ∧ ∃ x ∈ c.cps.toList, x ∉ signs.cps.toList
def spCode : Sp := fun vs H Q _ => ∃ c : Str, vs = [.str c] ∧ CodeOk c ∧ ∀ H', Same H H' → Q (.bl true) H'
def spCode2 : Sp := fun vs H Q _ => ∃ (c : Str) (b : Bool), vs = [.str c] ∧ (b = true ∧ CodeOk c ∨ b = false ∧ BadC c) ∧ ∀ H', Same H H' → Q (.bl b) H'
theorem all_code {c : Str} {b : Bool} (h : b = true ∧ CodeOk c ∨ b = false ∧ BadC c) : (c.cps.toList.map fun x => decide (x ∈ signs.cps.toList)).all id = b := by
  rcases h with ⟨rfl, h⟩ | ⟨rfl, _, _, x, hx, hn⟩
  · rw [List.all_eq_true]
    intro y hy
    obtain ⟨x, hx, rfl⟩ := List.mem_map.mp hy
    exact decide_eq_true (h.2.2 x hx)
  · rw [List.all_eq_false]
    exact ⟨_, List.mem_map.mpr ⟨x, hx, rfl⟩, by rw [decide_eq_false hn]; decide⟩
theorem ok_is_code2 (bt : Bt mg) {tk1 tk2 : Tok} (m_MOST_SIGNS : mg "MOST_SIGNS" = some (.int 8 tk1)) (m_CODE_SIGNS : mg "CODE_SIGNS" = some (.str "abcdefghijklmnopqrstuvwxyz0123456789" tk2)) (a : At K mg "is_code" s_is_code ["value"]) : Cl P w K mg base 1 "is_code" spCode2 := by
  refine clG a sc_is_code (fun vs H Q E h => ?_) (fun f cdv A outer s H vs Q hg hr h => ?_)
  · obtain ⟨c, b, rfl, _⟩ := h
    rfl
  · obtain ⟨c, b, rfl, hc, q⟩ := h
    refine ⟨_, (pss_cons (ps_if (PW.pt (pw_or (pt_not (pt_val (pe_callB call_isi (by rfl) bt.m_isinstance (by decide +kernel) (pa_cons (pv 0) (pa_cons (pe_bltn (v := .ty "str") (by rfl) bt.m_str (by decide +kernel) rfl) pa_nil))))) (pw_or1 (pt_not (pt_chain op_le op_le pe_int (pe_callB call_len_str (by rfl) bt.m_len (by decide +kernel) (pa_cons (pv 0) pa_nil)) (pe_glob (v := .int 8) (by rfl) m_MOST_SIGNS ⟨_, rfl⟩)))))) (pss_one (ps_ret pe_bl)) pss_nil)
      (pss_one (ps_ret (pe_callB (cr_all rfl) (by rfl) bt.m_all (by decide +kernel) (pa_cons (pe_lc (own := [("sign", 1)]) (g := (gName 1)) (by rfl) sc_is_code.nd (pi_str (pv 0)) (blkOk_by (N := n_is_code) (sc := defScope s_is_code) (by decide +kernel)) (fun _ _ _ _ _ => (pg_name (i := 1) sc_is_code.nd rfl (Or.inl rfl))) (fun _ _ _ _ _ => pts_nil) (fun _ _ _ _ _ => (pe_cmpR op_in_sign (pv 1) (pe_glob (v := .str "abcdefghijklmnopqrstuvwxyz0123456789") (by rfl) m_CODE_SIGNS ⟨_, rfl⟩) rfl))) pa_nil))))), ?_⟩
    have e1 : (c.length : Int) = (c.cps.size : Int) := rfl
    have h18 : 1 ≤ c.cps.size ∧ c.cps.size ≤ 8 := by rcases hc with ⟨_, h⟩ | ⟨_, h⟩ <;> exact ⟨h.1, h.2.1⟩
    obtain ⟨h1, h8⟩ := h18
    have hcl : c.cps.toList.length = c.cps.size := Array.length_toList
    refine ⟨_, rfl, _, _, _, _, true, rfl, .ty "str", .base (.str _), kit_ty (by decide +kernel), _, rfl, iteF ?_⟩
    refine ⟨_, rfl, c, rfl, (by rw [sizeLine_eq]; have : c.length = c.cps.size := rfl; omega), _, _, rfl, rfl, true, congrArg V.bl (decide_eq_true (by omega)), iteT ⟨_, _, rfl, rfl, true, congrArg V.bl (decide_eq_true (by omega)), ?_⟩⟩
    refine iteF ⟨_, rfl, c, rfl, fun L nL => lc_it (walk_str (z := c)) (fun i H' => H' = upd H L (.lst (((c.cps.toList.take i).map fun x => decide (x ∈ signs.cps.toList)).map V.bl))) rfl (fun _ _ _ _ => True.intro) (fun i x H2 H3 hi p y => ?_) (fun H2 p => ?_)⟩
    · obtain ⟨rfl, d, hd, rfl⟩ := y
      subst p
      have hd' : c.cps.toList[i]? = some d := by rw [Array.getElem?_toList]; exact hd
      refine ⟨rfl, ⟨_, rfl, d, signs, rfl, rfl, _, upd_same, ?_, ?_⟩⟩
      · rw [List.length_map, List.length_map, List.length_take]; exact small1000 (by omega)
      · rw [upd_upd, List.take_add_one, hd', List.map_append, List.map_append]; rfl
    · subst p
      refine ⟨L, _, rfl, SqL.of upd_same, ?_⟩
      rw [List.take_of_length_le (by show c.cps.toList.length ≤ c.cps.size; omega), all_code hc]
      exact q _ (same_upd nL)
theorem ok_is_code {P : Program} {w : World} {K : PySem.W.Frag} {mg : Str → Option Value} {base : Heap} (c : Cl P w K mg base 1 "is_code" spCode2) : Cl P w K mg base 1 "is_code" spCode :=
  c.imp fun vs H Q E h => by
    obtain ⟨c, rfl, hc, q⟩ := h
    exact ⟨c, true, rfl, .inl ⟨rfl, hc⟩, q⟩
end
end K66

set_option Elab.async false
set_option linter.all false
set_option maxRecDepth 100000
set_option maxHeartbeats 8000000
namespace K66
open PySem PySem.Spec PyProof.Rows L2 Gd Rm La Cb Pl
/-- a new layout, all its rows new and each one for itself -/
structure Fresh (H0 : Hp) (D : Addr) (L : List (List Actn)) (H : Hp) : Prop where
  same : Same H0 H
  ls : ∃ rs : List Addr, H D = some (.lst (rs.map V.ref)) ∧ Rows H rs L ∧ rs.Nodup ∧ ∀ r ∈ rs, H0 r = none ∧ r ≠ D
theorem Fresh.start {H0 : Hp} {D : Addr} (n : H0 D = none) : Fresh H0 D [] (upd H0 D (.lst [])) :=
  ⟨same_upd n, [], upd_same, ⟨rfl, fun i r row h _ => by simp at h⟩, List.nodup_nil, fun r h => by simp at h⟩
theorem row_upd {H : Hp} {r p : Addr} {xs : List Actn} {ys zs : List V} (h : Row H r xs) (hp : H p = some (.lst ys)) (n : r ≠ p) : Row (upd H p (.lst zs)) r xs := by
  obtain ⟨vs, a, b⟩ := h
  exact ⟨vs, by rw [upd_ne n]; exact a, b.keep (tk_upd hp)⟩
theorem Rows.snoc {H : Hp} {rs : List Addr} {L : List (List Actn)} {r : Addr} {row : List Actn} (h : Rows H rs L) (hr : Row H r row) : Rows H (rs ++ [r]) (L ++ [row]) := by
  refine ⟨by rw [List.length_append, List.length_append, h.1]; rfl, fun i u y a b => ?_⟩
  have hl := h.1
  rcases Nat.lt_or_ge i rs.length with q | q
  · rw [List.getElem?_append_left q] at a
    rw [List.getElem?_append_left (by omega)] at b
    exact h.2 i u y a b
  · have hi : i = rs.length := by
      have := (List.getElem?_eq_some_iff.mp a).1
      rw [List.length_append] at this
      simp at this
      omega
    subst hi
    rw [List.getElem?_append_right (Nat.le_refl _), Nat.sub_self] at a
    rw [List.getElem?_append_right (by omega), show rs.length - L.length = 0 by omega] at b
    have e1 : r = u := Option.some.inj a
    have e2 : row = y := Option.some.inj b
    subst e1 e2
    exact hr
theorem Fresh.more {H0 H : Hp} {D p : Addr} {L : List (List Actn)} {row : List Actn} {vs : List V} (g : Fresh H0 D L H) (nD : H0 D = none) (np : H p = none) (ha : Acts H vs row) :
    ∃ acc : List V, upd H p (.lst vs) D = some (.lst acc) ∧ acc.length = L.length ∧ Fresh H0 D (L ++ [row]) (upd (upd H p (.lst vs)) D (.lst (acc ++ [.ref p]))) := by
  obtain ⟨s, rs, h, hR, nd, hn⟩ := g
  have Dp : D ≠ p := ne_of_none h np
  have h1 : upd H p (.lst vs) D = some (.lst (rs.map V.ref)) := (same_upd np) _ _ h
  have p0 : H0 p = none := s.free np
  refine ⟨rs.map V.ref, h1, by rw [List.length_map]; exact hR.1, Same.off (s.trans (same_upd np)) nD off_upd, rs ++ [p], ?_, ?_, ?_, fun r hr => ?_⟩
  · rw [upd_same, List.map_append]; rfl
  · refine Rows.snoc ⟨hR.1, fun i r row' a b => row_upd ((hR.2 i r row' a b).same (same_upd np)) h1 (hn r (List.mem_of_getElem? a)).2⟩ ⟨vs, ?_, (ha.keep (Tk.of (same_upd np))).keep (tk_upd h1)⟩
    rw [upd_ne Dp.symm]
    exact upd_same
  · refine List.nodup_append.mpr ⟨nd, List.nodup_cons.mpr ⟨by simp, List.nodup_nil⟩, fun a ha' b hb e => ?_⟩
    have hb : b = p := List.mem_singleton.mp hb
    subst hb
    subst e
    obtain ⟨i, hi⟩ := List.getElem?_of_mem ha'
    have hil := (List.getElem?_eq_some_iff.mp hi).1
    obtain ⟨vs', hv, _⟩ := hR.2 i a _ hi (List.getElem?_eq_getElem (by rw [← hR.1]; exact hil))
    rw [np] at hv
    cases hv
  · rcases List.mem_append.mp hr with q | q
    · exact hn r q
    · rw [List.mem_singleton.mp q]; exact ⟨p0, Dp.symm⟩
theorem Fresh.set {H0 H : Hp} {D r : Addr} {L : List (List Actn)} {rs : List Addr} {row : List Actn} {vs : List V} {i j : Nat} {v : V} {x : Actn} (s : Same H0 H) (h : H D = some (.lst (rs.map V.ref))) (hR : Rows H rs L) (nd : rs.Nodup) (hn : ∀ r ∈ rs, H0 r = none ∧ r ≠ D)
    (hi : rs[i]? = some r) (hL : L[i]? = some row) (hv : H r = some (.lst vs)) (ha : Acts H vs row) (hx : ActV H x v) : Fresh H0 D (L.set i (row.set j x)) (upd H r (.lst (vs.set j v))) := by
  have nr := hn r (List.mem_of_getElem? hi)
  have hil := (List.getElem?_eq_some_iff.mp hL).1
  refine ⟨Same.off s nr.1 off_upd, rs, ?_, ⟨by rw [List.length_set]; exact hR.1, fun k r' row' a b => ?_⟩, nd, hn⟩
  · rw [upd_ne nr.2.symm]; exact h
  · by_cases z : i = k
    · subst z
      rw [List.getElem?_set_self hil] at b
      have e : row.set j x = row' := Option.some.inj b
      subst e
      rw [hi] at a
      have e : r = r' := Option.some.inj a
      subst e
      exact ⟨vs.set j v, upd_same, (ha.set hx).keep (tk_upd hv)⟩
    · rw [List.getElem?_set_ne z] at b
      refine row_upd (hR.2 k r' row' a b) hv fun e => z ?_
      subst e
      exact nd_ix nd hi a
def setA (L : List (List Actn)) (i j : Nat) (x : Actn) : List (List Actn) := L.set i ((L[i]?.getD []).set j x)
theorem setA_at {L : List (List Actn)} {i j : Nat} {x : Actn} {row : List Actn} (h : L[i]? = some row) : setA L i j x = L.set i (row.set j x) := by unfold setA; rw [h]; rfl
theorem signs_len : signs.cps.toList.length = 36 := by decide +kernel
theorem getS {d : Int} (h0 : 0 ≤ d) (h1 : d < 36) : ∃ c, atI signs.cps.toList d = some c ∧ c ∈ signs.cps.toList := by
  have hl := signs_len
  obtain ⟨k, rfl⟩ : ∃ k : Nat, d = (k : Int) := ⟨d.toNat, by omega⟩
  have hd : k < signs.cps.toList.length := by omega
  exact ⟨signs.cps.toList[k], atI_nat (List.getElem?_eq_getElem hd), List.getElem_mem hd⟩
def codes14 : List Str := ["a", "b", "x", "1", "esc", "none", "through", "press", "tap", "hold", "code", "layer", "q9", "zzzzzzzz"]
def codes8 : List Str := ["00000000", "0", "lock", "once", "dual", "release", "down", "up"]
theorem codes_ok : ∀ c ∈ codes14 ++ codes8, CodeOk c := by decide +kernel
theorem codes_len : (codes14 ++ codes8).length = 22 := rfl
theorem getC {d : Int} (h0 : 0 ≤ d) (h1 : d < 22) : ∃ c, atI (codes14.map V.str ++ codes8.map V.str) d = some (.str c) ∧ CodeOk c := by
  have hl := codes_len
  have hd : d.toNat < (codes14 ++ codes8).length := by omega
  refine ⟨(codes14 ++ codes8)[d.toNat], ?_, codes_ok _ (List.getElem_mem hd)⟩
  rw [← List.map_append]
  refine at_of (j := d.toNat) (by omega) ?_
  rw [List.getElem?_map, List.getElem?_eq_getElem hd]
  rfl
theorem getW {ws : List Str} {d : Int} (h0 : 0 ≤ d) (h1 : d < (ws.length : Int)) : ∃ c, atI (ws.map V.str) d = some (.str c) ∧ c ∈ ws := by
  have hd : d.toNat < ws.length := by omega
  refine ⟨ws[d.toNat], ?_, List.getElem_mem hd⟩
  refine at_of (j := d.toNat) (by omega) ?_
  rw [List.getElem?_map, List.getElem?_eq_getElem hd]
  rfl
theorem sum_one : ∀ cs : List Nat, ((cs.map fun c => (⟨#[c]⟩ : Str)).map fun x => x.length).sum = cs.length
  | [] => rfl
  | c :: r => by
    have ih := sum_one r
    rw [List.map_cons, List.map_cons, List.sum_cons, ih, List.length_cons]
    show 1 + r.length = _
    omega
theorem Reel.tk {H H' : Hp} {r : Addr} {n : Nat} (h : Reel H r n) (o : Off r H H') : Tk H H' := fun b xs e => o _ _ e (by
  obtain ⟨x, y, z, hr, _⟩ := h
  exact ne_of e hr (by intro q; cases q))
section
variable {P : Program} {w : World} {K : PySem.W.Frag} {mg : Str → Option Value} {base : Heap}
def spLCode : Sp := fun vs H Q _ => ∃ (r : Addr) (n : Nat), vs = [.ref r] ∧ Reel H r n ∧ n + 100 < most ∧
  ∀ (H' : Hp) (c : Str), Off r H H' → Reel H' r (n + 20) → CodeOk c → Q (.str c) H'
theorem ok__law_code (bt : Bt mg) (a : At K mg "_law_code" s__law_code ["_law_reel_here"]) (c__law_spin : Cl P w K mg base 1 "_law_spin" spSpin) : Cl P w K mg base 2 "_law_code" spLCode := by
  refine clG a sc__law_code (fun vs H Q E h => ?_) (fun f cdv A outer s H vs Q hg hr h => ?_)
  · obtain ⟨r, n, rfl, _⟩ := h
    rfl
  · obtain ⟨r, n, rfl, hR, hn, q⟩ := h
    have hn : n + 100 < 1000000000 := hn
    refine ⟨_, (pss_cons (ps_set (i := 1) sc__law_code.nd rfl (Or.inl rfl) (pe_lst (pa_cons pe_str (pa_cons pe_str (pa_cons pe_str (pa_cons pe_str (pa_cons pe_str (pa_cons pe_str (pa_cons pe_str (pa_cons pe_str (pa_cons pe_str (pa_cons pe_str (pa_cons pe_str (pa_cons pe_str (pa_cons pe_str (pa_cons pe_str pa_nil))))))))))))))))
      (pss_cons (ps_set (i := 1) sc__law_code.nd rfl (Or.inl rfl) (pe_op op_cat (pv 1) (pe_lst (pa_cons pe_str (pa_cons pe_str (pa_cons pe_str (pa_cons pe_str (pa_cons pe_str (pa_cons pe_str (pa_cons pe_str (pa_cons pe_str pa_nil)))))))))))
      (pss_cons (ps_set (i := 2) sc__law_code.nd rfl (Or.inl rfl) (pe_cl c__law_spin hg hr (by decide) (by rfl) (pa_cons (pv 0) (pa_cons pe_int pa_nil))))
      (pss_cons (ps_if (pt_cmpR op_lt (pv 2) pe_int (nomark _)) (pss_one (ps_ret (pe_ix ix_list (pv 1) (pv 2) (fun _ _ => rfl)))) pss_nil)
      (pss_cons (ps_asg (pe_tup (pa_cons (pe_op op_add pe_int (pe_cl c__law_spin hg hr (by decide) (by rfl) (pa_cons (pv 0) (pa_cons pe_int pa_nil)))) (pa_cons pe_str pa_nil))) (pg_tup rfl (pgs_cons (pg_name (i := 3) sc__law_code.nd rfl (Or.inl rfl)) (pgs_cons (pg_name (i := 4) sc__law_code.nd rfl (Or.inr rfl)) pgs_nil))))
      (pss_one (ps_ret (pe_bm PySem.F.plainAttrs_str PySem.F.slot_str_join PySem.F.type_str_join mt_join pe_str (pa_cons (pe_lc (own := [("_law_turn", 5)]) (g := (gName 5)) (by rfl) sc__law_code.nd (pi_range1 (by rfl) bt.m_range (pa_cons (pv 3) pa_nil)) (blkOk_by (N := n__law_code) (sc := defScope s__law_code) (by decide +kernel)) (fun _ _ _ _ _ => (pg_name (i := 5) sc__law_code.nd rfl (Or.inl rfl))) (fun _ _ _ _ _ => pts_nil) (fun _ _ _ _ _ => (pe_ix ix_str (pv 4) (pe_cl c__law_spin hg hr (by decide) (by rfl) (pa_cons (pv 0) (pa_cons pe_int pa_nil))) (fun _ _ => rfl)))) pa_nil))))))))), ?_⟩
    refine ⟨(by show 14 ≤ sizeLine; decide), fun S nS => ⟨_, rfl, (by show 8 ≤ sizeLine; decide), fun T nT => ⟨S, T, _, _, rfl, rfl, (same_upd nT) _ _ upd_same, upd_same, (by show 14 + 8 ≤ sizeLine; decide), fun U nU => ?_⟩⟩⟩
    have s1 : Same H (upd (upd (upd H S (.lst (codes14.map V.str))) T (.lst (codes8.map V.str))) U (.lst (codes14.map V.str ++ codes8.map V.str))) := ((same_upd nS).trans (same_upd nT)).trans (same_upd nU)
    have hU : upd (upd (upd H S (.lst (codes14.map V.str))) T (.lst (codes8.map V.str))) U (.lst (codes14.map V.str ++ codes8.map V.str)) U = some (.lst (codes14.map V.str ++ codes8.map V.str)) := upd_same
    have hN : H U = none := ((same_upd nS).trans (same_upd nT)).free nU
    refine (fun (G : ∀ H1, Same H H1 → H1 U = some (.lst (codes14.map V.str ++ codes8.map V.str)) → _) => G _ s1 hU) (fun H1 s1 hU => ?_)
    have R1 := hR.same s1
    have Ur : U ≠ r := by
      obtain ⟨_, _, _, hr2, _⟩ := id hR
      exact (ne_of_none hr2 hN).symm
    refine ⟨_, rfl, r, 27, n, rfl, by decide, by decide, by show _ < 1000000000; omega, R1, fun d H2 d0 d1 R2 o2 => ?_⟩
    have hU2 := o2 _ _ hU Ur
    have oH2 : Off r H H2 := (Off.of s1).trans o2
    refine ⟨_, rfl, _, _, rfl, rfl, _, rfl, ite2 (fun e => ?_) (fun e => ?_)⟩
    · have e0 : d < 22 := of_decide_eq_true e
      obtain ⟨c, hc, ok⟩ := getC d0 e0
      exact ⟨_, rfl, _, rfl, U, _, d, .str c, rfl, rfl, SqL.of hU2, hc, q _ c oH2 (R2.mono (by omega)) ok⟩
    · refine ⟨_, rfl, r, 8, n + 1, rfl, by decide, by decide, by show _ < 1000000000; omega, R2, fun m H3 m0 m1 R3 o3 => ⟨_, _, rfl, rfl, (by show 2 ≤ sizeLine; decide), fun p np => ⟨p, _, rfl, SqT.of upd_same, rfl, _, _, rfl, _, _, rfl, rfl, ?_⟩⟩⟩
      have R4 : Reel (upd H3 p (.tup [.int (1 + m), .str signs])) r (n + 2) := R3.same (same_upd np)
      have o4 : Off r H (upd H3 p (.tup [.int (1 + m), .str signs])) := (oH2.trans o3).sameTrans (same_upd np)
      refine (fun (G : ∀ H4, Reel H4 r (n + 2) → Off r H H4 → _) => G _ R4 o4) (fun H4 R4 o4 => ?_)
      refine ⟨rfl, _, rfl, 1 + m, rfl, by omega, by omega, fun M nM => lc_it walk_range (fun i H' => Off r H4 H' ∧ Reel H' r (n + 2 + i) ∧ ∃ cs : List Nat, H' M = some (.lst ((cs.map fun c => (⟨#[c]⟩ : Str)).map V.str)) ∧ cs.length = i ∧ ∀ c ∈ cs, c ∈ signs.cps.toList) ?_ (fun _ _ _ _ => True.intro) (fun i x H5 H6 hi p y => ?_) (fun H5 p => ?_)⟩
      · exact ⟨Off.of (same_upd nM), R4.same (same_upd nM), [], upd_same, rfl, fun c h => by simp at h⟩
      · obtain ⟨rfl, rfl⟩ := y
        obtain ⟨o5, R5, cs, hM, hl, hcs⟩ := p
        have Mr : M ≠ r := by
          obtain ⟨_, _, _, hr2, _⟩ := id R4
          exact (ne_of_none hr2 nM).symm
        have hi8 : i < 8 := by omega
        refine ⟨rfl, ⟨_, rfl, _, rfl, r, 36, n + 2 + i, rfl, by decide, by decide, by show _ < 1000000000; omega, R5, fun d' H7 d0' d1' R7 o7 => ?_⟩⟩
        obtain ⟨c, hc, hm⟩ := getS d0' d1'
        refine ⟨signs, d', c, rfl, rfl, (by decide +kernel), hc, _, o7 _ _ hM Mr, ?_, ?_⟩
        · rw [List.length_map, List.length_map]; exact small1000 (by omega)
        · refine ⟨(o5.trans o7).new nM, ?_, cs ++ [c], ?_, by rw [List.length_append, hl]; rfl, fun x hx => ?_⟩
          · obtain ⟨x, y, z, g, g'⟩ := R7
            exact ⟨x, y, z, by rw [upd_ne Mr.symm]; exact g, g'⟩
          · rw [upd_same, List.map_append, List.map_append]; rfl
          · rcases List.mem_append.mp hx with z | z
            · exact hcs x z
            · rw [List.mem_singleton.mp z]; exact hm
      · obtain ⟨o5, R5, cs, hM, hl, hcs⟩ := p
        refine ⟨"", M, cs.map fun c => ⟨#[c]⟩, rfl, rfl, .inl (SqL.of hM), ?_, ?_⟩
        · rw [sum_one, List.length_map]
          show _ + _ * 0 ≤ 16777216
          omega
        · refine q _ _ (o4.trans o5) (R5.mono (by omega)) (code_join (by omega) (by omega) hcs)
end
end K66

set_option Elab.async false
set_option linter.all false
set_option maxRecDepth 100000
set_option maxHeartbeats 8000000
namespace K66
open PySem PySem.Spec PyProof.Rows L2 Gd Rm La Cb Pl
/-! ### numbers as texts -/
def LowN (i : Int) : Prop := -(10 ^ 30) < i ∧ i < 10 ^ 30
theorem p30 : (10 : Int) ^ 30 = 1000000000000000000000000000000 := by decide
theorem num_neg {i : Int} (h : i < 0) : TL.tl (Tx.numS i) = 45 :: TL.numL (-i).toNat := by
  obtain ⟨m, rfl⟩ : ∃ m : Nat, i = Int.negSucc m := ⟨(-i - 1).toNat, by omega⟩
  have e : (-(Int.negSucc m)).toNat = m + 1 := by rw [Int.neg_negSucc]; rfl
  rw [e]
  have h2 : TL.tl (Str.ofString (toString ((m + 1 : Nat) : Int))) = TL.numL (m + 1) := TL.tl_num _
  rw [TL.tl_ofString] at h2
  unfold Tx.numS
  rw [TL.tl_ofString, ← h2]
  have e3 : (toString (Int.negSucc m) : String) = "-" ++ toString ((m + 1 : Nat) : Int) := rfl
  rw [e3, String.toList_append, List.map_append]
  rfl
theorem num_val (n : Nat) : NumText.AllDigits (TL.numL n) ∧ NumText.digitsVal (TL.numL n) = n := ⟨TL.numL_digits n, TL.numL_val n⟩
theorem numL_30 {n : Nat} (h : n < 10 ^ 30) : (TL.numL n).length ≤ 30 := TL.numL_len (by decide) h
theorem num_len {i : Int} (h : LowN i) : (Tx.numS i).length ≤ 31 := by
  have := p30
  unfold LowN at h
  have q : (10 : Nat) ^ 30 = 1000000000000000000000000000000 := by decide
  rw [TL.len_tl]
  rcases Int.lt_or_le i 0 with z | z
  · rw [num_neg z, List.length_cons]
    have := numL_30 (n := (-i).toNat) (by omega)
    omega
  · rw [Tx.numS_tl z]
    have := numL_30 (n := i.toNat) (by omega)
    omega
theorem num_int {i : Int} (h : LowN i) : intText? (Tx.numS i) = some i := by
  have l := num_len h
  rcases Int.lt_or_le i 0 with z | z
  · have e : (Tx.numS i).cps.toList = 45 :: TL.numL (-i).toNat := num_neg z
    rw [intText_neg e (TL.numL_digits _) (TL.numL_ne _) (by omega), TL.numL_val]
    congr 1
    omega
  · have e : i = ((i.toNat : Nat) : Int) := by omega
    rw [TL.len_tl, Tx.numS_tl z] at l
    have := TL.int_num (n := i.toNat) (by omega)
    unfold Tx.numS
    rw [e]
    exact this
def signW (d : Bool) : Str := if d then (("+" : String) : Str) else (("-" : String) : Str)
theorem sign_tl (d : Bool) : TL.tl (signW d) = [if d then 43 else 45] := by cases d <;> decide +kernel
theorem sign_len (d : Bool) : (signW d).length = 1 := by rw [TL.len_tl, sign_tl]; rfl
theorem sign_at (d : Bool) : signW d = ⟨#[if d then 43 else 45]⟩ := by cases d <;> decide +kernel
/-- the word for an event -/
def evT (e : Ev) : Str := Tx.numS e.k ++ signW e.d ++ Tx.numS e.t
structure EvLow (e : Ev) : Prop where
  k0 : 0 ≤ e.k
  k1 : e.k < 10 ^ 30
  t : LowN e.t
theorem EvLow.k {e : Ev} (h : EvLow e) : LowN e.k := ⟨by have := p30; have := h.k0; omega, h.k1⟩
theorem ev_len {e : Ev} (h : EvLow e) : (evT e).length ≤ 63 := by
  unfold evT
  rw [Tx.len_app, Tx.len_app, sign_len]
  have := num_len h.k
  have := num_len h.t
  omega
theorem ev_tl {e : Ev} : TL.tl (evT e) = TL.tl (Tx.numS e.k) ++ ([if e.d then 43 else 45] ++ TL.tl (Tx.numS e.t)) := by
  unfold evT
  rw [TL.tl_append, TL.tl_append, sign_tl, List.append_assoc]
theorem num_signs {i : Int} (c : Nat) (h : c ∈ TL.tl (Tx.numS i)) : (48 ≤ c ∧ c ≤ 57) ∨ (c = 45 ∧ i < 0) := by
  rcases Int.lt_or_le i 0 with z | z
  · rw [num_neg z] at h
    rcases List.mem_cons.mp h with h | h
    · exact .inr ⟨h, z⟩
    · exact .inl (Tx.numL_low h)
  · rw [Tx.numS_tl z] at h
    exact .inl (Tx.numL_low h)
theorem plus_in {e : Ev} : decide (43 ∈ (evT e).cps.toList) = e.d := by
  have ht : (evT e).cps.toList = _ := ev_tl (e := e)
  rw [ht]
  cases hd : e.d with
  | true => exact decide_eq_true (by simp)
  | false =>
    refine decide_eq_false fun h => ?_
    rcases List.mem_append.mp h with h | h
    · rcases num_signs _ h with q | q <;> omega
    · rcases List.mem_cons.mp h with h | h
      · exact absurd h (by decide)
      · rcases num_signs _ h with q | q <;> omega
theorem ev_part {e : Ev} (h : EvLow e) : Txt.partition (evT e) (signW e.d) = (Tx.numS e.k, signW e.d, Tx.numS e.t) := by
  refine TL.partition_app (sign_tl e.d) fun z => ?_
  have := h.k0
  rcases num_signs _ z with q | q
  · revert q; cases e.d <;> (intro q; simp at q)
  · omega
theorem ev_free {e : Ev} : ∀ c ∈ TL.tl (evT e), c ≠ 32 := fun c h => by
  rw [ev_tl] at h
  rcases List.mem_append.mp h with h | h
  · rcases num_signs _ h with q | q <;> omega
  · rcases List.mem_append.mp h with h | h
    · have := List.mem_singleton.mp h
      rw [this]
      cases e.d <;> decide
    · rcases num_signs _ h with q | q <;> omega
/-- the text of a record -/
def recT (es : List Ev) : Str := Txt.join ((" " : String) : Str) (es.map evT)
theorem rec_split {es : List Ev} (h : es ≠ []) : Txt.split (recT es) ((" " : String) : Str) = es.map evT :=
  TL.split_join Tx.tl_s3 (by decide +kernel) (by simpa using h) fun p hp z => by
    obtain ⟨e, _, rfl⟩ := List.mem_map.mp hp
    exact ev_free _ z rfl
theorem rec_len {es : List Ev} (h : ∀ e ∈ es, EvLow e) : (recT es).length ≤ es.length * 64 := by
  have := Tx.join_len (y := ((" " : String) : Str)) (ps := es.map evT) (k := 63) (fun p hp => by
    obtain ⟨e, he, rfl⟩ := List.mem_map.mp hp
    exact ev_len (h e he)) Tx.sp_len
  rw [List.length_map] at this
  exact this
theorem rec_nil : recT [] = Str.empty := by decide +kernel
theorem numS_ne (i : Int) : TL.tl (Tx.numS i) ≠ [] := by
  rcases Int.lt_or_le i 0 with z | z
  · rw [num_neg z]; simp
  · rw [Tx.numS_tl z]; exact TL.numL_ne _
theorem ev_pos (e : Ev) : 1 ≤ (evT e).length := by
  rw [TL.len_tl, ev_tl, List.length_append, List.length_append]
  show 1 ≤ _ + (1 + _)
  omega
theorem rec_pos {es : List Ev} (h : es ≠ []) : 1 ≤ (recT es).length := by
  cases es with
  | nil => exact absurd rfl h
  | cons e r =>
    unfold recT
    rw [TL.len_tl, Tx.join_tl]
    have := ev_pos e
    rw [TL.len_tl] at this
    cases r with
    | nil => exact this
    | cons f r =>
      show 1 ≤ (TL.tl (evT e) ++ _).length
      rw [List.length_append]
      omega
theorem none_back {H H' : Hp} {p : Addr} (s : Same H H') (n : H' p = none) : H p = none := s.free n
theorem digs_in : ∀ c < 58, 48 ≤ c → c ∈ ((("0123456789" : String) : Str)).cps.toList := by decide +kernel
theorem eqS {a b : Str} {p : Bool} (h : decide (a = b) = p) : V.bl (decide (V.str a = V.str b)) = .bl p := by
  rw [← h]
  by_cases z : a = b <;> simp [z]
theorem cut_one {x : Str} {c : Nat} {r : List Nat} (h : TL.tl x = c :: r) : cutS x none (some 1) = ⟨#[c]⟩ ∧ TL.tl (cutS x (some 1) none) = r := by
  have e : x = ⟨#[c]⟩ ++ ⟨r.toArray⟩ := TL.ext_tl (by rw [TL.tl_append, h]; rfl)
  rw [e, Tx.cut_head, Tx.cut_tail]
  exact ⟨rfl, rfl⟩
section
variable {P : Program} {w : World} {K : PySem.W.Frag} {mg : Str → Option Value} {base : Heap}
def spNum : Sp := fun vs H Q _ => ∃ (s : Str) (n : Nat), vs = [.str s] ∧ TL.tl s = TL.numL n ∧ s.length ≤ 30 ∧ ∀ H', Same H H' → Q (.bl true) H'
theorem ok_is_number (bt : Bt mg) {tk1 tk2 : Tok} (m_MOST_DIGITS : mg "MOST_DIGITS" = some (.int 30 tk1)) (m_DIGITS : mg "DIGITS" = some (.str "0123456789" tk2)) (a : At K mg "is_number" s_is_number ["text"]) : Cl P w K mg base 1 "is_number" spNum := by
  refine clG a sc_is_number (fun vs H Q E h => ?_) (fun f cdv A outer s H vs Q hg hr h => ?_)
  · obtain ⟨c, b, rfl, _⟩ := h
    rfl
  · obtain ⟨c, n, rfl, ht, hl, q⟩ := h
    refine ⟨_, (pss_cons (ps_if (PW.pt (pw_or (pt_not (pt_chain op_le op_le pe_int (pe_callB call_len_str (by rfl) bt.m_len (by decide +kernel) (pa_cons (pv 0) pa_nil)) (pe_glob (v := .int 30) (by rfl) m_MOST_DIGITS ⟨_, rfl⟩))) (pw_or1 (pt_not (pt_val (pe_callB (cr_all rfl) (by rfl) bt.m_all (by decide +kernel) (pa_cons (pe_lc (own := [("sign", 1)]) (g := (gName 1)) (by rfl) sc_is_number.nd (pi_str (pv 0)) (blkOk_by (N := n_is_number) (sc := defScope s_is_number) (by decide +kernel)) (fun _ _ _ _ _ => (pg_name (i := 1) sc_is_number.nd rfl (Or.inl rfl))) (fun _ _ _ _ _ => pts_nil) (fun _ _ _ _ _ => (pe_cmpR op_in_sign (pv 1) (pe_glob (v := .str "0123456789") (by rfl) m_DIGITS ⟨_, rfl⟩) rfl))) pa_nil))))))) (pss_one (ps_ret pe_bl)) pss_nil)
      (pss_one (ps_ret (pe_or (pe_cmpR op_eq (pv 0) pe_str (nomark _)) (pe_one (pe_cmpR op_ne (pe_ix ix_str (pv 0) pe_int (fun _ _ => rfl)) pe_str (nomark _))))))), ?_⟩
    have hdig : ∀ x ∈ c.cps.toList, x ∈ ((("0123456789" : String) : Str)).cps.toList := fun x hx => by
      have hx' : x ∈ TL.tl c := hx
      rw [ht] at hx'
      have := Tx.numL_low hx'
      exact digs_in x (by omega) this.1
    obtain ⟨d, r, er⟩ : ∃ d r, TL.numL n = d :: r := by
      cases e : TL.numL n with
      | nil => exact absurd e (TL.numL_ne n)
      | cons d r => exact ⟨d, r, rfl⟩
    have l1 : 1 ≤ c.length := by rw [TL.len_tl, ht, er]; exact Nat.succ_le_succ (Nat.zero_le _)
    have hcl : c.cps.toList.length = c.length := Array.length_toList
    refine ⟨_, rfl, c, rfl, (by rw [sizeLine_eq]; omega), _, _, rfl, rfl, true, congrArg V.bl (decide_eq_true (by omega)), iteT ⟨_, _, rfl, rfl, true, congrArg V.bl (decide_eq_true (by omega)), ?_⟩⟩
    refine iteF ⟨_, rfl, c, rfl, fun L nL => lc_it (walk_str (z := c)) (fun i H' => H' = upd H L (.lst ((List.replicate i true).map V.bl))) rfl (fun _ _ _ _ => True.intro) (fun i x H2 H3 hi p y => ?_) (fun H2 p => ?_)⟩
    · obtain ⟨rfl, d, hd, rfl⟩ := y
      subst p
      have hm := hdig d (by rw [Array.mem_toList_iff]; exact Array.mem_of_getElem? hd)
      refine ⟨rfl, ⟨_, rfl, d, _, rfl, rfl, _, upd_same, ?_, ?_⟩⟩
      · have hi' : i < c.length := hi
        rw [List.length_map, List.length_replicate]; exact small1000 (by omega)
      · rw [decide_eq_true hm, upd_upd, List.replicate_succ', List.map_append]; rfl
    · subst p
      refine ⟨L, _, rfl, SqL.of upd_same, _, rfl, ?_⟩
      rw [allTrue]
      refine iteF ?_
      rcases Nat.eq_zero_or_pos n with z | z
      · have e0 : c = (("0" : String) : Str) := TL.ext_tl (by rw [ht, z]; decide +kernel)
        refine ⟨_, rfl, rfl, true, eqS (decide_eq_true e0), iteT ?_⟩
        exact q _ (same_upd nL)
      · obtain ⟨d', r', er', hd⟩ := Tx.numL_head n z
        rw [er] at er'
        obtain ⟨rfl, rfl⟩ := List.cons.inj er'
        have n0 : decide (c = (("0" : String) : Str)) = false := decide_eq_false fun z => by
          have e := congrArg TL.tl z
          rw [ht, er] at e
          have e2 : TL.tl (("0" : String) : Str) = [48] := by decide +kernel
          rw [e2] at e
          exact hd (List.cons.inj e).1
        refine ⟨_, rfl, rfl, false, eqS n0, iteF ⟨_, rfl, c, 0, d, rfl, rfl, (by rw [sizeLine_eq]; omega), ?_, ?_⟩⟩
        · have e : TL.tl c = d :: r := ht.trans er
          exact atI_nat (j := 0) (by show (TL.tl c)[0]? = some d; rw [e]; rfl)
        · refine ⟨rfl, ?_⟩
          have e0 : (("0" : String) : Str) = ⟨#[48]⟩ := by decide +kernel
          have e : decide (V.str ⟨#[d]⟩ = V.str (("0" : String) : Str)) = false := decide_eq_false fun z => by
            rw [e0] at z
            have := V.str.inj z
            injection this with this
            injection this with this
            exact hd (List.cons.inj this).1
          show Q (.bl (!decide (V.str ⟨#[d]⟩ = V.str (("0" : String) : Str)))) _
          rw [e]
          exact q _ (same_upd nL)
def spSNum : Sp := fun vs H Q _ => ∃ i : Int, vs = [.str (Tx.numS i)] ∧ LowN i ∧ ∀ H', Same H H' → Q (.bl true) H'
theorem ok_is_signed_number (a : At K mg "is_signed_number" s_is_signed_number ["text"]) (c_is_number : Cl P w K mg base 1 "is_number" spNum) : Cl P w K mg base 2 "is_signed_number" spSNum := by
  refine clG a sc_is_signed_number (fun vs H Q E h => ?_) (fun f cdv A outer s H vs Q hg hr h => ?_)
  · obtain ⟨i, rfl, _⟩ := h
    rfl
  · obtain ⟨i, rfl, hi, q⟩ := h
    refine ⟨_, (pss_cons (ps_if (pt_cmpR op_eq (pe_slice sl_str (pv 0) po_none (po_some pe_int)) pe_str (nomark _)) (pss_one (ps_ret (pe_and (pe_cmpR op_ne (pv 0) pe_str (nomark _)) (pe_one (pe_cl c_is_number hg hr (by decide) (by rfl) (pa_cons (pe_slice sl_str (pv 0) (po_some pe_int) po_none) pa_nil)))))) pss_nil)
      (pss_one (ps_ret (pe_cl c_is_number hg hr (by decide) (by rfl) (pa_cons (pv 0) pa_nil))))), ?_⟩
    have l := num_len hi
    have eM : (("-" : String) : Str) = ⟨#[45]⟩ := by decide +kernel
    rcases Int.lt_or_le i 0 with z | z
    · have et := num_neg z
      obtain ⟨c1, c2⟩ := cut_one et
      refine ⟨_, rfl, 1, rfl, _, rfl, (by rw [sizeLine_eq]; omega), rfl, true, eqS (by rw [c1, eM]; exact decide_eq_true rfl), iteT ?_⟩
      refine ⟨_, rfl, rfl, true, ?_, iteT ?_⟩
      · have n0 : decide (V.str (Tx.numS i) = V.str (("-0" : String) : Str)) = false := decide_eq_false fun y => by
          have e := congrArg TL.tl (V.str.inj y)
          rw [et] at e
          have e2 : TL.tl (("-0" : String) : Str) = [45, 48] := by decide +kernel
          rw [e2] at e
          have e3 := (List.cons.inj e).2
          obtain ⟨d', r', er', hd⟩ := Tx.numL_head (-i).toNat (by omega)
          rw [er'] at e3
          exact hd (List.cons.inj e3).1
        rw [n0]
        rfl
      · refine ⟨_, rfl, 1, rfl, _, rfl, (by rw [sizeLine_eq]; omega), _, (-i).toNat, rfl, c2, ?_, fun H1 s1 => q _ s1⟩
        rw [TL.len_tl, c2]
        rw [TL.len_tl, et, List.length_cons] at l
        omega
    · have et := Tx.numS_tl z
      cases e : TL.numL i.toNat with
      | nil => exact absurd e (TL.numL_ne _)
      | cons d r =>
        rw [e] at et
        obtain ⟨c1, c2⟩ := cut_one et
        have hd := Tx.numL_low (n := i.toNat) (c := d) (by rw [e]; exact List.mem_cons_self)
        refine ⟨_, rfl, 1, rfl, _, rfl, (by rw [sizeLine_eq]; omega), rfl, false, eqS (by
          rw [c1, eM]
          refine decide_eq_false fun y => ?_
          injection y with y
          injection y with y
          have := (List.cons.inj y).1
          omega), iteF ?_⟩
        refine ⟨_, rfl, _, i.toNat, rfl, Tx.numS_tl z, ?_, fun H1 s1 => q _ s1⟩
        have := numL_30 (n := i.toNat) (by
          have := hi.2
          have := p30
          have q : (10 : Nat) ^ 30 = 1000000000000000000000000000000 := by decide
          omega)
        rw [TL.len_tl, Tx.numS_tl z]
        omega
def spSign : Sp := fun vs H Q _ => ∃ d : Bool, vs = [.str (wayS d)] ∧ Q (.str (signW d)) H
theorem ok_way_sign (a : At K mg "way_sign" s_way_sign ["way"]) : Cl P w K mg base 1 "way_sign" spSign := by
  refine clG a sc_way_sign (fun vs H Q E h => ?_) (fun f cdv A outer s H vs Q hg hr h => ?_)
  · obtain ⟨d, rfl, _⟩ := h
    rfl
  · obtain ⟨d, rfl, q⟩ := h
    refine ⟨_, (pss_one (ps_ret (pe_ifExp (pt_cmpR op_eq (pv 0) pe_str (nomark _)) pe_str pe_str))), ?_⟩
    refine ⟨_, rfl, rfl, d, by rw [wayS_down], ?_⟩
    cases d with
    | true => exact iteT q
    | false => exact iteF q
theorem log_low {i : Int} (h : LowN i) : i.natAbs.log2 < 1920 := by
  have h : i.natAbs < 2 ^ 200 := by
    have := h.1
    have := h.2
    have := p30
    have q : (2 : Nat) ^ 200 > 1000000000000000000000000000000 := by decide
    omega
  have h2 : i.natAbs.log2 < 200 := by
    by_cases z : i.natAbs = 0
    · rw [z]; decide
    · exact (Nat.log2_lt z).mpr h
  omega
def spEvT : Sp := fun vs H Q _ => ∃ (b : Addr) (e : Ev), vs = [.ref b] ∧ H b = some (.tup (evV e)) ∧ EvLow e ∧ Q (.str (evT e)) H
theorem ok_event_text (a : At K mg "event_text" s_event_text ["event"]) (c_way_sign : Cl P w K mg base 1 "way_sign" spSign) : Cl P w K mg base 2 "event_text" spEvT := by
  refine clG a sc_event_text (fun vs H Q E h => ?_) (fun f cdv A outer s H vs Q hg hr h => ?_)
  · obtain ⟨b, e, rfl, _⟩ := h
    rfl
  · obtain ⟨b, e, rfl, hb, he, q⟩ := h
    refine ⟨_, (pss_cons (ps_asg (pv 0) (pg_tup rfl (pgs_cons (pg_name (i := 1) sc_event_text.nd rfl (Or.inl rfl)) (pgs_cons (pg_name (i := 2) sc_event_text.nd rfl (Or.inl rfl)) (pgs_cons (pg_name (i := 3) sc_event_text.nd rfl (Or.inl rfl)) pgs_nil)))))
      (pss_one (ps_ret (pe_joined (PJ.cons (pe_fmt (pv 2)) (PJ.cons (pe_fmt (pe_cl c_way_sign hg hr (by decide) (by rfl) (pa_cons (pv 3) pa_nil))) (PJ.cons (pe_fmt (pv 1)) PJ.nil))))))), ?_⟩
    refine ⟨_, rfl, b, _, rfl, SqT.of hb, rfl, _, _, rfl, _, _, rfl, _, _, rfl, rfl, ?_⟩
    have l1 : (Str.empty ++ Tx.numS e.k).length ≤ 31 := by rw [Tx.empty_app]; exact num_len he.k
    have l2 : (Str.empty ++ Tx.numS e.k ++ signW e.d).length ≤ 32 := by rw [Tx.len_app, sign_len]; omega
    have l3 : (Str.empty ++ Tx.numS e.k ++ signW e.d ++ Tx.numS e.t).length ≤ 63 := by rw [Tx.len_app]; have := num_len he.t; omega
    refine ⟨_, rfl, .inr ⟨e.k, rfl, log_low he.k, _, rfl, (by rw [sizeLine_eq]; exact Nat.le_trans l1 (by decide)), _, rfl, e.d, rfl, .inl ⟨_, rfl, (by rw [sign_len, sizeLine_eq]; omega), _, rfl, (by rw [sizeLine_eq]; exact Nat.le_trans l2 (by decide)), _, rfl, .inr ⟨e.t, rfl, log_low he.t, _, rfl, (by rw [sizeLine_eq]; exact Nat.le_trans l3 (by decide)), ?_⟩⟩⟩⟩
    have ee : Str.empty ++ Tx.numS e.k ++ signW e.d ++ Tx.numS e.t = evT e := by rw [Tx.empty_app]; rfl
    show Q (.str (Str.empty ++ Tx.numS e.k ++ signW e.d ++ Tx.numS e.t)) H
    rw [ee]
    exact q
def spEvOf : Sp := fun vs H Q _ => ∃ e : Ev, vs = [.str (evT e)] ∧ EvLow e ∧ ∀ (H' : Hp) (b : Addr), Same H H' → H b = none → H' b = some (.tup (evV e)) → Q (.ref b) H'
theorem ok_event_of (bt : Bt mg) (a : At K mg "event_of" s_event_of ["word"]) (c_way_sign : Cl P w K mg base 1 "way_sign" spSign) (c_is_number : Cl P w K mg base 1 "is_number" spNum) (c_is_signed_number : Cl P w K mg base 2 "is_signed_number" spSNum) : Cl P w K mg base 3 "event_of" spEvOf := by
  refine clG a sc_event_of (fun vs H Q E h => ?_) (fun f cdv A outer s H vs Q hg hr h => ?_)
  · obtain ⟨e, rfl, _⟩ := h
    rfl
  · obtain ⟨e, rfl, he, q⟩ := h
    refine ⟨_, (C8.pss_cut (ps_set (i := 1) sc_event_of.nd rfl (Or.inl rfl) (pe_ifExp (pt_cmpR op_in_sign pe_str (pv 0) rfl) pe_str pe_str))
      (pss_cons (ps_asg (pe_bm PySem.F.plainAttrs_str PySem.F.slot_str_partition PySem.F.type_str_partition mt_partition (pv 0) (pa_cons (pe_cl c_way_sign hg hr (by decide) (by rfl) (pa_cons (pv 1) pa_nil)) pa_nil)) (pg_tup rfl (pgs_cons (pg_name (i := 2) sc_event_of.nd rfl (Or.inl rfl)) (pgs_cons (pg_name (i := 3) sc_event_of.nd rfl (Or.inl rfl)) (pgs_cons (pg_name (i := 4) sc_event_of.nd rfl (Or.inl rfl)) pgs_nil)))))
      (C8.pss_cut (ps_if (PW.pt (pw_or (pt_not (pt_val (pe_cl c_is_number hg hr (by decide) (by rfl) (pa_cons (pv 2) pa_nil)))) (pw_or1 (pt_not (pt_val (pe_cl c_is_signed_number hg hr (by decide) (by rfl) (pa_cons (pv 4) pa_nil))))))) (pss_one (ps_ret pe_non)) pss_nil)
      (pss_one (ps_ret (pe_tup (pa_cons (pe_callTy call_int_str (by rfl) bt.m_int (by decide +kernel) (pa_cons (pv 4) pa_nil)) (pa_cons (pe_callTy call_int_str (by rfl) bt.m_int (by decide +kernel) (pa_cons (pv 2) pa_nil)) (pa_cons (pv 1) pa_nil))))))))), ?_⟩
    have eP : (("+" : String) : Str) = ⟨#[43]⟩ := by decide +kernel
    have lw := ev_len he
    have low : sizeLine = 16777216 := sizeLine_eq
    refine ⟨fun σ' H' => (∃ y2 y3 y4, σ' = [some (.str (evT e)), some (.str (wayS e.d)), y2, y3, y4]) ∧ H' = H, ?_, ?_⟩
    · refine ⟨_, rfl, 43, _, congrArg V.str eP, rfl, e.d, congrArg V.bl plus_in, ?_⟩
      cases hd : e.d with
      | true => exact iteT ⟨⟨_, _, _, rfl⟩, rfl⟩
      | false => exact iteF ⟨⟨_, _, _, rfl⟩, rfl⟩
    rintro σ' H' ⟨⟨y2, y3, y4, rfl⟩, rfl⟩
    have lk := num_len he.k
    have lt := num_len he.t
    refine ⟨_, rfl, rfl, _, rfl, e.d, rfl, _, _, rfl, rfl, by rw [sign_len]; rfl, by omega, fun p1 np1 => ?_⟩
    rw [ev_part he]
    refine ⟨p1, _, rfl, SqT.of upd_same, rfl, _, _, rfl, _, _, rfl, _, _, rfl, rfl, ?_⟩
    have k0 := he.k0
    have k30 : (Tx.numS e.k).length ≤ 30 := by
      rw [TL.len_tl, Tx.numS_tl k0]
      refine numL_30 ?_
      have := he.k1
      have := p30
      have q : (10 : Nat) ^ 30 = 1000000000000000000000000000000 := by decide
      omega
    have kp := same_upd (o := .tup [V.str (Tx.numS e.k), .str (signW e.d), .str (Tx.numS e.t)]) np1
    refine ⟨fun σ' H2 => σ' = [some (.str (evT e)), some (.str (wayS e.d)), some (.str (Tx.numS e.k)), some (.str (signW e.d)), some (.str (Tx.numS e.t))] ∧ Same H' H2, ?_, ?_⟩
    · exact ⟨_, rfl, Tx.numS e.k, e.k.toNat, rfl, Tx.numS_tl k0, k30, fun H2 s2 => ⟨_, rfl, iteF ⟨_, rfl, e.t, rfl, he.t, fun H3 s3 => ⟨_, rfl, iteF ⟨rfl, kp.trans (s2.trans s3)⟩⟩⟩⟩⟩
    rintro σ' H2 ⟨rfl, s2⟩
    refine ⟨_, rfl, Tx.numS e.t, e.t, rfl, num_int he.t, by omega, _, rfl, Tx.numS e.k, e.k, rfl, num_int he.k, by omega, _, rfl, (by show 3 ≤ sizeLine; decide), fun p np => ?_⟩
    exact q _ p (s2.trans (same_upd np)) (none_back s2 np) upd_same
end
end K66

set_option Elab.async false
set_option linter.all false
set_option maxRecDepth 100000
set_option maxHeartbeats 8000000
namespace K66
open PySem PySem.Spec PyProof.Rows L2 Gd Rm La Cb Pl
theorem eqI {a b : Int} {p : Bool} (h : decide (a = b) = p) : V.bl (decide (V.int a = V.int b)) = .bl p := by
  rw [← h]
  by_cases z : a = b <;> simp [z]
theorem two_go {T : Prop} {A C : Hp → V → Prop} (f : (∀ H v, A H v → C H v) → T) (g : ∀ H v, A H v → C H v) : T := f g
theorem get_map_str {ws : List Str} {i : Nat} {c : Str} (h : ws[i]? = some c) : (ws.map V.str)[i]? = some (.str c) := by rw [List.getElem?_map, h]; rfl
theorem lens_sum {ps : List Str} {k : Nat} (h : ∀ p ∈ ps, p.length ≤ k) : (ps.map (·.length)).sum + ps.length * 1 ≤ ps.length * (k + 1) := by
  have := Tx.sum_le h
  rw [Nat.mul_add, Nat.mul_one]
  omega
theorem rec_lens {es : List Ev} (h : ∀ e ∈ es, EvLow e) (hl : es.length ≤ 400) : ((es.map evT).map (·.length)).sum + (es.map evT).length * ((" " : String) : Str).length ≤ 16777216 := by
  rw [Tx.sp_len]
  have := lens_sum (ps := es.map evT) (k := 63) fun p hp => by
    obtain ⟨e, he, rfl⟩ := List.mem_map.mp hp
    exact ev_len (h e he)
  rw [List.length_map] at this ⊢
  omega
section
variable {P : Program} {w : World} {K : PySem.W.Frag} {mg : Str → Option Value} {base : Heap}
def spFmtR : Sp := fun vs H Q _ => ∃ (c : Addr) (es : List Ev), vs = [.ref c] ∧ Lst evV H c es ∧ Valid es ∧ es.length ≤ 400 ∧ (∀ e ∈ es, EvLow e) ∧ ∀ H', Same H H' → Q (.str (recT es)) H'
theorem ok_format_record (a : At K mg "format_record" s_format_record ["record"]) (c_check_record : ClD P w K mg base 4 "check_record" spCheck [.non]) (c_event_text : Cl P w K mg base 2 "event_text" spEvT) : Cl P w K mg base 5 "format_record" spFmtR := by
  refine clG a sc_format_record (fun vs H Q E h => ?_) (fun f cdv A outer s H vs Q hg hr h => ?_)
  · obtain ⟨c, es, rfl, _⟩ := h
    rfl
  · obtain ⟨c, es, rfl, hL, hV, hl, he, q⟩ := h
    refine ⟨_, (pss_cons (ps_expr (pe_clD c_check_record hg hr (by decide) (by rfl) (pa_cons (pv 0) pa_nil)))
      (pss_one (ps_ret (pe_bm PySem.F.plainAttrs_str PySem.F.slot_str_join PySem.F.type_str_join mt_join pe_str (pa_cons (pe_lc (own := [("event", 1)]) (g := (gName 1)) (by rfl) sc_format_record.nd (pi_list (pv 0)) (blkOk_by (N := n_format_record) (sc := defScope s_format_record) (by decide +kernel)) (fun _ _ _ _ _ => (pg_name (i := 1) sc_format_record.nd rfl (Or.inl rfl))) (fun _ _ _ _ _ => pts_nil) (fun _ _ _ _ _ => (pe_cl c_event_text hg hr (by decide) (by rfl) (pa_cons (pv 1) pa_nil)))) pa_nil))))), ?_⟩
    refine ⟨_, rfl, c, es, rfl, hL, hV, hl, fun H1 s1 => ?_⟩
    obtain ⟨as, hc, hT⟩ := hL.same s1
    refine ⟨rfl, _, rfl, c, rfl, ⟨_, SqL.of hc⟩, fun M nM => lc_it (walk_list (xs := as.map V.ref)) (fun j H' => Same H1 H' ∧ H' M = some (.lst (((es.take j).map evT).map V.str))) ⟨same_upd nM, upd_same⟩ (fun j H' _ p => SqL.of (p.1 _ _ hc)) (fun j x Hx Hy hj p y => ?_) (fun H3 p => ?_)⟩
    · obtain ⟨sx, hM⟩ := p
      obtain ⟨rfl, hx⟩ := y
      have hj' : j < es.length := by rw [List.length_map] at hj; rw [← hT.1]; exact hj
      obtain ⟨b, hb, hbt⟩ := hT.at_ hj'
      have ex : V.ref b = x := Option.some.inj ((by rw [List.getElem?_map, hb]; rfl : (as.map V.ref)[j]? = some (.ref b)).symm.trans hx)
      subst ex
      refine ⟨rfl, _, rfl, b, es[j], rfl, sx _ _ hbt, he _ (List.getElem_mem hj'), _, hM, small1000 (by rw [List.length_map, List.length_map, List.length_take]; omega), Same.off sx nM off_upd, ?_⟩
      rw [upd_same, List.take_add_one, List.getElem?_eq_getElem hj', List.map_append, List.map_append]
      rfl
    · obtain ⟨sx, hM⟩ := p
      rw [show (as.map V.ref).length = es.length by rw [List.length_map]; exact hT.1, List.take_length] at hM
      exact ⟨_, M, es.map evT, rfl, rfl, .inl (SqL.of hM), rec_lens he hl, q _ (s1.trans sx)⟩
def spParseR : Sp := fun vs H Q _ => ∃ es : List Ev, vs = [.str (recT es)] ∧ Valid es ∧ es.length ≤ 400 ∧ (∀ e ∈ es, EvLow e) ∧ ∀ (H' : Hp) (p : Addr), Same H H' → H p = none → Lst evV H' p es → Q (.ref p) H'
theorem ok_parse_record (bt : Bt mg) {tk : Tok} (m_MOST_EVENTS : mg "MOST_EVENTS" = some (.int 400 tk)) (a : At K mg "parse_record" s_parse_record ["text"]) (c_event_of : Cl P w K mg base 3 "event_of" spEvOf) (c_can_follow : Cl P w K mg base 2 "can_follow" spFollow) : Cl P w K mg base 4 "parse_record" spParseR := by
  refine clG a sc_parse_record (fun vs H Q E h => ?_) (fun f cdv A outer s H vs Q hg hr h => ?_)
  · obtain ⟨es, rfl, _⟩ := h
    rfl
  · obtain ⟨es, rfl, hV, hl, he, q⟩ := h
    refine ⟨_, (pss_cons (ps_if (pt_not (pt_val (pe_callB call_isi (by rfl) bt.m_isinstance (by decide +kernel) (pa_cons (pv 0) (pa_cons (pe_bltn (v := .ty "str") (by rfl) bt.m_str (by decide +kernel) rfl) pa_nil))))) pss_never pss_nil)
      (pss_cons (ps_par (i := 1) (j := 2) rfl sc_parse_record.nd rfl rfl (by decide) rfl rfl (pa_cons (pe_lst pa_nil) (pa_cons pe_dnewK pa_nil)) (by rfl))
      (pss_cons (ps_for PassesOwn.never rfl (pi_enum (by rfl) bt.m_enumerate (pa_cons (pe_ifExp (pt_truth (pv 0) (by intro _; rfl)) (pe_bm PySem.F.plainAttrs_str PySem.F.slot_str_split PySem.F.type_str_split mt_split (pv 0) (pa_cons pe_str pa_nil)) (pe_lst pa_nil)) pa_nil)) (pg_tup rfl (pgs_cons (pg_name (i := 3) sc_parse_record.nd rfl (Or.inl rfl)) (pgs_cons (pg_name (i := 4) sc_parse_record.nd rfl (Or.inl rfl)) pgs_nil))) (pss_cons (ps_set (i := 5) sc_parse_record.nd rfl (Or.inl rfl) (pe_cl c_event_of hg hr (by decide) (by rfl) (pa_cons (pv 4) pa_nil)))
      (C8.pss_cut (ps_set (i := 6) sc_parse_record.nd rfl (Or.inl rfl) (pe_ifExp (pt_truth (pv 1) (by intro _; rfl)) (pe_ix ix_list (pv 1) (pe_un un_neg pe_int) (fun _ _ => rfl)) pe_non))
      (C8.pss_cut (ps_if (PW.pt (pw_or (pt_cmpR op_eq (pv 3) (pe_glob (v := .int 400) (by rfl) m_MOST_EVENTS ⟨_, rfl⟩) (nomark _)) (pw_or (pt_cmpR op_isN (pv 5) pe_non (nomark _)) (pw_or1 (pt_not (pt_val (pe_cl c_can_follow hg hr (by decide) (by rfl) (pa_cons (pv 5) (pa_cons (pv 6) (pa_cons (pv 2) pa_nil)))))))))) pss_never pss_nil)
      (pss_one (ps_expr (pe_bm PySem.F.plainAttrs_list PySem.F.slot_list_append PySem.F.type_list_append mt_append (pv 1) (pa_cons (pv 5) pa_nil))))))))
      (pss_one (ps_ret (pv 1)))))), ?_⟩
    have rl := rec_len he
    refine ⟨_, rfl, _, _, _, _, true, rfl, .ty "str", .base (.str _), kit_ty (by decide +kernel), _, rfl, iteF ?_⟩
    refine ⟨Nat.zero_le _, fun R nR D nD => ⟨_, _, rfl, ?_⟩⟩
    have kR := same_upd (o := .lst []) nR
    have kD := same_upd (o := .dK []) nD
    have s0 := kR.trans kD
    have hR0 := kD _ _ (upd_same (H := H) (a := R) (o := .lst []))
    have hD0 := upd_same (H := upd H R (.lst [])) (a := D) (o := .dK [])
    have nD0 : H D = none := none_back kR nD
    have RD : R ≠ D := ne_of_none (upd_same (H := H) (a := R) (o := .lst [])) nD
    generalize upd (upd H R (.lst [])) D (.dK []) = H0 at s0 hR0 hD0 ⊢
    apply two_go (A := fun H1 v => ∃ W, v = .ref W ∧ Same H0 H1 ∧ H1 W = some (.lst ((es.map evT).map V.str)))
    · intro go
      by_cases hne : es = []
      · refine ⟨_, rfl, false, ⟨by rw [hne, sizeLine_eq]; decide +kernel, by rw [hne]; rfl⟩, iteF ⟨Nat.zero_le _, fun W nW => ?_⟩⟩
        have fact : ∃ W', V.ref W = .ref W' ∧ Same H0 (upd H0 W (.lst [])) ∧ upd H0 W (.lst []) W' = some (.lst ((es.map evT).map V.str)) := ⟨W, rfl, same_upd nW, by rw [hne]; exact upd_same⟩
        generalize V.ref W = v at fact ⊢
        generalize upd H0 W (.lst []) = H1 at fact ⊢
        exact go H1 v fact
      · have hp := rec_pos hne
        refine ⟨_, rfl, true, ⟨by rw [sizeLine_eq]; omega, ?_⟩, iteT ⟨_, rfl, rfl, _, _, rfl, rfl, by decide +kernel, by rw [sizeLine_eq]; omega, fun W nW => ?_⟩⟩
        · have : (recT es).length ≠ 0 := by omega
          simp [this]
        · rw [rec_split hne]
          have fact : ∃ W', V.ref W = .ref W' ∧ Same H0 (upd H0 W (.lst ((es.map evT).map V.str))) ∧ upd H0 W (.lst ((es.map evT).map V.str)) W' = some (.lst ((es.map evT).map V.str)) := ⟨W, rfl, same_upd nW, upd_same⟩
          generalize V.ref W = v at fact ⊢
          generalize upd H0 W (.lst ((es.map evT).map V.str)) = H1 at fact ⊢
          exact go H1 v fact
    rintro H1 v ⟨W, rfl, s1, hW⟩
    refine ⟨W, _, rfl, SqL.of hW, for_it (walk_enum (xs := (es.map evT).map V.str)) (fun i σ H' => (∃ y3 y4 y5 y6, σ = [some (.str (recT es)), some (.ref R), some (.ref D), y3, y4, y5, y6]) ∧ Same H H' ∧ H' W = some (.lst ((es.map evT).map V.str)) ∧ Lst evV H' R (es.take i) ∧ ∃ kvs, H' D = some (.dK kvs) ∧ kvs.length ≤ i ∧ HeldK kvs (heldB (es.take i)))
      ⟨⟨_, _, _, _, rfl⟩, s0.trans s1, hW, ⟨[], s1 _ _ hR0, Tups.nil⟩, [], s1 _ _ hD0, Nat.le_refl _, HeldK.nil⟩ (fun i σ H' _ p => SqL.of p.2.2.1) (fun i x σ Hx Hy hi p y => ?_) (fun σ H2 p => ?_)⟩
    · obtain ⟨⟨y3, y4, y5, y6, rfl⟩, sx, hWx, ⟨as, hRx, hT⟩, kvs, hD, hkl, hk⟩ := p
      obtain ⟨T, u, v, rfl, nT, rfl, e1, e2⟩ := y
      have hi' : i < es.length := by rw [List.length_map, List.length_map] at hi; exact hi
      have hq : es[i]? = some es[i] := List.getElem?_eq_getElem hi'
      have e2' : v = .str (evT es[i]) := by
        have e2 : ((es.map evT).map V.str)[i]? = some v := e2
        rw [get_map_str (c := evT es[i]) (by rw [List.getElem?_map, hq]; rfl)] at e2
        exact (Option.some.inj e2).symm
      subst e2'
      have e1' : u = .int (i : Nat) := (Option.some.inj e1).symm
      subst e1'
      have kT := same_upd (o := .tup [.int (i : Nat), .str (evT es[i])]) nT
      obtain ⟨v1, v2, v3⟩ := hV i _ hq
      refine ⟨T, _, rfl, SqT.of upd_same, rfl, _, _, rfl, _, _, rfl, rfl, ?_⟩
      refine ⟨_, rfl, es[i], rfl, he _ (List.getElem_mem hi'), fun H4 b s4 nb hb => ?_⟩
      have sT := kT.trans s4
      have hR4 := sT _ _ hRx
      have hD4 := sT _ _ hD
      have hW4 := sT _ _ hWx
      have sx4 := sx.trans sT
      have hT4 := hT.same sT
      have hal := hT.1
      rw [List.length_take] at hal
      refine ⟨fun σ' H' => ∃ lv : V, σ' = [some (.str (recT es)), some (.ref R), some (.ref D), some (.int (i : Nat)), some (.str (evT es[i])), some (.ref b), some lv] ∧ H' = H4 ∧ (lv = .non ∨ ∃ (b' : Addr) (e' : Ev), lv = .ref b' ∧ H4 b' = some (.tup (evV e')) ∧ e'.t ≤ es[i].t), ?_, ?_⟩
      · rcases Nat.eq_zero_or_pos i with hz | hp
        · have e0 : as = [] := List.length_eq_zero_iff.mp (by omega)
          rw [e0] at hR4
          exact ⟨_, rfl, false, .inl ⟨[], SqL.of hR4, rfl⟩, iteF ⟨_, rfl, rfl, .inl rfl⟩⟩
        · have hjl : i - 1 < (es.take i).length := by rw [List.length_take]; omega
          obtain ⟨b', hb', hbt'⟩ := hT4.at_ hjl
          have hej : (es.take i)[i - 1] = es[i - 1] := by rw [List.getElem_take]
          have hal2 : as.length = i := by omega
          have hne : as.map V.ref ≠ [] := by intro z; have := congrArg List.length z; rw [List.length_map] at this; have h0 : ([] : List V).length = 0 := rfl; omega
          refine ⟨_, rfl, true, .inl ⟨_, SqL.of hR4, by cases hh : as.map V.ref with | nil => exact absurd hh hne | cons _ _ => rfl⟩, iteT ⟨_, rfl, 1, rfl, R, _, -1, .ref b', rfl, rfl, SqL.of hR4, ?_, _, rfl, rfl, .inr ⟨b', es[i - 1], rfl, ?_, ?_⟩⟩⟩
          · refine atI_end ?_
            rw [List.length_map, hal2, List.getElem?_map, hb']
            rfl
          · rw [hej] at hbt'; exact hbt'
          · exact v3 (i - 1) _ (by omega) (List.getElem?_eq_getElem (by omega))
      rintro σ' H' ⟨lv, rfl, rfl, hlv⟩
      have hv : (valV kvs (Sum.inl es[i].k)).getD (.bl false) = .bl (!es[i].d) := by rw [hk.at_, v2]
      have pl := put_len kvs (Sum.inl es[i].k) (.bl es[i].d)
      have D4R : R ≠ D := RD
      refine ⟨fun σ' H5 => σ' = [some (.str (recT es)), some (.ref R), some (.ref D), some (.int (i : Nat)), some (.str (evT es[i])), some (.ref b), some lv] ∧ H5 = upd H' D (.dK (putK kvs (Sum.inl es[i].k) (.bl es[i].d))), ?_, ?_⟩
      · refine ⟨_, rfl, rfl, false, eqI (decide_eq_false (by omega)), iteF ⟨_, rfl, rfl, false, rfl, iteF ⟨_, rfl, _, rfl, _, rfl, b, D, es[i], lv, kvs, rfl, hb, hlv, hD4, small1000 (by omega), hv, true, rfl, iteF ⟨rfl, rfl⟩⟩⟩⟩
      rintro σ' H5 ⟨rfl, rfl⟩
      have tkD : Tk H' (upd H' D (.dK (putK kvs (Sum.inl es[i].k) (.bl es[i].d)))) := fun z xs hz => by
        rw [upd_ne (ne_of hz hD4 (by intro z; cases z))]
        exact hz
      have hR5 : upd H' D (.dK (putK kvs (Sum.inl es[i].k) (.bl es[i].d))) R = some (.lst (as.map V.ref)) := by rw [upd_ne RD]; exact hR4
      have tkR := tk_upd (zs := as.map V.ref ++ [.ref b]) hR5
      refine ⟨_, rfl, .inl ⟨rfl, _, SqL.of hR5⟩, _, rfl, R, _, .ref b, rfl, rfl, hR5, small1000 (by rw [List.length_map]; omega), ⟨_, _, _, _, rfl⟩, Same.off (Same.off sx4 nD0 off_upd) nR off_upd, ?_, ?_, putK kvs (Sum.inl es[i].k) (.bl es[i].d), ?_, by omega, ?_⟩
      · have w1 : W ≠ R := fun z => by
          rw [z, hR4] at hW4
          have := congrArg List.length (HO.lst.inj (Option.some.inj hW4))
          rw [List.length_map, List.length_map, List.length_map] at this
          omega
        have w2 : W ≠ D := ne_of hW4 hD4 (by intro z; cases z)
        rw [upd_ne w1, upd_ne w2]
        exact hW4
      · refine ⟨as ++ [b], by rw [upd_same, List.map_append]; rfl, ?_⟩
        rw [List.take_add_one, hq]
        have t1 := hT4.snoc (a := b) (e := es[i]) hb
        exact ⟨t1.1, fun i a e u v => tkR _ _ (tkD _ _ (t1.2 i a e u v))⟩
      · rw [upd_ne RD.symm]; exact upd_same
      · rw [List.take_add_one, hq]
        exact hk.put
    · obtain ⟨⟨y3, y4, y5, y6, rfl⟩, sx, hWx, hLx, _⟩ := p
      rw [List.length_map, List.length_map, List.take_length] at hLx
      exact ⟨_, rfl, q _ R sx nR hLx⟩
end
end K66

set_option Elab.async false
set_option linter.all false
set_option maxRecDepth 100000
set_option maxHeartbeats 8000000
namespace K66
open PySem PySem.Spec PyProof.Rows L2 Gd Rm La Cb Pl
/-- what comes out of an event: nothing, a press, a release -/
inductive Outp where
  | no
  | pr (c : Str)
  | re (c : Str)
def outL : Outp → List V
  | .no => []
  | .pr c => [.str "press", .str c]
  | .re c => [.str "release", .str c]
def OutV (H : Hp) (o : Outp) (v : V) : Prop := ∃ T, v = .ref T ∧ H T = some (.tup (outL o))
section
variable {P : Program} {w : World} {K : PySem.W.Frag} {mg : Str → Option Value} {base : Heap}
end
end K66

set_option Elab.async false
set_option linter.all false
set_option maxRecDepth 100000
set_option maxHeartbeats 8000000
namespace K66
open PySem PySem.Spec PyProof.Rows L2 Gd Rm La Cb Pl
section
variable {c l d e : Addr} {o y : Int}
end
theorem strOk_code {c : Str} (h : CodeOk c) : PyData.strOk c = true := by
  unfold PyData.strOk
  rw [← Array.all_toList, List.all_eq_true]
  have all : ∀ y ∈ signs.cps.toList, decide (y < 0x110000) = true := by decide +kernel
  exact fun y hy => all y (h.2.2 y hy)
section
variable {P : Program} {w : World} {K : PySem.W.Frag} {mg : Str → Option Value} {base : Heap}
end
end K66

set_option Elab.async false
set_option linter.all false
set_option maxRecDepth 100000
set_option maxHeartbeats 8000000
namespace K66
open PySem PySem.Spec PyProof.Rows L2 Gd Rm La Cb Pl
theorem OutV.keep {H H' : Hp} {o : Outp} {v : V} (h : OutV H o v) (k : Tk H H') : OutV H' o v := by
  obtain ⟨T, e, h1⟩ := h
  exact ⟨T, e, k _ _ h1⟩
end K66

set_option Elab.async false
set_option linter.all false
set_option maxRecDepth 100000
set_option maxHeartbeats 8000000
namespace K66
open PySem PySem.Spec PyProof.Rows L2 Gd Rm La Cb Pl
def outD : Outp → PyData
  | .no => .tuple []
  | .pr c => .tuple [.str "press", .str c]
  | .re c => .tuple [.str "release", .str c]
def OutOk : Outp → Prop
  | .no => True
  | .pr c => CodeOk c
  | .re c => CodeOk c
theorem fit_out {o : Outp} (h : OutOk o) : Fit 500 1 (outD o) := by
  cases o with
  | no => exact ⟨rfl, by decide, by decide +kernel⟩
  | pr c => exact fit_two' (fit_const "press") (fit_code h)
  | re c => exact fit_two' (fit_const "release") (fit_code h)
theorem OutV.dp {K : PySem.W.Frag} {H : Hp} {o : Outp} {v : V} (h : OutV H o v) : Dp K H v (outD o) := by
  obtain ⟨T, rfl, hT⟩ := h
  cases o with
  | no => exact .tup (SqT.of hT) .nil
  | pr c => exact .tup (SqT.of hT) (.cons (.str _) (.cons (.str _) .nil))
  | re c => exact .tup (SqT.of hT) (.cons (.str _) (.cons (.str _) .nil))
theorem out_lay {o : Outp} (h : OutOk o) : SeqAt.shaped (outD o) = true := by
  cases o with
  | no => decide +kernel
  | pr c => simp [SeqAt.shaped, outD, PyData.canLay0, PyData.canLayAll0, PyData.depth, PyData.depthAll, (by decide +kernel : PyData.strOk "press" = true), strOk_code h]
  | re c => simp [SeqAt.shaped, outD, PyData.canLay0, PyData.canLayAll0, PyData.depth, PyData.depthAll, (by decide +kernel : PyData.strOk "release" = true), strOk_code h]
def isOut : Outp → Bool
  | .no => false
  | _ => true
theorem eqv_out : ∀ o : Outp, PyData.eqv (outD o) (.tuple []) = !isOut o
  | .no => by decide +kernel
  | .pr _ => rfl
  | .re _ => rfl
def OutsV (H : Hp) (vs : List V) (os : List Outp) : Prop := vs.length = os.length ∧ ∀ (i : Nat) (v : V) (o : Outp), vs[i]? = some v → os[i]? = some o → OutV H o v
def Outs (H : Hp) (D : Addr) (os : List Outp) : Prop := ∃ vs, H D = some (.lst vs) ∧ OutsV H vs os
section
variable {H H' : Hp} {vs : List V} {os : List Outp} {D : Addr}
theorem OutsV.keep (h : OutsV H vs os) (t : Tk H H') : OutsV H' vs os := ⟨h.1, fun i v o a b => (h.2 i v o a b).keep t⟩
theorem Outs.same (h : Outs H D os) (s : Same H H') : Outs H' D os := by
  obtain ⟨vs, a, b⟩ := h
  exact ⟨vs, s _ _ a, b.keep (Tk.of s)⟩
theorem OutsV.nil : OutsV H [] [] := ⟨rfl, fun i v o h _ => by simp at h⟩
theorem OutsV.snoc {v : V} {o : Outp} (h : OutsV H vs os) (hv : OutV H o v) : OutsV H (vs ++ [v]) (os ++ [o]) := by
  refine ⟨by rw [List.length_append, List.length_append, h.1]; rfl, fun i u y a b => ?_⟩
  have hl := h.1
  rcases Nat.lt_or_ge i vs.length with q | q
  · rw [List.getElem?_append_left q] at a
    rw [List.getElem?_append_left (by omega)] at b
    exact h.2 i u y a b
  · have hi : i = vs.length := by
      have := (List.getElem?_eq_some_iff.mp a).1
      rw [List.length_append] at this
      simp at this
      omega
    subst hi
    rw [List.getElem?_append_right (Nat.le_refl _), Nat.sub_self] at a
    rw [List.getElem?_append_right (by omega), show vs.length - os.length = 0 by omega] at b
    have e1 : v = u := Option.some.inj a
    have e2 : o = y := Option.some.inj b
    subst e1 e2
    exact hv
theorem OutsV.dp {K : PySem.W.Frag} : ∀ {vs : List V} {os : List Outp}, OutsV H vs os → DpAll K H vs (os.map outD)
  | [], [], _ => .nil
  | [], _ :: _, h => by have := h.1; simp at this
  | _ :: _, [], h => by have := h.1; simp at this
  | v :: vs, x :: xs, h => .cons ((h.2 0 v x rfl rfl).dp) (OutsV.dp ⟨by have := h.1; simpa using this, fun i u y a b => h.2 (i + 1) u y (by simpa using a) (by simpa using b)⟩)
theorem Outs.dp {K : PySem.W.Frag} (h : Outs H D os) : Dp K H (.ref D) (.list (os.map outD)) := by
  obtain ⟨vs, a, b⟩ := h
  exact .lst (SqL.of a) b.dp
end
theorem fit_outs {os : List Outp} (h : ∀ o ∈ os, OutOk o) (hl : os.length ≤ 400) : Fit 210000 2 (.list (os.map outD)) := by
  refine Fit.mono (fit_list (L := 500) (n := 1) fun d hd => ?_) (by rw [List.length_map]; omega) (Nat.le_refl _)
  obtain ⟨o, ho, rfl⟩ := List.mem_map.mp hd
  exact fit_out (h o ho)
end K66

set_option Elab.async false
set_option linter.all false
set_option maxRecDepth 100000
set_option maxHeartbeats 8000000
namespace K66
open PySem PySem.Spec PyProof.Rows L2 Gd Rm La Cb Pl
def outTx : Outp → Str
  | .no => (("." : String) : Str)
  | .pr c => (("+" : String) : Str) ++ c
  | .re c => (("-" : String) : Str) ++ c
theorem out_len {o : Outp} (h : OutOk o) : (outTx o).length ≤ 9 := by
  have lp : ((("+" : String) : Str)).length = 1 := by decide +kernel
  have lm : ((("-" : String) : Str)).length = 1 := by decide +kernel
  cases o with
  | no => show ((("." : String) : Str)).length ≤ 9; decide +kernel
  | pr c =>
    have := Tx.code_len (show CodeOk c from h)
    show ((("+" : String) : Str) ++ c).length ≤ 9
    rw [Tx.len_app, lp]; omega
  | re c =>
    have := Tx.code_len (show CodeOk c from h)
    show ((("-" : String) : Str) ++ c).length ≤ 9
    rw [Tx.len_app, lm]; omega
def resT (os : List Outp) : Str := Txt.join ((" " : String) : Str) (os.map outTx)
def wordsO : List Str := ["press", "release"]
section
variable {P : Program} {w : World} {K : PySem.W.Frag} {mg : Str → Option Value} {base : Heap}
def spIsOut : Sp := fun vs H Q _ => ∃ (T : Addr) (o : Outp), vs = [.ref T] ∧ H T = some (.tup (outL o)) ∧ OutOk o ∧ ∀ H', Same H H' → Q (.bl true) H'
theorem ok_is_output (bt : Bt mg) {g_OUTPUT_WORDS : Addr} (m_OUTPUT_WORDS : mg "OUTPUT_WORDS" = some (.ref g_OUTPUT_WORDS)) (t_OUTPUT_WORDS : ∀ H, SqT K H g_OUTPUT_WORDS (wordsO.map V.str)) (a : At K mg "is_output" s_is_output ["value"]) (c_is_code : Cl P w K mg base 1 "is_code" spCode) : Cl P w K mg base 2 "is_output" spIsOut := by
  refine clG a sc_is_output (fun vs H Q E h => ?_) (fun f cdv A outer s H vs Q hg hr h => ?_)
  · obtain ⟨T, o, rfl, _⟩ := h
    rfl
  · obtain ⟨T, o, rfl, hT, ho, q⟩ := h
    refine ⟨_, (pss_cons (ps_if (PW.pt (pw_or (pt_not (pt_val (pe_callB call_isi (by rfl) bt.m_isinstance (by decide +kernel) (pa_cons (pv 0) (pa_cons (pe_bltn (v := .ty "tuple") (by rfl) bt.m_tuple (by decide +kernel) rfl) pa_nil))))) (pw_or1 (pt_cmpR op_notIn_seq (pe_callB call_len_seq (by rfl) bt.m_len (by decide +kernel) (pa_cons (pv 0) pa_nil)) (pe_tup (pa_cons pe_int (pa_cons pe_int pa_nil))) (by rfl))))) (pss_one (ps_ret pe_bl)) pss_nil)
      (pss_cons (ps_if (pt_cmpR op_eq (pe_callB call_len_seq (by rfl) bt.m_len (by decide +kernel) (pa_cons (pv 0) pa_nil)) pe_int (nomark _)) (pss_one (ps_ret pe_bl)) pss_nil)
      (pss_cons (ps_asg (pv 0) (pg_tup rfl (pgs_cons (pg_name (i := 1) sc_is_output.nd rfl (Or.inl rfl)) (pgs_cons (pg_name (i := 2) sc_is_output.nd rfl (Or.inl rfl)) pgs_nil))))
      (pss_one (ps_ret (pe_and (pe_callB call_isi (by rfl) bt.m_isinstance (by decide +kernel) (pa_cons (pv 1) (pa_cons (pe_bltn (v := .ty "str") (by rfl) bt.m_str (by decide +kernel) rfl) pa_nil))) (pe_and (pe_cmpR op_in_seq (pv 1) (pe_glob (v := .ref g_OUTPUT_WORDS) (by rfl) m_OUTPUT_WORDS rfl) (by rfl)) (pe_one (pe_cl c_is_code hg hr (by decide) (by rfl) (pa_cons (pv 2) pa_nil)))))))))), ?_⟩
    refine ⟨_, rfl, _, _, _, _, true, rfl, .ty "tuple", .base (.tup hT), kit_ty (by decide +kernel), _, rfl, iteF ?_⟩
    refine ⟨_, rfl, T, _, rfl, .inr (SqT.of hT), (by show 2 ≤ sizeLine; decide), fun Z nZ => ?_⟩
    have kZ := same_upd (o := .tup [.int 0, .int 2]) nZ
    have hT2 := kZ _ _ hT
    refine ⟨Z, _, rfl, .inr (SqT.of upd_same), rfl, rfl, false, ?_, iteF ?_⟩
    · cases o <;> rfl
    refine ⟨_, rfl, T, _, rfl, .inr (SqT.of hT2), rfl, decide ((outL o).length = 0), ?_, ?_⟩
    · exact eqI (by cases o <;> rfl)
    cases o with
    | no => exact iteT (q _ kZ)
    | pr c =>
      refine iteF ⟨_, rfl, T, _, rfl, SqT.of hT2, rfl, _, _, rfl, _, _, rfl, rfl, ?_⟩
      refine ⟨_, rfl, _, _, _, _, true, rfl, .ty "str", .base (.str _), kit_ty (by decide +kernel), true, rfl, iteT ?_⟩
      refine ⟨_, rfl, g_OUTPUT_WORDS, _, rfl, .inr (t_OUTPUT_WORDS _), rfl, by decide +kernel, true, congrArg V.bl (by rw [inv_str]; decide +kernel), iteT ⟨_, rfl, c, rfl, ho, fun H' s => q _ (kZ.trans s)⟩⟩
    | re c =>
      refine iteF ⟨_, rfl, T, _, rfl, SqT.of hT2, rfl, _, _, rfl, _, _, rfl, rfl, ?_⟩
      refine ⟨_, rfl, _, _, _, _, true, rfl, .ty "str", .base (.str _), kit_ty (by decide +kernel), true, rfl, iteT ?_⟩
      refine ⟨_, rfl, g_OUTPUT_WORDS, _, rfl, .inr (t_OUTPUT_WORDS _), rfl, by decide +kernel, true, congrArg V.bl (by rw [inv_str]; decide +kernel), iteT ⟨_, rfl, c, rfl, ho, fun H' s => q _ (kZ.trans s)⟩⟩
def spAreOut : Sp := fun vs H Q _ => ∃ (D : Addr) (os : List Outp), vs = [.ref D] ∧ Outs H D os ∧ (∀ o ∈ os, OutOk o) ∧ os.length ≤ 400 ∧ ∀ H', Same H H' → Q (.bl true) H'
theorem ok_are_outputs (bt : Bt mg) (a : At K mg "are_outputs" s_are_outputs ["value"]) (c_is_output : Cl P w K mg base 2 "is_output" spIsOut) : Cl P w K mg base 3 "are_outputs" spAreOut := by
  refine clG a sc_are_outputs (fun vs H Q E h => ?_) (fun f cdv A outer s H vs Q hg hr h => ?_)
  · obtain ⟨T, o, rfl, _⟩ := h
    rfl
  · obtain ⟨D, os, rfl, ⟨us, hD, hU⟩, ho, hl, q⟩ := h
    refine ⟨_, (pss_one (ps_ret (pe_and (pe_callB call_isi (by rfl) bt.m_isinstance (by decide +kernel) (pa_cons (pv 0) (pa_cons (pe_bltn (v := .ty "list") (by rfl) bt.m_list (by decide +kernel) rfl) pa_nil))) (pe_one (pe_callB (cr_all rfl) (by rfl) bt.m_all (by decide +kernel) (pa_cons (pe_lc (own := [("output", 1)]) (g := (gName 1)) (by rfl) sc_are_outputs.nd (pi_list (pv 0)) (blkOk_by (N := n_are_outputs) (sc := defScope s_are_outputs) (by decide +kernel)) (fun _ _ _ _ _ => (pg_name (i := 1) sc_are_outputs.nd rfl (Or.inl rfl))) (fun _ _ _ _ _ => pts_nil) (fun _ _ _ _ _ => (pe_cl c_is_output hg hr (by decide) (by rfl) (pa_cons (pv 1) pa_nil)))) pa_nil)))))), ?_⟩
    have hul := hU.1
    refine ⟨_, rfl, _, _, _, _, true, rfl, .ty "list", .base (.lst hD), kit_ty (by decide +kernel), true, rfl, iteT ?_⟩
    refine ⟨_, rfl, D, rfl, ⟨_, SqL.of hD⟩, fun M nM => lc_it (walk_list (xs := us)) (fun j H' => Same H H' ∧ H' M = some (.lst ((List.replicate j true).map V.bl))) ⟨same_upd nM, upd_same⟩ (fun j H' _ p => SqL.of (p.1 _ _ hD)) (fun j x Hx Hy hj p y => ?_) (fun H3 p => ?_)⟩
    · obtain ⟨sx, hM⟩ := p
      obtain ⟨rfl, hx⟩ := y
      have hj' : j < os.length := by omega
      obtain ⟨T, rfl, hT⟩ := hU.2 j x _ hx (List.getElem?_eq_getElem hj')
      refine ⟨rfl, _, rfl, T, os[j], rfl, sx _ _ hT, ho _ (List.getElem_mem hj'), fun H4 s4 => ?_⟩
      refine ⟨_, s4 _ _ hM, small1000 (by rw [List.length_map, List.length_replicate]; omega), Same.off (sx.trans s4) nM off_upd, ?_⟩
      rw [upd_same, List.replicate_succ', List.map_append]
      rfl
    · obtain ⟨sx, hM⟩ := p
      refine ⟨M, _, rfl, SqL.of hM, ?_⟩
      rw [allTrue]
      exact q _ sx
def spOSign : Sp := fun vs H Q _ => ∃ b : Bool, vs = [.str (if b then (("press" : String) : Str) else (("release" : String) : Str))] ∧ Q (.str (signW b)) H
theorem ok_output_sign (a : At K mg "output_sign" s_output_sign ["word"]) : Cl P w K mg base 1 "output_sign" spOSign := by
  refine clG a sc_output_sign (fun vs H Q E h => ?_) (fun f cdv A outer s H vs Q hg hr h => ?_)
  · obtain ⟨b, rfl, _⟩ := h
    rfl
  · obtain ⟨b, rfl, q⟩ := h
    refine ⟨_, (pss_one (ps_ret (pe_ifExp (pt_cmpR op_eq (pv 0) pe_str (nomark _)) pe_str pe_str))), ?_⟩
    cases b with
    | true => exact ⟨_, rfl, rfl, true, eqS (decide_eq_true rfl), iteT q⟩
    | false => exact ⟨_, rfl, rfl, false, eqS (p := false) (by decide +kernel), iteF q⟩
def spOTx : Sp := fun vs H Q _ => ∃ (T : Addr) (o : Outp), vs = [.ref T] ∧ H T = some (.tup (outL o)) ∧ OutOk o ∧ ∀ H', Same H H' → Q (.str (outTx o)) H'
theorem ok_output_text (a : At K mg "output_text" s_output_text ["output"]) (c_output_sign : Cl P w K mg base 1 "output_sign" spOSign) : Cl P w K mg base 2 "output_text" spOTx := by
  refine clG a sc_output_text (fun vs H Q E h => ?_) (fun f cdv A outer s H vs Q hg hr h => ?_)
  · obtain ⟨T, o, rfl, _⟩ := h
    rfl
  · obtain ⟨T, o, rfl, hT, ho, q⟩ := h
    refine ⟨_, (pss_cons (ps_if (pt_cmpR (op_eqD hr.units) (pv 0) (pe_tup pa_nil) (nomark _)) (pss_one (ps_ret pe_str)) pss_nil)
      (pss_cons (ps_asg (pv 0) (pg_tup rfl (pgs_cons (pg_name (i := 1) sc_output_text.nd rfl (Or.inl rfl)) (pgs_cons (pg_name (i := 2) sc_output_text.nd rfl (Or.inl rfl)) pgs_nil))))
      (pss_one (ps_ret (pe_op op_add_str (pe_cl c_output_sign hg hr (by decide) (by rfl) (pa_cons (pv 1) pa_nil)) (pv 2)))))), ?_⟩
    refine ⟨_, rfl, Nat.zero_le _, fun Z nZ => ?_⟩
    have kZ := same_upd (o := .tup []) nZ
    have hT2 := kZ _ _ hT
    have dpo : Dp K (upd H Z (.tup [])) (.ref T) (outD o) := OutV.dp ⟨T, rfl, hT2⟩
    have ol := out_len ho
    refine ⟨_, _, dpo, .tup (SqT.of upd_same) .nil, out_lay ho, by decide +kernel, !isOut o, congrArg V.bl (eqv_out o), ?_⟩
    cases o with
    | no => exact iteT (q _ kZ)
    | pr c =>
      refine iteF ⟨_, rfl, T, _, rfl, SqT.of hT2, rfl, _, _, rfl, _, _, rfl, rfl, ?_⟩
      refine ⟨_, rfl, true, rfl, _, rfl, _, _, rfl, rfl, ?_, q _ kZ⟩
      rw [sizeLine_eq]
      have e1 : (signW true).length = 1 := sign_len true
      have := Tx.code_len (show CodeOk c from ho)
      omega
    | re c =>
      refine iteF ⟨_, rfl, T, _, rfl, SqT.of hT2, rfl, _, _, rfl, _, _, rfl, rfl, ?_⟩
      refine ⟨_, rfl, false, rfl, _, rfl, _, _, rfl, rfl, ?_, q _ kZ⟩
      rw [sizeLine_eq]
      have e1 : (signW false).length = 1 := sign_len false
      have := Tx.code_len (show CodeOk c from ho)
      omega
def spFmtO : Sp := fun vs H Q _ => ∃ (D : Addr) (os : List Outp), vs = [.ref D] ∧ Outs H D os ∧ (∀ o ∈ os, OutOk o) ∧ os.length ≤ 400 ∧ ∀ H', Same H H' → Q (.str (resT os)) H'
theorem ok_format_result (bt : Bt mg) {tk : Tok} (m_MOST_EVENTS : mg "MOST_EVENTS" = some (.int 400 tk)) (a : At K mg "format_result" s_format_result ["result"]) (c_are_outputs : Cl P w K mg base 3 "are_outputs" spAreOut) (c_output_text : Cl P w K mg base 2 "output_text" spOTx) : Cl P w K mg base 4 "format_result" spFmtO := by
  refine clG a sc_format_result (fun vs H Q E h => ?_) (fun f cdv A outer s H vs Q hg hr h => ?_)
  · obtain ⟨T, o, rfl, _⟩ := h
    rfl
  · obtain ⟨D, os, rfl, hO, ho, hl, q⟩ := h
    refine ⟨_, (pss_cons (ps_if (PW.pt (pw_or (pt_not (pt_val (pe_cl c_are_outputs hg hr (by decide) (by rfl) (pa_cons (pv 0) pa_nil)))) (pw_or1 (pt_cmpR op_gt (pe_callB call_len_seq (by rfl) bt.m_len (by decide +kernel) (pa_cons (pv 0) pa_nil)) (pe_glob (v := .int 400) (by rfl) m_MOST_EVENTS ⟨_, rfl⟩) (nomark _))))) pss_never pss_nil)
      (pss_one (ps_ret (pe_bm PySem.F.plainAttrs_str PySem.F.slot_str_join PySem.F.type_str_join mt_join pe_str (pa_cons (pe_lc (own := [("output", 1)]) (g := (gName 1)) (by rfl) sc_format_result.nd (pi_list (pv 0)) (blkOk_by (N := n_format_result) (sc := defScope s_format_result) (by decide +kernel)) (fun _ _ _ _ _ => (pg_name (i := 1) sc_format_result.nd rfl (Or.inl rfl))) (fun _ _ _ _ _ => pts_nil) (fun _ _ _ _ _ => (pe_cl c_output_text hg hr (by decide) (by rfl) (pa_cons (pv 1) pa_nil)))) pa_nil))))), ?_⟩
    refine ⟨_, rfl, D, os, rfl, hO, ho, hl, fun H1 s1 => ⟨_, rfl, iteF ?_⟩⟩
    obtain ⟨us, hD, hU⟩ := hO.same s1
    have hul := hU.1
    refine ⟨_, rfl, D, _, rfl, .inl (SqL.of hD), _, _, rfl, rfl, _, rfl, ?_⟩
    rw [decide_eq_false (by omega)]
    refine iteF ?_
    refine ⟨rfl, _, rfl, D, rfl, ⟨_, SqL.of hD⟩, fun M nM => lc_it (walk_list (xs := us)) (fun j H' => Same H1 H' ∧ H' M = some (.lst (((os.take j).map outTx).map V.str))) ⟨same_upd nM, upd_same⟩ (fun j H' _ p => SqL.of (p.1 _ _ hD)) (fun j x Hx Hy hj p y => ?_) (fun H3 p => ?_)⟩
    · obtain ⟨sx, hM⟩ := p
      obtain ⟨rfl, hx⟩ := y
      have hj' : j < os.length := by omega
      obtain ⟨T, rfl, hT⟩ := hU.2 j x _ hx (List.getElem?_eq_getElem hj')
      refine ⟨rfl, _, rfl, T, os[j], rfl, sx _ _ hT, ho _ (List.getElem_mem hj'), fun H4 s4 => ?_⟩
      refine ⟨_, s4 _ _ hM, small1000 (by rw [List.length_map, List.length_map, List.length_take]; omega), Same.off (sx.trans s4) nM off_upd, ?_⟩
      rw [upd_same, List.take_add_one, List.getElem?_eq_getElem hj', List.map_append, List.map_append]
      rfl
    · obtain ⟨sx, hM⟩ := p
      rw [hul, List.take_length] at hM
      refine ⟨_, M, os.map outTx, rfl, rfl, .inl (SqL.of hM), ?_, q _ (s1.trans sx)⟩
      rw [Tx.sp_len]
      have := lens_sum (ps := os.map outTx) (k := 9) fun p hp => by
        obtain ⟨o, h, rfl⟩ := List.mem_map.mp hp
        exact out_len (ho o h)
      rw [List.length_map] at this ⊢
      omega
end
end K66

set_option Elab.async false
set_option linter.all false
set_option maxRecDepth 100000
set_option maxHeartbeats 8000000
namespace K66
open PySem PySem.Spec PyProof.Rows L2 Gd Rm La Cb Pl
theorem small_ev {es : List Ev} (h : ∀ e ∈ es, EvLow e) : Small es := fun e he => by
  have h := h e he
  have := h.k0
  have := h.k1
  have := h.t.1
  have := h.t.2
  have := p30
  have q : (2 : Nat) ^ 200 > 1000000000000000000000000000000 := by decide
  omega
theorem line_of {L n : Nat} {d : PyData} (h : Fit L n d) (hl : L ≤ 6000000) : d.shown.length ≤ sizeLine := by
  have := h.ln
  rw [sizeLine_eq]
  omega
theorem neV (x : V) : V.bl (!decide (x = x)) = V.bl false := by simp
theorem eqVt (x : V) : V.bl (decide (x = x)) = V.bl true := by simp
theorem sign_ch (d : Bool) : atI [V.str "-", .str "+"] (if d = true then 1 else 0) = some (.str (signW d)) := by
  cases d with
  | true => exact atI_nat (j := 1) rfl
  | false => exact atI_nat (j := 0) rfl
theorem strOk_low {s : Str} (h : ∀ c ∈ TL.tl s, c < 0x110000) : PyData.strOk s = true := by
  unfold PyData.strOk
  rw [← Array.all_toList, List.all_eq_true]
  exact fun y hy => decide_eq_true (h y hy)
theorem out_low {o : Outp} (ho : OutOk o) : ∀ c ∈ TL.tl (outTx o), c < 0x110000 := by
  have lp : TL.tl ((("+" : String) : Str)) = [43] := by decide +kernel
  have lm : TL.tl ((("-" : String) : Str)) = [45] := by decide +kernel
  have ld : TL.tl ((("." : String) : Str)) = [46] := by decide +kernel
  intro c hc
  cases o with
  | no =>
    have hc : c ∈ TL.tl ((("." : String) : Str)) := hc
    rw [ld] at hc
    rw [List.mem_singleton.mp hc]; decide
  | pr y =>
    have hc : c ∈ TL.tl ((("+" : String) : Str) ++ y) := hc
    rw [TL.tl_append, lp] at hc
    rcases List.mem_append.mp hc with h | h
    · rw [List.mem_singleton.mp h]; decide
    · rcases Tx.code_low (show CodeOk y from ho) c h with q | q <;> omega
  | re y =>
    have hc : c ∈ TL.tl ((("-" : String) : Str) ++ y) := hc
    rw [TL.tl_append, lm] at hc
    rcases List.mem_append.mp hc with h | h
    · rw [List.mem_singleton.mp h]; decide
    · rcases Tx.code_low (show CodeOk y from ho) c h with q | q <;> omega
theorem res_ok {os : List Outp} (h : ∀ o ∈ os, OutOk o) : PyData.strOk (resT os) = true := strOk_low fun c hc => by
  unfold resT at hc
  rw [Tx.join_tl] at hc
  rcases Tx.joinL_mem _ c _ hc with z | ⟨p, hp, z⟩
  · rw [Tx.tl_s3] at z
    rw [List.mem_singleton.mp z]; decide
  · obtain ⟨q, hq, rfl⟩ := List.mem_map.mp hp
    obtain ⟨o, ho, rfl⟩ := List.mem_map.mp hq
    exact out_low (h o ho) c z
theorem flat_rep {v : V} (m : Nat) : (List.replicate m [v]).flatten = List.replicate m v := by
  induction m with
  | zero => rfl
  | succ m ih => rw [List.replicate_succ, List.flatten_cons, ih]; rfl
section
variable {P : Program} {w : World} {K : PySem.W.Frag} {mg : Str → Option Value} {base : Heap}
def spRTx : Sp := fun vs H Q _ => ∃ (c : Addr) (es : List Ev), vs = [.ref c] ∧ Lst evV H c es ∧ es.length ≤ 400 ∧ (∀ e ∈ es, EvLow e) ∧ ∀ H', Same H H' → Q (.str (recT es)) H'
theorem ok__law_record_text (bt : Bt mg) (a : At K mg "_law_record_text" s__law_record_text ["_law_record_here"]) : Cl P w K mg base 1 "_law_record_text" spRTx := by
  refine clG a sc__law_record_text (fun vs H Q E h => ?_) (fun f cdv A outer s H vs Q hg hr h => ?_)
  · obtain ⟨c, es, rfl, _⟩ := h
    rfl
  · obtain ⟨c, es, rfl, hL, hl, he, q⟩ := h
    refine ⟨_, (pss_one (ps_ret (pe_bm PySem.F.plainAttrs_str PySem.F.slot_str_join PySem.F.type_str_join mt_join pe_str (pa_cons (pe_lc (own := [("_law_tick", 1), ("_law_key", 2), ("_law_way", 3)]) (g := (gTup K 3 (gCons (gName 1) (gCons (gName 2) (gCons (gName 3) gNil))))) (by rfl) sc__law_record_text.nd (pi_list (pv 0)) (blkOk_by (N := n__law_record_text) (sc := defScope s__law_record_text) (by decide +kernel)) (fun _ _ _ _ _ => (pg_tup rfl (pgs_cons (pg_name (i := 1) sc__law_record_text.nd rfl (Or.inl rfl)) (pgs_cons (pg_name (i := 2) sc__law_record_text.nd rfl (Or.inl rfl)) (pgs_cons (pg_name (i := 3) sc__law_record_text.nd rfl (Or.inl rfl)) pgs_nil))))) (fun _ _ _ _ _ => pts_nil) (fun _ _ _ _ _ => (pe_op op_add_str (pe_op op_add_str (pe_callTy call_str_int (by rfl) bt.m_str (by decide +kernel) (pa_cons (pv 2) pa_nil)) (pe_ix (r := rIxL K) ix_list (pe_lst (pa_cons pe_str (pa_cons pe_str pa_nil))) (pe_callTy call_int1 (by rfl) bt.m_int (by decide +kernel) (pa_cons (pe_cmpR op_eq (pv 3) pe_str (nomark _)) pa_nil)) (fun _ _ => rfl))) (pe_callTy call_str_int (by rfl) bt.m_str (by decide +kernel) (pa_cons (pv 1) pa_nil))))) pa_nil)))), ?_⟩
    obtain ⟨as, hc, hT⟩ := hL
    have low : sizeLine = 16777216 := sizeLine_eq
    refine ⟨rfl, _, rfl, c, rfl, ⟨_, SqL.of hc⟩, fun M nM => lc_it (walk_list (xs := as.map V.ref)) (fun j H' => Same H H' ∧ H' M = some (.lst (((es.take j).map evT).map V.str))) ⟨same_upd nM, upd_same⟩ (fun j H' _ p => SqL.of (p.1 _ _ hc)) (fun j x Hx Hy hj p y => ?_) (fun H3 p => ?_)⟩
    · obtain ⟨sx, hM⟩ := p
      obtain ⟨rfl, hx⟩ := y
      have hj' : j < es.length := by rw [List.length_map] at hj; rw [← hT.1]; exact hj
      obtain ⟨b, hb, hbt⟩ := hT.at_ hj'
      have ex : V.ref b = x := Option.some.inj ((by rw [List.getElem?_map, hb]; rfl : (as.map V.ref)[j]? = some (.ref b)).symm.trans hx)
      subst ex
      have hej := he _ (List.getElem_mem hj')
      have lk := num_len hej.k
      have lt := num_len hej.t
      have ls := sign_len es[j].d
      refine ⟨b, _, rfl, SqT.of (sx _ _ hbt), rfl, _, _, rfl, _, _, rfl, _, _, rfl, rfl, ⟨rfl, ?_⟩⟩
      refine ⟨_, rfl, es[j].k, rfl, log_low hej.k, (by show 2 ≤ sizeLine; decide), fun Z nZ => ?_⟩
      have kZ := same_upd (o := .lst [.str "-", .str "+"]) nZ
      refine ⟨_, rfl, rfl, .inr ⟨es[j].d, congrArg (fun z => [z]) (by rw [wayS_down]), Z, _, _, _, rfl, rfl, SqL.of upd_same, sign_ch _, _, _, rfl, rfl, ?_, _, rfl, es[j].t, rfl, log_low hej.t, _, _, rfl, rfl, ?_, ?_⟩⟩
      · show (Tx.numS es[j].k).length + (signW es[j].d).length ≤ sizeLine
        omega
      · show (Tx.numS es[j].k ++ signW es[j].d).length + (Tx.numS es[j].t).length ≤ sizeLine
        rw [Tx.len_app]
        omega
      · refine ⟨_, kZ _ _ hM, small1000 (by rw [List.length_map, List.length_map, List.length_take]; omega), Same.off (sx.trans kZ) nM off_upd, ?_⟩
        rw [upd_same, List.take_add_one, List.getElem?_eq_getElem hj', List.map_append, List.map_append]
        rfl
    · obtain ⟨sx, hM⟩ := p
      rw [show (as.map V.ref).length = es.length by rw [List.length_map]; exact hT.1, List.take_length] at hM
      exact ⟨_, M, es.map evT, rfl, rfl, .inl (SqL.of hM), rec_lens he hl, q _ sx⟩
def spRight : Sp := fun vs H Q _ => ∃ (c : Addr) (es : List Ev) (b : Bool), vs = [.ref c, .bl b] ∧ Lst evV H c es ∧ Valid es ∧ es.length ≤ 400 ∧ (∀ e ∈ es, EvLow e) ∧ ∀ H', Same H H' → Q (.bl true) H'
theorem ok__law_right (bt : Bt mg) (a : At K mg "_law_right" s__law_right ["_law_record_here", "_law_is_far"]) (c__law_record_text : Cl P w K mg base 1 "_law_record_text" spRTx) (c_format_record : Cl P w K mg base 5 "format_record" spFmtR) (c_parse_record : Cl P w K mg base 4 "parse_record" spParseR) : Cl P w K mg base 6 "_law_right" spRight := by
  refine clG a sc__law_right (fun vs H Q E h => ?_) (fun f cdv A outer s H vs Q hg hr h => ?_)
  · obtain ⟨c, es, b, rfl, _⟩ := h
    rfl
  · obtain ⟨c, es, b, rfl, hL, hV, hl, he, q⟩ := h
    refine ⟨_, (pss_cons (ps_par (i := 2) (j := 3) rfl sc__law_right.nd rfl rfl (by decide) rfl rfl (pa_cons (pe_callB (call_repA hg hr) (by rfl) bt.m_repr (by decide +kernel) (pa_cons (pv 0) pa_nil)) (pa_cons (pe_cl c__law_record_text hg hr (by decide) (by rfl) (pa_cons (pv 0) pa_nil)) pa_nil)) (by rfl))
      (pss_cons (ps_for PassesOwn.never rfl (pi_range1 (by rfl) bt.m_range (pa_cons pe_int pa_nil)) (pg_name (i := 4) sc__law_right.nd rfl (Or.inl rfl)) (C8.pss_cut (ps_set (i := 5) sc__law_right.nd rfl (Or.inl rfl) (pe_ifExp (pt_val (pv 1)) (pv 3) (pe_cl c_format_record hg hr (by decide) (by rfl) (pa_cons (pv 0) pa_nil))))
      (pss_cons (ps_set (i := 6) sc__law_right.nd rfl (Or.inl rfl) (pe_cl c_parse_record hg hr (by decide) (by rfl) (pa_cons (pv 5) pa_nil)))
      (C8.pss_cut (ps_if (PW.pt (pw_or (pt_cmpR op_ne (pv 5) (pv 3) (nomark _)) (pw_or (pt_cmpR op_ne (pe_callB (call_repA hg hr) (by rfl) bt.m_repr (by decide +kernel) (pa_cons (pv 6) pa_nil)) (pv 2) (nomark _)) (pw_or (pt_cmpR op_ne (pe_cl c_format_record hg hr (by decide) (by rfl) (pa_cons (pv 6) pa_nil)) (pv 3) (nomark _)) (pw_or1 (pt_cmpR op_ne (pe_callB (call_repA hg hr) (by rfl) bt.m_repr (by decide +kernel) (pa_cons (pv 0) pa_nil)) (pv 2) (nomark _))))))) (pss_one (ps_ret pe_bl)) pss_nil)
      (pss_one (ps_expr (pe_bm PySem.F.plainAttrs_list PySem.F.slot_list_append PySem.F.type_list_append mt_append (pv 6) (pa_cons pe_non pa_nil))))))))
      (pss_one (ps_ret pe_bl)))), ?_⟩
    have R1 := fit_rec (small_ev he) (by omega : es.length ≤ 1000)
    have dp1 : ∀ {H' : Hp} {z : Addr}, Lst evV H' z es → Dp K H' (.ref z) (recD es) := fun {H' z} h => Lst.dp h
    refine ⟨_, rfl, _, _, rfl, dp1 hL, R1.sh, by have := R1.dp; omega, line_of R1 (by decide), ?_⟩
    refine ⟨_, rfl, c, es, rfl, hL, hl, he, fun H1 s1 => ⟨_, _, rfl, ?_⟩⟩
    refine ⟨2, rfl, by decide, by decide, for_it walk_range (fun i σ H' => ∃ y4 y5 y6 : Option V, σ = [some (.ref c), some (.bl b), some (.str (recD es).shown), some (.str (recT es)), y4, y5, y6] ∧ Same H H')
      ⟨_, _, _, rfl, s1⟩ (fun _ _ _ _ _ => True.intro) (fun i x σ Hx Hy hi p y => ?_) (fun σ H5 p => ?_)⟩
    · obtain ⟨y4, y5, y6, rfl, sx⟩ := p
      obtain ⟨rfl, hx⟩ := y
      subst hx
      refine ⟨fun σ' H' => (∃ y4 y6 : Option V, σ' = [some (.ref c), some (.bl b), some (.str (recD es).shown), some (.str (recT es)), y4, some (.str (recT es)), y6]) ∧ Same H H', ?_, ?_⟩
      · refine ⟨_, rfl, b, rfl, ?_⟩
        cases b with
        | true => exact iteT ⟨_, rfl, ⟨_, _, rfl⟩, sx⟩
        | false => exact iteF ⟨_, rfl, c, es, rfl, hL.same sx, hV, hl, he, fun H2 s2 => ⟨⟨_, _, rfl⟩, sx.trans s2⟩⟩
      rintro σ' H2 ⟨⟨y4, y6, rfl⟩, s2⟩
      refine ⟨_, rfl, es, rfl, hV, hl, he, fun H3 p s3 np hp => ?_⟩
      have s23 := s2.trans s3
      refine ⟨fun σ' H4 => (∃ y4 : Option V, σ' = [some (.ref c), some (.bl b), some (.str (recD es).shown), some (.str (recT es)), y4, some (.str (recT es)), some (.ref p)]) ∧ Same H3 H4, ?_, ?_⟩
      · refine ⟨_, rfl, _, rfl, rfl, false, neV _, iteF ?_⟩
        refine ⟨_, rfl, _, _, rfl, dp1 hp, R1.sh, by have := R1.dp; omega, line_of R1 (by decide), _, rfl, rfl, false, neV _, iteF ?_⟩
        refine ⟨_, rfl, p, es, rfl, hp, hV, hl, he, fun H4 s4 => ⟨_, rfl, rfl, false, neV _, iteF ?_⟩⟩
        refine ⟨_, rfl, _, _, rfl, dp1 ((hL.same s23).same s4), R1.sh, by have := R1.dp; omega, line_of R1 (by decide), _, rfl, rfl, false, neV _, iteF ?_⟩
        exact ⟨⟨_, rfl⟩, s4⟩
      rintro σ' H4 ⟨⟨y4, rfl⟩, s4⟩
      obtain ⟨as, hpa, hT⟩ := hp.same s4
      have np2 : H p = none := none_back s2 np
      exact ⟨_, rfl, .inl ⟨rfl, _, SqL.of hpa⟩, p, _, .non, rfl, rfl, hpa, small1000 (by rw [List.length_map, hT.1]; omega), _, _, _, rfl, Same.off (s23.trans s4) np2 off_upd⟩
    · obtain ⟨y4, y5, y6, rfl, sx⟩ := p
      exact q _ sx
end
end K66

set_option Elab.async false
set_option linter.all false
set_option maxRecDepth 100000
set_option maxHeartbeats 8000000
namespace K66
open PySem PySem.Spec PyProof.Rows L2 Gd Rm La Cb Pl
theorem lay_of {n : Nat} : ∀ ds : List PyData, (∀ d ∈ ds, d.canLay0 = true ∧ PyData.depth d ≤ n) → PyData.canLayAll0 ds = true ∧ PyData.depthAll ds ≤ n
  | [], _ => ⟨rfl, Nat.zero_le _⟩
  | d :: ds, h => by
    obtain ⟨a, b⟩ := lay_of ds fun x hx => h x (List.mem_cons_of_mem _ hx)
    obtain ⟨c1, c2⟩ := h d List.mem_cons_self
    refine ⟨?_, ?_⟩
    · show (PyData.canLay0 d && PyData.canLayAll0 ds) = true
      rw [a, c1]
      rfl
    · show max (PyData.depth d) (PyData.depthAll ds) ≤ n
      omega
theorem shaped_list {n : Nat} (hn : n ≤ 60) {ds : List PyData} (h : ∀ d ∈ ds, d.canLay0 = true ∧ PyData.depth d ≤ n) : SeqAt.shaped (.list ds) = true ∧ (PyData.list ds).canLay0 = true := by
  obtain ⟨a, b⟩ := lay_of ds h
  refine ⟨?_, a⟩
  show (PyData.canLayAll0 ds && decide (PyData.depthAll ds + 1 ≤ 64)) = true
  rw [a, decide_eq_true (by omega)]
  rfl
theorem two_texts {s : Str} (h : PyData.strOk s = true) : SeqAt.shaped (.list [.str s, .str s]) = true ∧ (PyData.list [.str s, .str s]).canLay0 = true := shaped_list (n := 0) (by decide) fun d hd => by
  simp only [List.mem_cons, List.mem_nil_iff, or_false, or_self] at hd
  rw [hd]
  exact ⟨h, Nat.le_refl _⟩
theorem Reel.upd {H : Hp} {r b : Addr} {n : Nat} {o : HO} (h : Reel H r n) (ne : b ≠ r) : Reel (upd H b o) r n := by
  obtain ⟨x, y, z, g, g'⟩ := h
  exact ⟨x, y, z, by rw [upd_ne ne.symm]; exact g, g'⟩
theorem Reel.new {H : Hp} {r b : Addr} {n : Nat} (h : Reel H r n) (nb : H b = none) : b ≠ r := by
  obtain ⟨_, _, _, hr, _⟩ := h
  exact (ne_of_none hr nb).symm
/-- the output of a drawn way -/
def wayO (c : Str) (d : Int) : Outp := if d = 0 then .no else if d = 1 then .pr c else .re c
section
variable {P : Program} {w : World} {K : PySem.W.Frag} {mg : Str → Option Value} {base : Heap}
def spResR : Sp := fun vs H Q _ => ∃ (r : Addr) (k n : Nat), vs = [.ref r, .int (n : Int)] ∧ Reel H r k ∧ k + 50000 < most ∧ n ≤ 400 ∧ ∀ H', Off r H H' → Reel H' r (k + 41000) → Q (.bl true) H'
theorem ok__law_result_right (bt : Bt mg) (a : At K mg "_law_result_right" s__law_result_right ["_law_reel_here", "_law_size"]) (c__law_spin : Cl P w K mg base 1 "_law_spin" spSpin) (c__law_code : Cl P w K mg base 2 "_law_code" spLCode) (c_format_result : Cl P w K mg base 4 "format_result" spFmtO) : Cl P w K mg base 5 "_law_result_right" spResR := by
  refine clG a sc__law_result_right (fun vs H Q E h => ?_) (fun f cdv A outer s H vs Q hg hr h => ?_)
  · obtain ⟨r, k, n, rfl, _⟩ := h
    rfl
  · obtain ⟨r, k, n, rfl, hR, hk, hn, q⟩ := h
    have hk : k + 50000 < 1000000000 := hk
    refine ⟨_, (pss_cons (ps_par (i := 2) (j := 3) rfl sc__law_result_right.nd rfl rfl (by decide) rfl rfl (pa_cons (pe_lst pa_nil) (pa_cons (pe_lst pa_nil) pa_nil)) (by rfl))
      (pss_cons (ps_for PassesOwn.never rfl (pi_range1 (by rfl) bt.m_range (pa_cons (pv 1) pa_nil)) (pg_name (i := 4) sc__law_result_right.nd rfl (Or.inl rfl)) (pss_cons (ps_par (i := 5) (j := 6) rfl sc__law_result_right.nd rfl rfl (by decide) rfl rfl (pa_cons (pe_cl c__law_spin hg hr (by decide) (by rfl) (pa_cons (pv 0) (pa_cons pe_int pa_nil))) (pa_cons (pe_cl c__law_code hg hr (by decide) (by rfl) (pa_cons (pv 0) pa_nil)) pa_nil)) (by rfl))
      (pss_cons (ps_expr (pe_bm PySem.F.plainAttrs_list PySem.F.slot_list_append PySem.F.type_list_append mt_append (pv 2) (pa_cons (pe_ix ix_list (pe_lst (pa_cons (pe_tup pa_nil) (pa_cons (pe_tup (pa_cons pe_str (pa_cons (pv 6) pa_nil))) (pa_cons (pe_tup (pa_cons pe_str (pa_cons (pv 6) pa_nil))) pa_nil)))) (pv 5) (fun _ _ => rfl)) pa_nil)))
      (pss_one (ps_expr (pe_bm PySem.F.plainAttrs_list PySem.F.slot_list_append PySem.F.type_list_append mt_append (pv 3) (pa_cons (pe_ix ix_list (pe_lst (pa_cons pe_str (pa_cons (pe_op op_add_str pe_str (pv 6)) (pa_cons (pe_op op_add_str pe_str (pv 6)) pa_nil)))) (pv 5) (fun _ _ => rfl)) pa_nil)))))))
      (pss_cons (ps_set (i := 7) sc__law_result_right.nd rfl (Or.inl rfl) (pe_callB (call_repA hg hr) (by rfl) bt.m_repr (by decide +kernel) (pa_cons (pv 2) pa_nil)))
      (pss_one (ps_ret (pe_and (pe_cmpR (op_eqD hr.units) (pe_lst (pa_cons (pe_cl c_format_result hg hr (by decide) (by rfl) (pa_cons (pv 2) pa_nil)) (pa_cons (pe_cl c_format_result hg hr (by decide) (by rfl) (pa_cons (pv 2) pa_nil)) pa_nil))) (pe_op op_rep (pe_lst (pa_cons (pe_bm PySem.F.plainAttrs_str PySem.F.slot_str_join PySem.F.type_str_join mt_join pe_str (pa_cons (pv 3) pa_nil)) pa_nil)) pe_int) (nomark _)) (pe_one (pe_cmpR op_eq (pe_callB (call_repA hg hr) (by rfl) bt.m_repr (by decide +kernel) (pa_cons (pv 2) pa_nil)) (pv 7) (nomark _))))))))), ?_⟩
    refine ⟨Nat.zero_le _, fun F nF => ⟨Nat.zero_le _, fun D nD => ⟨_, _, rfl, ?_⟩⟩⟩
    have kF := same_upd (o := .lst []) nF
    have kD := same_upd (o := .lst []) nD
    have s0 := kF.trans kD
    have hF0 := kD _ _ (upd_same (H := H) (a := F) (o := .lst []))
    have hD0 := upd_same (H := upd H F (.lst [])) (a := D) (o := .lst [])
    have FD : F ≠ D := ne_of_none (upd_same (H := H) (a := F) (o := .lst [])) nD
    have Fr : F ≠ r := hR.new nF
    have nDH : H D = none := none_back kF nD
    have Dr : D ≠ r := hR.new nDH
    have R0 := hR.same s0
    generalize upd (upd H F (.lst [])) D (.lst []) = H0 at s0 hF0 hD0 R0 ⊢
    have low : sizeLine = 16777216 := sizeLine_eq
    refine ⟨_, rfl, (n : Int), rfl, by omega, by omega, for_it walk_range (fun i σ H' => (∃ y4 y5 y6 y7 : Option V, σ = [some (.ref r), some (.int (n : Int)), some (.ref F), some (.ref D), y4, y5, y6, y7]) ∧ Off r H H' ∧ Reel H' r (k + 101 * i) ∧ ∃ os : List Outp, Outs H' F os ∧ os.length = i ∧ (∀ o ∈ os, OutOk o) ∧ H' D = some (.lst ((os.map outTx).map V.str)))
      ⟨⟨_, _, _, _, rfl⟩, Off.of s0, R0, [], ⟨[], hF0, OutsV.nil⟩, rfl, fun o h => (by cases h), hD0⟩ (fun _ _ _ _ _ => True.intro) (fun i x σ Hx Hy hi p y => ?_) (fun σ H1 p => ?_)⟩
    · obtain ⟨⟨y4, y5, y6, y7, rfl⟩, ox, Rx, os, ⟨us, hF, hU⟩, hol, hok, hD⟩ := p
      obtain ⟨rfl, hx⟩ := y
      have hi : i < n := by rw [Int.toNat_natCast] at hi; exact hi
      have hul := hU.1
      refine ⟨_, rfl, r, 3, _, rfl, by decide, by decide, by show _ < 1000000000; omega, Rx, fun d H1 d0 d1 R1 o1 => ?_⟩
      refine ⟨_, rfl, r, _, rfl, R1, by show _ < 1000000000; omega, fun H2 c o2 R2 okc => ⟨_, _, rfl, ?_⟩⟩
      have o12 := o1.trans o2
      have hF2 := o12 _ _ hF Fr
      have hD2 := o12 _ _ hD Dr
      have tk2 : Tk Hy H2 := Rx.tk o12
      have hU2 := hU.keep tk2
      have hcl := Tx.code_len okc
      refine ⟨_, rfl, .inl ⟨rfl, _, SqL.of hF2⟩, Nat.zero_le _, fun A nA => ⟨_, rfl, (by show 2 ≤ sizeLine; decide), fun B nB => ⟨_, rfl, (by show 2 ≤ sizeLine; decide), fun C nC => ⟨(by show 3 ≤ sizeLine; decide), fun Z nZ => ?_⟩⟩⟩⟩
      have kA := same_upd (o := .tup []) nA
      have kB := same_upd (o := .tup [.str "press", .str c]) nB
      have kC := same_upd (o := .tup [.str "release", .str c]) nC
      have kZ := same_upd (o := .lst [.ref A, .ref B, .ref C]) nZ
      have hA := ((kB.trans kC).trans kZ) _ _ (upd_same (H := H2) (a := A) (o := .tup []))
      have hB := (kC.trans kZ) _ _ (upd_same (H := upd H2 A (.tup [])) (a := B) (o := .tup [.str "press", .str c]))
      have hC := kZ _ _ (upd_same (H := upd (upd H2 A (.tup [])) B (.tup [.str "press", .str c])) (a := C) (o := .tup [.str "release", .str c]))
      have hZ := upd_same (H := upd (upd (upd H2 A (.tup [])) B (.tup [.str "press", .str c])) C (.tup [.str "release", .str c])) (a := Z) (o := .lst [.ref A, .ref B, .ref C])
      have s3 := ((kA.trans kB).trans kC).trans kZ
      generalize upd (upd (upd (upd H2 A (.tup [])) B (.tup [.str "press", .str c])) C (.tup [.str "release", .str c])) Z (.lst [.ref A, .ref B, .ref C]) = H3 at hA hB hC hZ s3 ⊢
      have pick : ∃ T : Addr, atI [V.ref A, .ref B, .ref C] d = some (.ref T) ∧ H3 T = some (.tup (outL (wayO c d))) := by
        have : d = 0 ∨ d = 1 ∨ d = 2 := by omega
        rcases this with rfl | rfl | rfl
        · exact ⟨A, atI_nat (j := 0) rfl, hA⟩
        · exact ⟨B, atI_nat (j := 1) rfl, hB⟩
        · exact ⟨C, atI_nat (j := 2) rfl, hC⟩
      have okw : OutOk (wayO c d) := by
        have : d = 0 ∨ d = 1 ∨ d = 2 := by omega
        rcases this with rfl | rfl | rfl
        · trivial
        · exact okc
        · exact okc
      obtain ⟨T, hT, hTt⟩ := pick
      have hF3 := s3 _ _ hF2
      refine ⟨_, rfl, Z, _, d, .ref T, rfl, rfl, SqL.of hZ, hT, F, us, .ref T, rfl, rfl, hF3, small1000 (by omega), ?_⟩
      have tkF := tk_upd (zs := us ++ [V.ref T]) hF3
      have hU4 := ((hU2.keep (Tk.of s3)).snoc (v := .ref T) (o := wayO c d) ⟨T, rfl, hTt⟩).keep tkF
      have hF4 := upd_same (H := H3) (a := F) (o := .lst (us ++ [V.ref T]))
      have hD4 : upd H3 F (.lst (us ++ [V.ref T])) D = some (.lst ((os.map outTx).map V.str)) := by rw [upd_ne FD.symm]; exact s3 _ _ hD2
      have o4 : Off r H (upd H3 F (.lst (us ++ [V.ref T]))) := ((ox.trans o12).sameTrans s3).new nF
      have R4 := (R2.same s3).upd (o := .lst (us ++ [V.ref T])) Fr
      generalize upd H3 F (.lst (us ++ [V.ref T])) = H4 at hU4 hF4 hD4 o4 R4 ⊢
      refine ⟨_, rfl, .inl ⟨rfl, _, SqL.of hD4⟩, _, rfl, _, _, rfl, rfl, ?_, _, rfl, _, _, rfl, rfl, ?_, (by show 3 ≤ sizeLine; decide), fun Y nY => ?_⟩
      · have e1 : ((("+" : String) : Str)).length = 1 := by decide +kernel
        show ((("+" : String) : Str)).length + c.length ≤ sizeLine
        omega
      · have e1 : ((("-" : String) : Str)).length = 1 := by decide +kernel
        show ((("-" : String) : Str)).length + c.length ≤ sizeLine
        omega
      have pick2 : atI [V.str ((("." : String) : Str)), .str ((("+" : String) : Str) ++ c), .str ((("-" : String) : Str) ++ c)] d = some (.str (outTx (wayO c d))) := by
        have : d = 0 ∨ d = 1 ∨ d = 2 := by omega
        rcases this with rfl | rfl | rfl
        · exact atI_nat (j := 0) rfl
        · exact atI_nat (j := 1) rfl
        · exact atI_nat (j := 2) rfl
      have kY := same_upd (o := .lst [V.str ((("." : String) : Str)), .str ((("+" : String) : Str) ++ c), .str ((("-" : String) : Str) ++ c)]) nY
      refine ⟨_, rfl, Y, _, d, _, rfl, rfl, SqL.of upd_same, pick2, D, _, _, rfl, rfl, kY _ _ hD4, small1000 (by rw [List.length_map, List.length_map]; omega), ⟨_, _, _, _, rfl⟩, (o4.sameTrans kY).new nDH, ((R4.same kY).upd Dr).mono (by omega), os ++ [wayO c d], ⟨us ++ [V.ref T], ?_, ?_⟩, by rw [List.length_append, hol]; rfl, fun o ho => ?_, ?_⟩
      · rw [upd_ne FD]; exact kY _ _ hF4
      · exact (hU4.keep (Tk.of kY)).keep (tk_upd (kY _ _ hD4))
      · rcases List.mem_append.mp ho with h | h
        · exact hok o h
        · rw [List.mem_singleton.mp h]; exact okw
      · rw [upd_same, List.map_append, List.map_append]
        rfl
    · obtain ⟨⟨y4, y5, y6, y7, rfl⟩, ox, Rx, os, hO, hol, hok, hD⟩ := p
      have hol' : os.length = n := by rw [Int.toNat_natCast] at hol; exact hol
      have l4 : os.length ≤ 400 := by omega
      have R2 := fit_outs hok l4
      refine ⟨_, rfl, _, _, rfl, hO.dp, R2.sh, by have := R2.dp; omega, line_of R2 (by decide), ?_⟩
      refine ⟨_, rfl, F, os, rfl, hO, hok, l4, fun H2 s2 => ⟨_, rfl, F, os, rfl, hO.same s2, hok, l4, fun H3 s3 => ⟨(by show 2 ≤ sizeLine; decide), fun Z nZ => ?_⟩⟩⟩
      have kZ := same_upd (o := .lst [.str (resT os), .str (resT os)]) nZ
      have s13 := s2.trans (s3.trans kZ)
      have hZ := upd_same (H := H3) (a := Z) (o := .lst [.str (resT os), .str (resT os)])
      generalize upd H3 Z (.lst [.str (resT os), .str (resT os)]) = H4 at s13 hZ ⊢
      have ls : ((os.map outTx).map (·.length)).sum + (os.map outTx).length * ((" " : String) : Str).length ≤ 16777216 := by
        rw [Tx.sp_len]
        have := lens_sum (ps := os.map outTx) (k := 9) fun p hp => by
          obtain ⟨o, h, rfl⟩ := List.mem_map.mp hp
          exact out_len (hok o h)
        rw [List.length_map] at this ⊢
        omega
      refine ⟨rfl, _, rfl, _, D, os.map outTx, rfl, rfl, .inl (SqL.of (s13 _ _ hD)), ls, (by show 1 ≤ sizeLine; decide), fun Y nY => ⟨Y, 2, _, rfl, rfl, upd_same, by decide, by decide, (by show 2 ≤ sizeLine; decide), fun X nX => ?_⟩⟩
      rw [show ((2 : Int)).toNat = 2 from rfl, flat_rep]
      have kY := same_upd (o := .lst [.str (Txt.join ((" " : String) : Str) (os.map outTx))]) nY
      have kX := same_upd (o := .lst (List.replicate 2 (V.str (Txt.join ((" " : String) : Str) (os.map outTx))))) nX
      have s14 := s13.trans (kY.trans kX)
      obtain ⟨sh, cl⟩ := two_texts (res_ok hok)
      refine ⟨_, _, .lst (SqL.of ((kY.trans kX) _ _ hZ)) (.cons (.str _) (.cons (.str _) .nil)), .lst (SqL.of upd_same) (.cons (.str _) (.cons (.str _) .nil)), sh, sh, true, congrArg V.bl (SeqAt.eqv_refl _ cl), iteT ?_⟩
      refine ⟨_, rfl, _, _, rfl, (hO.same s14).dp, R2.sh, by have := R2.dp; omega, line_of R2 (by decide), _, rfl, rfl, ?_⟩
      rw [eqVt]
      exact q _ (ox.sameTrans s14) ((Rx.same s14).mono (by rw [Int.toNat_natCast]; omega))
end
end K66

set_option Elab.async false
set_option linter.all false
set_option maxRecDepth 100000
set_option maxHeartbeats 8000000
namespace K66
open PySem PySem.Spec PyProof.Rows L2 Gd Rm La Cb Pl
theorem small40 {n : Int} (h : n ≤ 1000000000) : n < 10 ^ 40 := Int.lt_of_le_of_lt h (by decide)
theorem lay_ev : ∀ es : List Ev, PyData.canLayAll0 (es.map evD) = true ∧ PyData.depthAll (es.map evD) ≤ 1
  | [] => ⟨rfl, Nat.zero_le _⟩
  | e :: es => by
    obtain ⟨a, b⟩ := lay_ev es
    refine ⟨?_, ?_⟩
    · have h : PyData.canLay0 (.str (wayS e.d)) = true := by cases e.d <;> decide +kernel
      show ((true && (true && (PyData.canLay0 (.str (wayS e.d)) && true))) && PyData.canLayAll0 (es.map evD)) = true
      rw [a, h]
      rfl
    · show max (PyData.depth (evD e)) (PyData.depthAll (es.map evD)) ≤ 1
      have : PyData.depth (evD e) = 1 := rfl
      omega
theorem shaped_rec (es : List Ev) : SeqAt.shaped (recD es) = true := by
  obtain ⟨a, b⟩ := lay_ev es
  show (PyData.canLayAll0 (es.map evD) && decide (PyData.depthAll (es.map evD) + 1 ≤ 64)) = true
  rw [a, decide_eq_true (by omega)]
  rfl
theorem two_int {T : Prop} {A C : Int → Hp → Prop} (f : (∀ i H, A i H → C i H) → T) (g : ∀ i H, A i H → C i H) : T := f g
theorem Valid.shift {s : Int} {es : List Ev} (h : Valid es) : Valid (es.map fun e => ⟨e.t + s, e.k, e.d⟩) := fun i e x => by
  rw [List.getElem?_map] at x
  cases y : es[i]? with
  | none => rw [y] at x; cases x
  | some e' =>
    rw [y] at x
    have x : (⟨e'.t + s, e'.k, e'.d⟩ : Ev) = e := Option.some.inj x
    subst x
    obtain ⟨a, b, c⟩ := h i e' y
    refine ⟨a, ?_, fun j g hj z => ?_⟩
    · rw [← List.map_take]
      show heldB _ e'.k = !e'.d
      rw [← b]
      suffices hh : ∀ (es : List Ev) (g : Int → Bool), (es.map fun e => (⟨e.t + s, e.k, e.d⟩ : Ev)).foldl after g = es.foldl after g from congrFun (hh _ _) _
      intro es
      induction es with
      | nil => intro g; rfl
      | cons e es ih => intro g; exact ih _
    · rw [List.getElem?_map] at z
      cases y2 : es[j]? with
      | none => rw [y2] at z; cases z
      | some g' =>
        rw [y2] at z
        have z : (⟨g'.t + s, g'.k, g'.d⟩ : Ev) = g := Option.some.inj z
        subst z
        have := c j g' hj y2
        show g'.t + s ≤ e'.t + s
        omega
def farE (s : Int) (e : Ev) : Ev := ⟨e.t + s, 10 ^ 30 - 1 - e.k, e.d⟩
theorem far_valid {s : Int} {es : List Ev} (h : Valid es) (hk : ∀ e ∈ es, e.k < 1000) : Valid (es.map (farE s)) := by
  have p := p30
  have h1 := Valid.rekey (f := fun k => 10 ^ 30 - 1 - k) (fun a b e => by have e : (10 : Int) ^ 30 - 1 - a = 10 ^ 30 - 1 - b := e; omega) h (fun e he => by
    have := hk e he
    show (0 : Int) ≤ 10 ^ 30 - 1 - e.k
    omega)
  have h2 := Valid.shift (s := s) h1
  rw [List.map_map] at h2
  exact h2
def tapE (n : Nat) : Ev := ⟨(n : Int) - 200, if n % 4 > 1 then 7 else 0, decide (n % 2 = 0)⟩
def taps (n : Nat) : List Ev := (List.range n).map tapE
theorem taps_succ (n : Nat) : taps (n + 1) = taps n ++ [tapE n] := by unfold taps; rw [List.range_succ, List.map_append]; rfl
theorem taps_ok : ∀ m : Nat, Valid (taps (2 * m)) ∧ (∀ k, heldB (taps (2 * m)) k = false) ∧ (∀ e ∈ taps (2 * m), e.t ≤ 2 * (m : Int) - 200)
  | 0 => ⟨Valid.nil, fun _ => rfl, fun e h => by cases h⟩
  | m + 1 => by
    obtain ⟨a, b, c⟩ := taps_ok m
    have e1 : taps (2 * (m + 1)) = (taps (2 * m) ++ [tapE (2 * m)]) ++ [tapE (2 * m + 1)] := by
      rw [show 2 * (m + 1) = 2 * m + 1 + 1 by omega, taps_succ, taps_succ]
    have kk : (tapE (2 * m + 1)).k = (tapE (2 * m)).k := by
      show (if (2 * m + 1) % 4 > 1 then (7 : Int) else 0) = if (2 * m) % 4 > 1 then 7 else 0
      by_cases z : (2 * m) % 4 > 1
      · rw [if_pos z, if_pos (by omega)]
      · rw [if_neg z, if_neg (by omega)]
    have k0 : 0 ≤ (tapE (2 * m)).k := by
      show (0 : Int) ≤ if (2 * m) % 4 > 1 then 7 else 0
      split <;> decide
    have d0 : (tapE (2 * m)).d = true := decide_eq_true (by omega)
    have d1 : (tapE (2 * m + 1)).d = false := decide_eq_false (by omega)
    have t0 : (tapE (2 * m)).t = 2 * (m : Int) - 200 := by show ((2 * m : Nat) : Int) - 200 = _; omega
    have t1 : (tapE (2 * m + 1)).t = 2 * (m : Int) + 1 - 200 := by show ((2 * m + 1 : Nat) : Int) - 200 = _; omega
    have v1 : Valid (taps (2 * m) ++ [tapE (2 * m)]) := a.snoc k0 (by rw [b, d0]; rfl) (fun e he => by rw [t0]; exact c e he)
    have v2 := v1.snoc (e := tapE (2 * m + 1)) (by rw [kk]; exact k0) (by
      rw [heldB_snoc, d1, kk]
      unfold after
      rw [if_pos rfl, d0]
      rfl) (fun e he => by
        rw [t1]
        rcases List.mem_append.mp he with h | h
        · have := c e h; omega
        · rw [List.mem_singleton.mp h, t0]; omega)
    rw [e1]
    refine ⟨v2, fun k => ?_, fun e he => ?_⟩
    · rw [heldB_snoc, heldB_snoc]
      unfold after
      by_cases z : k = (tapE (2 * m + 1)).k
      · rw [if_pos z]; exact d1
      · rw [if_neg z, if_neg (by rw [← kk]; exact z)]; exact b k
    · rcases List.mem_append.mp he with h | h
      · rcases List.mem_append.mp h with h | h
        · have := c e h; omega
        · rw [List.mem_singleton.mp h, t0]; omega
      · rw [List.mem_singleton.mp h, t1]; omega
theorem taps_low : ∀ e ∈ taps 400, EvLow e := fun e he => by
  obtain ⟨n, hn, rfl⟩ := List.mem_map.mp he
  have := List.mem_range.mp hn
  have p := p30
  refine ⟨?_, ?_, ?_, ?_⟩
  · show (0 : Int) ≤ if n % 4 > 1 then 7 else 0
    split <;> decide
  · show (if n % 4 > 1 then (7 : Int) else 0) < 10 ^ 30
    split <;> omega
  · show -(10 ^ 30) < (n : Int) - 200
    omega
  · show (n : Int) - 200 < 10 ^ 30
    omega
def keysE : List Int := [0, 2 ^ 32, 2 ^ 64, 10 ^ 30 - 1]
def downE (k : Int) : Ev := ⟨0, k, true⟩
theorem keys_valid : Valid (keysE.map downE) :=
  (((Valid.nil.snoc (e := ⟨0, 0, true⟩) (by decide) (by decide) (by decide)).snoc (e := ⟨0, 2 ^ 32, true⟩) (by decide) (by decide) (by decide)).snoc (e := ⟨0, 2 ^ 64, true⟩) (by decide) (by decide) (by decide)).snoc (e := ⟨0, 10 ^ 30 - 1, true⟩) (by decide) (by decide) (by decide)
theorem keys_low : ∀ e ∈ keysE.map downE, EvLow e := fun e he => by
  obtain ⟨k, hk, rfl⟩ := List.mem_map.mp he
  have p := p30
  have hb : ∀ k ∈ keysE, 0 ≤ k ∧ k < 10 ^ 30 := by decide
  obtain ⟨a, b⟩ := hb k hk
  exact ⟨a, b, by show -(10 ^ 30) < (0 : Int); omega, by show (0 : Int) < 10 ^ 30; omega⟩
def exE : List Ev := [⟨-3, 0, true⟩, ⟨0, 12, true⟩, ⟨0, 0, false⟩]
theorem ex_valid : Valid exE :=
  ((Valid.nil.snoc (e := ⟨-3, 0, true⟩) (by decide) (by decide) (by decide)).snoc (e := ⟨0, 12, true⟩) (by decide) (by decide) (by decide)).snoc (e := ⟨0, 0, false⟩) (by decide) (by decide) (by decide)
theorem ex_low : ∀ e ∈ exE, EvLow e := fun e he => by
  have p := p30
  have hb : ∀ e ∈ exE, 0 ≤ e.k ∧ e.k < 1000 ∧ -1000 < e.t ∧ e.t < 1000 := by decide
  obtain ⟨a, b, c, d⟩ := hb e he
  exact ⟨a, by omega, by omega, by omega⟩
theorem ex_text : recT exE = (("0+-3 12+0 0-0" : String) : Str) := of_decide_eq_true (by decide +kernel)
theorem res_nil : resT [] = (("" : String) : Str) := of_decide_eq_true (by decide +kernel)
theorem rec_nil' : recT [] = (("" : String) : Str) := of_decide_eq_true (by decide +kernel)
section
variable {P : Program} {w : World} {K : PySem.W.Frag} {mg : Str → Option Value} {base : Heap}
def spLaw (K : PySem.W.Frag) : Sp := fun vs H Q _ => ∃ (a : Addr) (ns : List Int), vs = [.ref a] ∧ SqL K H a (ns.map V.int) ∧ ns.length ≤ 63 ∧ ∀ H', Q (.bl true) H'
theorem ok_law {f : Addr} {fd : FuncData} (bt : Bt mg) (a : Fun K "law" "law" s_law f fd) (c__law_reel : Cl P w K mg base 1 "_law_reel" (spReel K)) (c__law_spin : Cl P w K mg base 1 "_law_spin" spSpin)
    (c__law_record : Cl P w K mg base 2 "_law_record" spRec) (c__law_crowd : Cl P w K mg base 2 "_law_crowd" spCrowd) (c__law_right : Cl P w K mg base 6 "_law_right" spRight) (c__law_result_right : Cl P w K mg base 5 "_law_result_right" spResR)
    (c_format_record : Cl P w K mg base 5 "format_record" spFmtR) (c_format_result : Cl P w K mg base 4 "format_result" spFmtO) (c_parse_record : Cl P w K mg base 4 "parse_record" spParseR) : FnG P w K mg base 7 f fd ["_law_script"] (spLaw K) := by
  refine fnG a sc_law (fun vs H Q E h => ?_) (fun cdv A outer s H vs Q hg hr h => ?_)
  · obtain ⟨a, e, rfl, _⟩ := h
    rfl
  · obtain ⟨sc, ns, rfl, hS, hl, q⟩ := h
    refine ⟨_, (pss_cons (ps_for PassesOwn.never rfl (pi_range1 (by rfl) bt.m_range (pa_cons (pe_callB (call_max2 rfl) (by rfl) bt.m_max (by decide +kernel) (pa_cons pe_int (pa_cons (pe_callB (call_min2 rfl) (by rfl) bt.m_min (by decide +kernel) (pa_cons pe_int (pa_cons (pe_callB call_len_seq (by rfl) bt.m_len (by decide +kernel) (pa_cons (pv 0) pa_nil)) pa_nil))) pa_nil))) pa_nil)) (pg_name (i := 1) sc_law.nd rfl (Or.inl rfl)) (pss_cons (ps_set (i := 2) sc_law.nd rfl (Or.inl rfl) (pe_cl c__law_reel hg hr (by decide) (by rfl) (pa_cons (pv 0) (pa_cons (pv 1) pa_nil))))
      (pss_cons (ps_for PassesOwn.never rfl (pi_range1 (by rfl) bt.m_range (pa_cons pe_int pa_nil)) (pg_name (i := 3) sc_law.nd rfl (Or.inl rfl)) (pss_cons (ps_set (i := 4) sc_law.nd rfl (Or.inl rfl) (pe_op op_add pe_int (pe_cl c__law_spin hg hr (by decide) (by rfl) (pa_cons (pv 2) (pa_cons pe_int pa_nil)))))
      (pss_cons (ps_set (i := 5) sc_law.nd rfl (Or.inl rfl) (pe_ix ix_list (pe_lst (pa_cons (pe_cl c__law_spin hg hr (by decide) (by rfl) (pa_cons (pv 2) (pa_cons pe_int pa_nil))) (pa_cons (pe_cl c__law_spin hg hr (by decide) (by rfl) (pa_cons (pv 2) (pa_cons (pe_ix ix_list (pe_lst (pa_cons pe_int (pa_cons pe_int pa_nil))) (pe_op op_fdivW (pv 3) pe_int) (fun _ _ => rfl)) pa_nil))) pa_nil))) (pe_op op_mod (pv 3) pe_int) (fun _ _ => rfl)))
      (pss_cons (ps_set (i := 6) sc_law.nd rfl (Or.inl rfl) (pe_cl c__law_record hg hr (by decide) (by rfl) (pa_cons (pv 2) (pa_cons (pv 4) (pa_cons (pv 5) (pa_cons (pe_lst (pa_cons pe_int (pa_cons pe_int (pa_cons (pe_op op_powW pe_int pe_int) pa_nil)))) pa_nil))))))
      (C8.pss_cut (ps_if (pt_cmpR op_gt (pv 3) pe_int (nomark _)) (pss_cons (ps_set (i := 7) sc_law.nd rfl (Or.inr rfl) (pe_op op_sub (pe_ix ix_list (pe_lst (pa_cons (pe_op op_add (pe_op op_sub pe_int (pe_op op_powW pe_int pe_int)) pe_int) (pa_cons (pe_op op_sub (pe_op op_sub (pe_op op_powW pe_int pe_int) pe_int) (pe_op op_powW pe_int pe_int)) pa_nil))) (pe_op op_mod (pv 3) pe_int) (fun _ _ => rfl)) (pe_ifExp (pt_cmpR (op_neD hr.units) (pv 6) (pe_lst pa_nil) (nomark _)) (pe_ix ix_tup (pe_ix ix_list (pv 6) pe_int (fun _ _ => rfl)) pe_int (fun _ _ => rfl)) pe_int)))
      (pss_one (ps_setLc (i := 6) (own := [("_law_tick", 12), ("_law_key", 10), ("_law_way", 13)]) (g := (gTup K 3 (gCons (gName 12) (gCons (gName 10) (gCons (gName 13) gNil))))) (by rfl) sc_law.nd rfl rfl (sw_true rfl rfl rfl (by decide +kernel)) (pi_list (pv 6)) (blkOk_by (N := n_law) (sc := defScope s_law) (by decide +kernel)) (fun _ _ _ _ _ => (pg_tup rfl (pgs_cons (pg_name (i := 12) sc_law.nd rfl (Or.inl rfl)) (pgs_cons (pg_name (i := 10) sc_law.nd rfl (Or.inl rfl)) (pgs_cons (pg_name (i := 13) sc_law.nd rfl (Or.inl rfl)) pgs_nil))))) (fun _ _ _ _ _ => pts_nil) (fun _ _ _ _ _ => (pe_tup (pa_cons (pe_op op_add (pv 12) (pv 7)) (pa_cons (pe_op op_sub (pe_op op_sub (pe_op op_powW pe_int pe_int) pe_int) (pv 10)) (pa_cons (pv 13) pa_nil)))))))) pss_nil)
      (pss_cons (ps_if (PW.pt (pw_or (pt_not (pt_val (pe_cl c__law_right hg hr (by decide) (by rfl) (pa_cons (pv 6) (pa_cons (pe_cmpR op_gt (pv 3) pe_int (nomark _)) pa_nil))))) (pw_or1 (pt_not (pt_val (pe_cl c__law_right hg hr (by decide) (by rfl) (pa_cons (pe_cl c__law_crowd hg hr (by decide) (by rfl) (pa_cons (pv 2) pa_nil)) (pa_cons pe_bl pa_nil)))))))) (pss_one (ps_ret pe_bl)) pss_nil)
      (pss_one (ps_if (pt_not (pt_val (pe_cl c__law_result_right hg hr (by decide) (by rfl) (pa_cons (pv 2) (pa_cons (pe_cl c__law_spin hg hr (by decide) (by rfl) (pa_cons (pv 2) (pa_cons (pe_ix ix_list (pe_lst (pa_cons pe_int (pa_cons pe_int pa_nil))) (pe_op op_mod (pv 3) pe_int) (fun _ _ => rfl)) pa_nil))) pa_nil))))) (pss_one (ps_ret pe_bl)) pss_nil))))))))
      (pss_cons (ps_setLc (i := 8) (own := [("_law_number", 11)]) (g := (gName 11)) (by rfl) sc_law.nd rfl rfl (sw_true rfl rfl rfl (by decide +kernel)) (pi_range1 (by rfl) bt.m_range (pa_cons pe_int pa_nil)) (blkOk_by (N := n_law) (sc := defScope s_law) (by decide +kernel)) (fun _ _ _ _ _ => (pg_name (i := 11) sc_law.nd rfl (Or.inl rfl))) (fun _ _ _ _ _ => pts_nil) (fun _ _ _ _ _ => (pe_tup (pa_cons (pe_op op_sub (pv 11) pe_int) (pa_cons (pe_op op_mulW pe_int (pe_callTy call_int1 (by rfl) bt.m_int (by decide +kernel) (pa_cons (pe_cmpR op_gt (pe_op op_mod (pv 11) pe_int) pe_int (nomark _)) pa_nil))) (pa_cons (pe_ix (r := rIxL K) ix_list (pe_lst (pa_cons pe_str (pa_cons pe_str pa_nil))) (pe_op op_mod (pv 11) pe_int) (fun _ _ => rfl)) pa_nil))))))
      (pss_one (ps_if (pt_not (pt_val (pe_cl c__law_right hg hr (by decide) (by rfl) (pa_cons (pv 8) (pa_cons pe_bl pa_nil))))) (pss_one (ps_ret pe_bl)) pss_nil))))))
      (pss_cons (ps_setLc (i := 4) (own := [("_law_key", 10)]) (g := (gName 10)) (by rfl) sc_law.nd rfl rfl (sw_true rfl rfl rfl (by decide +kernel)) (pi_tup (pe_tup (pa_cons pe_int (pa_cons (pe_op op_powW pe_int pe_int) (pa_cons (pe_op op_powW pe_int pe_int) (pa_cons (pe_op op_sub (pe_op op_powW pe_int pe_int) pe_int) pa_nil)))))) (blkOk_by (N := n_law) (sc := defScope s_law) (by decide +kernel)) (fun _ _ _ _ _ => (pg_name (i := 10) sc_law.nd rfl (Or.inl rfl))) (fun _ _ _ _ _ => pts_nil) (fun _ _ _ _ _ => (pe_tup (pa_cons pe_int (pa_cons (pv 10) (pa_cons pe_str pa_nil))))))
      (pss_cons (ps_if (pt_not (pt_val (pe_cl c__law_right hg hr (by decide) (by rfl) (pa_cons (pv 4) (pa_cons pe_bl pa_nil))))) (pss_one (ps_ret pe_bl)) pss_nil)
      (pss_cons (ps_set (i := 9) sc_law.nd rfl (Or.inl rfl) (pe_lst (pa_cons (pe_cl c_format_record hg hr (by decide) (by rfl) (pa_cons (pe_lst (pa_cons (pe_tup (pa_cons (pe_un un_neg pe_int) (pa_cons pe_int (pa_cons pe_str pa_nil)))) (pa_cons (pe_tup (pa_cons pe_int (pa_cons pe_int (pa_cons pe_str pa_nil)))) (pa_cons (pe_tup (pa_cons pe_int (pa_cons pe_int (pa_cons pe_str pa_nil)))) pa_nil)))) pa_nil)) (pa_cons (pe_cl c_format_record hg hr (by decide) (by rfl) (pa_cons (pe_lst pa_nil) pa_nil)) (pa_cons (pe_cl c_format_result hg hr (by decide) (by rfl) (pa_cons (pe_lst pa_nil) pa_nil)) pa_nil)))))
      (pss_one (ps_ret (pe_and (pe_cmpR (op_eqD hr.units) (pv 9) (pe_lst (pa_cons pe_str (pa_cons pe_str (pa_cons pe_str pa_nil)))) (nomark _)) (pe_one (pe_cmpR (op_eqD hr.units) (pe_cl c_parse_record hg hr (by decide) (by rfl) (pa_cons pe_str pa_nil)) (pe_lst pa_nil) (nomark _)))))))))), ?_⟩
    refine ⟨_, rfl, sc, _, rfl, .inl hS, _, _, rfl, ?_⟩
    refine ⟨1, _, rfl, _, rfl, ?_, ?_, ?_⟩
    · (repeat' split) <;> omega
    · (repeat' split) <;> omega
    refine for_it walk_range (fun i σ H' => Same H H' ∧ ∃ y1 y2 y3 y4 y5 y6 y7 y8 y9 y10 y11 y12 y13, σ = [some (.ref sc), y1, y2, y3, y4, y5, y6, y7, y8, y9, y10, y11, y12, y13]) ⟨Same.refl _, _, _, _, _, _, _, _, _, _, _, _, _, _, rfl⟩ (fun _ _ _ _ _ => True.intro) (fun i x σ Hx H1 hi p y => ?_) (fun σ H1 p => ?_)
    · obtain ⟨s1, y1, y2, y3, y4, y5, y6, y7, y8, y9, y10, y11, y12, y13, rfl⟩ := p
      obtain ⟨rfl, hx⟩ := y
      have hx : x = .int (0 + (i : Int)) := hx
      have e0 : (0 : Int) + (i : Int) = ((i : Nat) : Int) := Int.zero_add _
      rw [e0] at hx
      subst hx
      have hi4 : i < 60 := by
        refine Nat.lt_of_lt_of_le hi ?_
        (repeat' split) <;> omega
      have hS1 : SqL K H1 sc (ns.map V.int) := s1.seq hS
      refine ⟨_, rfl, _, rfl, sc, ns, i, rfl, hS1, hl, by omega, fun r H2 s2 nr R2 => ?_⟩
      refine ⟨4, rfl, by decide, by decide, for_it walk_range (fun t σ H' => Off r H2 H' ∧ Reel H' r (50000 * t) ∧ ∃ y3 y4 y5 y6 y7 y8 y9 y10 y11 y12 y13, σ = [some (.ref sc), some (.int (i : Int)), some (.ref r), y3, y4, y5, y6, y7, y8, y9, y10, y11, y12, y13]) ⟨Off.refl _, R2, _, _, _, _, _, _, _, _, _, _, _, rfl⟩ (fun _ _ _ _ _ => True.intro) (fun t x σ Hx H3 ht p y => ?_) (fun σ H3 p => ?_)⟩
      · obtain ⟨o3, R3, y3, y4, y5, y6, y7, y8, y9, y10, y11, y12, y13, rfl⟩ := p
        obtain ⟨rfl, hx⟩ := y
        have hx : x = .int ((t : Nat) : Int) := hx.trans (congrArg V.int (Int.zero_add _))
        subst hx
        have ht : t < 4 := ht
        obtain ⟨_, _, _, hr2, _⟩ := id R2
        have hm0 : 0 ≤ (t : Int) % 2 ∧ (t : Int) % 2 < 2 := by omega
        refine ⟨_, rfl, r, 16, 50000 * t, rfl, by decide, by decide, by show _ < 1000000000; omega, R3, fun d1 H4 d10 d11 R4 o4 => ⟨_, _, rfl, rfl, ?_⟩⟩
        refine ⟨_, rfl, r, 12, 50000 * t + 1, rfl, by decide, by decide, by show _ < 1000000000; omega, R4, fun d2 H5 d20 d21 R5 o5 => ?_⟩
        refine ⟨_, rfl, (by show 2 ≤ sizeLine; decide), fun M5 n5 => ?_⟩
        have k5 := same_upd (o := .lst ([201, 60].map V.int)) n5
        obtain ⟨a5, ha5, hm5⟩ := getI (ns := [201, 60]) (d := (t : Int) / 2) (by omega) (by show (t : Int) / 2 < 2; omega)
        have ha5b : 1 ≤ a5 ∧ a5 ≤ 201 := by
          have := List.mem_of_getElem? hm5
          simp only [List.mem_cons, List.mem_nil_iff, or_false] at this
          omega
        refine ⟨_, rfl, _, _, rfl, rfl, wide_div (b := 40) (by decide) (by decide) (by decide) (by decide), M5, _, _, .int a5, rfl, rfl, SqL.of upd_same, ha5, r, a5, _, rfl, by omega, small40 (by omega), by show _ < 1000000000; omega, R5.same k5, fun d3 H6 d30 d31 R6 o6 => ?_⟩
        refine ⟨(by show 2 ≤ sizeLine; decide), fun M6 n6 => ?_⟩
        have k6 := same_upd (o := .lst ([d2, d3].map V.int)) n6
        obtain ⟨sz, hsz, hm6⟩ := getI (ns := [d2, d3]) (d := (t : Int) % 2) hm0.1 hm0.2
        have hszb : 0 ≤ sz ∧ sz ≤ 200 := by
          have := List.mem_of_getElem? hm6
          simp only [List.mem_cons, List.mem_nil_iff, or_false] at this
          omega
        refine ⟨_, rfl, _, _, rfl, rfl, (by show (0 : Int) < 2; decide), M6, _, _, .int sz, rfl, rfl, SqL.of upd_same, hsz, ?_⟩
        have o26 : Off r H2 H6 := (((o3.trans o4).trans o5).sameTrans k5).trans o6
        have R6' := R6.same k6
        have o26' := o26.sameTrans k6
        show tSeq _ _ _ _ (upd H6 M6 (.lst ([d2, d3].map V.int)))
        generalize upd H6 M6 (.lst ([d2, d3].map V.int)) = H6 at R6' o26' ⊢
        obtain ⟨sn, rfl⟩ : ∃ sn : Nat, sz = (sn : Int) := ⟨sz.toNat, by omega⟩
        -- the record
        refine ⟨_, rfl, _, rfl, _, rfl, _, _, rfl, rfl, powW (n := 40) (k := 9) (by decide) (by decide), (by show 3 ≤ sizeLine; decide), fun G nG => ?_⟩
        have kG := same_upd (o := .lst ([0, 1, 10 ^ 9].map V.int)) nG
        have gl : ∀ x ∈ ([0, 1, 10 ^ 9] : List Int), 0 ≤ x ∧ x ≤ 10 ^ 10 := by decide
        refine ⟨r, G, _, sn, 1 + d1, [0, 1, 10 ^ 9], rfl, R6'.same kG, by show _ < 1000000000; omega, by omega, by omega, by omega, upd_same, R6'.new nG, (by show 0 < 3; decide), (by show 3 ≤ 10; decide), gl, fun H9 p es o9 np R9 hL9 ok9 => ?_⟩
        have o29 := (o26'.sameTrans kG).trans o9
        have hlen := ok9.len
        have p3 := p30
        have p28 : (10 : Int) ^ 28 = 10000000000000000000000000000 := by decide
        have p20 : (10 : Int) ^ 20 = 100000000000000000000 := by decide
        have low9 : ∀ e ∈ es, EvLow e := fun e he => by
          have h1 := ok9.key e he
          have h2 := ok9.tick e he
          exact ⟨h1.1, by omega, by omega, by omega⟩
        refine ⟨fun σ' H' => ∃ (g : Addr) (es' : List Ev) (y7 y8 y9 y10 y11 y12 y13 : Option V), σ' = [some (.ref sc), some (.int (i : Int)), some (.ref r), some (.int (t : Int)), some (.int (1 + d1)), some (.int (sn : Int)), some (.ref g), y7, y8, y9, y10, y11, y12, y13] ∧ Same H9 H' ∧ Lst evV H' g es' ∧ Valid es' ∧ es'.length ≤ 400 ∧ ∀ e ∈ es', EvLow e, ?_, ?_⟩
        · refine ⟨_, rfl, _, _, rfl, rfl, _, rfl, ite2 (fun z => ?_) (fun z => ?_)⟩
          · refine ⟨_, _, rfl, rfl, powW (n := 40) (k := 30) (by decide) (by decide), _, _, rfl, rfl, _, _, rfl, rfl, ?_⟩
            refine ⟨_, _, rfl, rfl, powW (n := 40) (k := 30) (by decide) (by decide), _, _, rfl, rfl, _, _, rfl, rfl, powW (n := 40) (k := 28) (by decide) (by decide), _, _, rfl, rfl, (by show 2 ≤ sizeLine; decide), fun Z nZ => ?_⟩
            have kZ := same_upd (o := .lst (([0 - 10 ^ 30 + 1, 10 ^ 30 - 1 - 10 ^ 28] : List Int).map V.int)) nZ
            obtain ⟨st, hst, hmz⟩ := getI (ns := [0 - 10 ^ 30 + 1, 10 ^ 30 - 1 - 10 ^ 28]) (d := (t : Int) % 2) hm0.1 hm0.2
            have hstb : st = 0 - 10 ^ 30 + 1 ∨ st = 10 ^ 30 - 1 - 10 ^ 28 := by
              have := List.mem_of_getElem? hmz
              simpa using this
            refine ⟨_, rfl, _, _, rfl, rfl, (by show (0 : Int) < 2; decide), Z, _, _, .int st, rfl, rfl, SqL.of upd_same, hst, ?_⟩
            have hL9' := hL9.same kZ
            apply two_go (A := fun H' v => ∃ s0 : Int, v = .int s0 ∧ Same H9 H' ∧ (es = [] ∨ ∃ e, es[0]? = some e ∧ s0 = st - e.t)) (C := fun H1 v => gName 7 v _ H1 _)
            · intro go
              by_cases hne : es = []
              · obtain ⟨as, ha, hT⟩ := id hL9'
                have has : as.map V.ref = [] := by
                  have := hT.1
                  rw [hne] at this
                  rw [List.length_eq_zero_iff.mp this]
                  rfl
                rw [has] at ha
                refine ⟨_, rfl, Nat.zero_le _, fun E nE => ?_⟩
                have kE := same_upd (o := .lst []) nE
                refine ⟨_, _, .lst (SqL.of (kE _ _ ha)) .nil, .lst (SqL.of upd_same) .nil, shaped_nil, shaped_nil, false, rfl, iteF ⟨_, _, rfl, rfl, ?_⟩⟩
                exact go _ _ ⟨_, rfl, kZ.trans kE, .inl hne⟩
              · obtain ⟨as, ha, hT⟩ := id hL9'
                have h0 : 0 < es.length := List.length_pos_iff.mpr hne
                obtain ⟨b, hb, hbt⟩ := hT.at_ h0
                refine ⟨_, rfl, Nat.zero_le _, fun E nE => ?_⟩
                have kE := same_upd (o := .lst []) nE
                refine ⟨_, _, Lst.dp (hL9'.same kE), .lst (SqL.of upd_same) .nil, shaped_rec es, shaped_nil, true, ?_, iteT ?_⟩
                · cases hes : es with
                  | nil => exact absurd hes hne
                  | cons e r => rfl
                refine ⟨_, rfl, p, _, 0, .ref b, rfl, rfl, SqL.of (kE _ _ ha), atI_nat (j := 0) (by rw [List.getElem?_map, hb]; rfl), b, _, 0, _, rfl, rfl, SqT.of (kE _ _ hbt), atI_nat (j := 0) rfl, _, _, rfl, rfl, ?_⟩
                exact go _ _ ⟨_, rfl, kZ.trans kE, .inr ⟨_, List.getElem?_eq_getElem h0, rfl⟩⟩
            rintro H10 v ⟨s0, rfl, s10, ht0⟩
            obtain ⟨as, ha, hT⟩ := hL9.same s10
            have hal := hT.1
            refine ⟨_, rfl, p, rfl, ⟨_, SqL.of ha⟩, fun M nM => lc_it (walk_list (xs := as.map V.ref)) (fun j H' => Same H10 H' ∧ ∃ bs : List Addr, H' M = some (.lst (bs.map V.ref)) ∧ Tups H' evV bs ((es.take j).map (farE s0))) ⟨same_upd nM, [], upd_same, Tups.nil⟩ (fun j H' _ p => SqL.of (p.1 _ _ ha)) (fun j x Hx Hy hj z y => ?_) (fun H11 z => ?_)⟩
            · obtain ⟨sx, bs, hM, hB⟩ := z
              obtain ⟨rfl, hx⟩ := y
              have hj' : j < es.length := by rw [List.length_map] at hj; omega
              obtain ⟨b, hb, hbt⟩ := hT.at_ hj'
              have ex : V.ref b = x := Option.some.inj ((by rw [List.getElem?_map, hb]; rfl : (as.map V.ref)[j]? = some (.ref b)).symm.trans hx)
              subst ex
              have hbl := hB.1
              rw [List.length_map, List.length_take] at hbl
              refine ⟨b, _, rfl, SqT.of (sx _ _ hbt), rfl, _, _, rfl, _, _, rfl, _, _, rfl, rfl, ⟨rfl, ?_⟩⟩
              refine ⟨_, rfl, _, rfl, _, _, rfl, rfl, _, _, rfl, rfl, powW (n := 40) (k := 30) (by decide) (by decide), _, _, rfl, rfl, _, rfl, _, _, rfl, rfl, _, rfl, (by show 3 ≤ sizeLine; decide), fun T nT => ?_⟩
              have kT := same_upd (o := .tup (evV (farE s0 es[j]))) nT
              have hT1 := upd_same (H := Hy) (a := T) (o := .tup (evV (farE s0 es[j])))
              have fin : ∃ acc, upd Hy T (.tup (evV (farE s0 es[j]))) M = some (.lst acc) ∧ acc.length < sizeLine ∧ Same H10 (upd (upd Hy T (.tup (evV (farE s0 es[j])))) M (.lst (acc ++ [.ref T]))) ∧ ∃ bs : List Addr, upd (upd Hy T (.tup (evV (farE s0 es[j])))) M (.lst (acc ++ [.ref T])) M = some (.lst (bs.map V.ref)) ∧ Tups (upd (upd Hy T (.tup (evV (farE s0 es[j])))) M (.lst (acc ++ [.ref T]))) evV bs ((es.take (j + 1)).map (farE s0)) := by
                have hM2 := kT _ _ hM
                refine ⟨_, hM2, small1000 (by rw [List.length_map]; omega), Same.off (sx.trans kT) nM off_upd, bs ++ [T], by rw [upd_same, List.map_append]; rfl, ?_⟩
                rw [List.take_add_one, List.getElem?_eq_getElem hj', List.map_append]
                have t1 := (hB.same kT).snoc (a := T) (e := farE s0 es[j]) hT1
                have tk := tk_upd (zs := bs.map V.ref ++ [.ref T]) hM2
                exact ⟨t1.1, fun i a e u v => tk _ _ (t1.2 i a e u v)⟩
              exact fin
            · obtain ⟨sx, bs, hM, hB⟩ := z
              rw [show (as.map V.ref).length = es.length by rw [List.length_map]; exact hal, List.take_length] at hB
              refine ⟨M, es.map (farE s0), _, _, _, _, _, _, _, rfl, s10.trans sx, ⟨bs, hM, hB⟩, far_valid ok9.valid (fun e he => by have := (ok9.key e he).2; omega), by rw [List.length_map]; omega, fun e he => ?_⟩
              obtain ⟨e, he', rfl⟩ := List.mem_map.mp he
              have h1 := ok9.key e he'
              have h2 := ok9.tick e he'
              rcases ht0 with h | ⟨e0, h0, rfl⟩
              · rw [h] at he'; cases he'
              have h3 := ok9.tick e0 (List.mem_of_getElem? h0)
              have h4 : e0.t ≤ e.t := by
                obtain ⟨k, hk⟩ := List.getElem?_of_mem he'
                rcases Nat.eq_zero_or_pos k with z | z
                · rw [z, h0] at hk
                  rw [Option.some.inj hk]
                  exact Int.le_refl _
                · exact ok9.valid.mono 0 k _ _ z h0 hk
              refine ⟨?_, ?_, ?_, ?_⟩
              · show (0 : Int) ≤ 10 ^ 30 - 1 - e.k; omega
              · show (10 : Int) ^ 30 - 1 - e.k < 10 ^ 30; omega
              · show -(10 ^ 30) < e.t + (st - e0.t); omega
              · show e.t + (st - e0.t) < 10 ^ 30; omega
          · exact ⟨p, es, _, _, _, _, _, _, _, rfl, Same.refl _, hL9, ok9.valid, by omega, low9⟩
        rintro σ' H10 ⟨g, es', y7, y8, y9, y10, y11, y12, y13, rfl, s10, hL10, hV10, hl10, low10⟩
        have R10 := R9.same s10
        refine ⟨_, rfl, _, rfl, _, _, rfl, rfl, g, es', _, rfl, hL10, hV10, hl10, low10, fun H11 s11 => ⟨_, rfl, iteF ?_⟩⟩
        refine ⟨_, rfl, r, _, rfl, R10.same s11, by show _ < 1000000000; omega, fun H12 p2 es2 o12 np2 R12 hL12 ok12 => ⟨p2, es2, false, rfl, hL12, ok12.valid, by have := ok12.len; omega, fun e he => ?_, fun H13 s13 => ⟨_, rfl, iteF ?_⟩⟩⟩
        · have h1 := ok12.key e he
          have h2 := ok12.tick e he
          exact ⟨h1.1, h1.2, by omega, by omega⟩
        refine ⟨_, rfl, _, rfl, (by show 2 ≤ sizeLine; decide), fun M7 n7 => ?_⟩
        have k7 := same_upd (o := .lst ([9, 401].map V.int)) n7
        obtain ⟨a7, ha7, hm7⟩ := getI (ns := [9, 401]) (d := (t : Int) % 2) hm0.1 hm0.2
        have ha7b : 1 ≤ a7 ∧ a7 ≤ 401 := by
          have := List.mem_of_getElem? hm7
          simp only [List.mem_cons, List.mem_nil_iff, or_false] at this
          omega
        refine ⟨_, rfl, _, _, rfl, rfl, (by show (0 : Int) < 2; decide), M7, _, _, .int a7, rfl, rfl, SqL.of upd_same, ha7, r, a7, _, rfl, by omega, small40 (by omega), by show _ < 1000000000; omega, (R12.same s13).same k7, fun d7 H14 d70 d71 R14 o14 => ?_⟩
        obtain ⟨rn, rfl⟩ : ∃ rn : Nat, d7 = (rn : Int) := ⟨d7.toNat, by omega⟩
        refine ⟨r, _, rn, rfl, R14, by show _ < 1000000000; omega, by omega, fun H15 o15 R15 => ⟨_, rfl, iteF ⟨?_, R15.mono (by omega), _, _, _, _, _, _, _, _, _, _, _, rfl⟩⟩⟩
        exact (((((o29.sameTrans s10).sameTrans s11).trans o12).sameTrans (s13.trans k7)).trans o14).trans o15
      · obtain ⟨o3, R3, y3, y4, y5, y6, y7, y8, y9, y10, y11, y12, y13, rfl⟩ := p
        have sA : Same H H3 := s1.trans (fun b u hb => o3 _ _ (s2 _ _ hb) (ne_of_none hb nr))
        refine ⟨400, rfl, by decide, by decide, fun M nM => lc_it walk_range (fun j H' => Same H3 H' ∧ ∃ bs : List Addr, H' M = some (.lst (bs.map V.ref)) ∧ Tups H' evV bs (taps j)) ⟨same_upd nM, [], upd_same, Tups.nil⟩ (fun _ _ _ _ => True.intro) (fun j x Hx Hy hj z y => ?_) (fun H11 z => ?_)⟩
        · obtain ⟨sx, bs, hM, hB⟩ := z
          obtain ⟨rfl, hx⟩ := y
          have hx : x = .int ((j : Nat) : Int) := hx.trans (congrArg V.int (Int.zero_add _))
          subst hx
          have hj : j < 400 := hj
          have hbl := hB.1
          unfold taps at hbl
          rw [List.length_map, List.length_range] at hbl
          refine ⟨rfl, _, rfl, _, _, rfl, rfl, ?_⟩
          refine ⟨_, rfl, _, _, rfl, rfl, (by show (0 : Int) < 4; decide), _, _, rfl, rfl, .inr ⟨_, rfl, _, _, rfl, rfl, ?_, ?_⟩⟩
          · exact wide_mul (a := 10) (b := 10) (i := 7) (j := if decide ((j : Int) % 4 > 1) = true then 1 else 0) (by decide) (by split <;> decide) (by decide) (by decide) (by decide)
          refine ⟨(by show 2 ≤ sizeLine; decide), fun Z nZ => ?_⟩
          have kZ := same_upd (o := .lst [.str "down", .str "up"]) nZ
          have pick : atI [V.str "down", .str "up"] ((j : Int) % 2) = some (.str (wayS (tapE j).d)) := by
            have : (tapE j).d = decide (j % 2 = 0) := rfl
            rw [this]
            rcases Nat.mod_two_eq_zero_or_one j with h | h
            · rw [h, show (j : Int) % 2 = ((0 : Nat) : Int) by omega]; exact atI_nat (j := 0) rfl
            · rw [h, show (j : Int) % 2 = ((1 : Nat) : Int) by omega]; exact atI_nat (j := 1) rfl
          refine ⟨_, rfl, _, _, rfl, rfl, (by show (0 : Int) < 2; decide), Z, _, _, _, rfl, rfl, SqL.of upd_same, pick, (by show 3 ≤ sizeLine; decide), fun T nT => ?_⟩
          have eK : (7 : Int) * (if decide ((j : Int) % 4 > 1) = true then 1 else 0) = (tapE j).k := by
            show _ = if j % 4 > 1 then (7 : Int) else 0
            by_cases h : j % 4 > 1
            · rw [if_pos h, if_pos (decide_eq_true (by omega))]; rfl
            · rw [if_neg h, if_neg (by rw [decide_eq_false (by omega)]; decide)]; rfl
          have kT := same_upd (o := .tup (evV (tapE j))) nT
          have fin : ∃ acc, upd (upd Hy Z (.lst [.str "down", .str "up"])) T (.tup (evV (tapE j))) M = some (.lst acc) ∧ acc.length < sizeLine ∧ Same H3 (upd (upd (upd Hy Z (.lst [.str "down", .str "up"])) T (.tup (evV (tapE j)))) M (.lst (acc ++ [.ref T]))) ∧ ∃ bs : List Addr, upd (upd (upd Hy Z (.lst [.str "down", .str "up"])) T (.tup (evV (tapE j)))) M (.lst (acc ++ [.ref T])) M = some (.lst (bs.map V.ref)) ∧ Tups (upd (upd (upd Hy Z (.lst [.str "down", .str "up"])) T (.tup (evV (tapE j)))) M (.lst (acc ++ [.ref T]))) evV bs (taps (j + 1)) := by
            have hM2 := (kZ.trans kT) _ _ hM
            refine ⟨_, hM2, small1000 (by rw [List.length_map]; omega), Same.off (sx.trans (kZ.trans kT)) nM off_upd, bs ++ [T], by rw [upd_same, List.map_append]; rfl, ?_⟩
            rw [taps_succ]
            have t1 := (hB.same (kZ.trans kT)).snoc (a := T) (e := tapE j) upd_same
            have tk := tk_upd (zs := bs.map V.ref ++ [.ref T]) hM2
            exact ⟨t1.1, fun i a e u v => tk _ _ (t1.2 i a e u v)⟩
          have hobj : HO.tup [V.int ((j : Int) - 200), .int (7 * (if decide ((j : Int) % 4 > 1) = true then 1 else 0)), .str (wayS (tapE j).d)] = .tup (evV (tapE j)) := by rw [eK]; rfl
          rw [← hobj] at fin
          exact fin
        · obtain ⟨sx, bs, hM, hB⟩ := z
          refine ⟨_, rfl, M, taps 400, true, rfl, ⟨bs, hM, hB⟩, (taps_ok 200).1, by unfold taps; rw [List.length_map, List.length_range]; decide, taps_low, fun H12 s12 => ⟨_, rfl, iteF ⟨sA.trans (sx.trans s12), _, _, _, _, _, _, _, _, _, _, _, _, _, rfl⟩⟩⟩
    · obtain ⟨s1, y1, y2, y3, y4, y5, y6, y7, y8, y9, y10, y11, y12, y13, rfl⟩ := p
      refine ⟨_, _, rfl, rfl, powW (n := 40) (k := 32) (by decide) (by decide), _, _, rfl, rfl, powW (n := 40) (k := 64) (by decide) (by decide), _, _, rfl, rfl, powW (n := 40) (k := 30) (by decide) (by decide), _, _, rfl, rfl, (by show 4 ≤ sizeLine; decide), fun Z nZ => ?_⟩
      have kZ := same_upd (o := .tup (keysE.map V.int)) nZ
      have hZ := upd_same (H := H1) (a := Z) (o := .tup (keysE.map V.int))
      refine ⟨Z, rfl, ⟨_, SqT.of hZ⟩, fun M nM => lc_it (walk_tup (xs := keysE.map V.int)) (fun j H' => Same (upd H1 Z (.tup (keysE.map V.int))) H' ∧ ∃ bs : List Addr, H' M = some (.lst (bs.map V.ref)) ∧ Tups H' evV bs ((keysE.take j).map downE)) ⟨same_upd nM, [], upd_same, Tups.nil⟩ (fun j H' _ p => SqT.of (p.1 _ _ hZ)) (fun j x Hx Hy hj z y => ?_) (fun H2 z => ?_)⟩
      · obtain ⟨sx, bs, hM, hB⟩ := z
        obtain ⟨rfl, hx⟩ := y
        have hj' : j < keysE.length := by rw [List.length_map] at hj; exact hj
        have ex : V.int keysE[j] = x := by
          rw [List.getElem?_map, List.getElem?_eq_getElem hj'] at hx
          exact Option.some.inj hx
        subst ex
        have hbl := hB.1
        rw [List.length_map, List.length_take] at hbl
        have h4 : keysE.length = 4 := rfl
        refine ⟨rfl, _, rfl, (by show 3 ≤ sizeLine; decide), fun T nT => ?_⟩
        have kT := same_upd (o := .tup (evV (downE keysE[j]))) nT
        have hM2 := kT _ _ hM
        refine ⟨_, hM2, small1000 (by rw [List.length_map]; omega), Same.off (sx.trans kT) nM off_upd, bs ++ [T], by rw [upd_same, List.map_append]; rfl, ?_⟩
        rw [List.take_add_one, List.getElem?_eq_getElem hj', List.map_append]
        have t1 := (hB.same kT).snoc (a := T) (e := downE keysE[j]) upd_same
        have tk := tk_upd (zs := bs.map V.ref ++ [.ref T]) hM2
        exact ⟨t1.1, fun i a e u v => tk _ _ (t1.2 i a e u v)⟩
      obtain ⟨sx, bs, hM, hB⟩ := z
      refine ⟨_, rfl, M, keysE.map downE, false, rfl, ⟨bs, hM, hB⟩, keys_valid, by decide, keys_low, fun H3 s3 => ⟨_, rfl, iteF ?_⟩⟩
      refine ⟨3, rfl, (by show 3 ≤ sizeLine; decide), fun E0 nE0 => ⟨(by show 3 ≤ sizeLine; decide), fun E1 nE1 => ⟨(by show 3 ≤ sizeLine; decide), fun E2 nE2 => ⟨(by show 3 ≤ sizeLine; decide), fun G0 nG0 => ?_⟩⟩⟩⟩
      have kE0 := same_upd (o := .tup [.int (-3), .int 0, .str "down"]) nE0
      have kE1 := same_upd (o := .tup [.int 0, .int 12, .str "down"]) nE1
      have kE2 := same_upd (o := .tup [.int 0, .int 0, .str "up"]) nE2
      have kG0 := same_upd (o := .lst [.ref E0, .ref E1, .ref E2]) nG0
      have hE0 := ((kE1.trans kE2).trans kG0) _ _ (upd_same (H := H3) (a := E0) (o := .tup [.int (-3), .int 0, .str "down"]))
      have hE1 := (kE2.trans kG0) _ _ (upd_same (H := (upd H3 E0 (.tup [.int (-3), .int 0, .str "down"]))) (a := E1) (o := .tup [.int 0, .int 12, .str "down"]))
      have hE2 := kG0 _ _ (upd_same (H := (upd (upd H3 E0 (.tup [.int (-3), .int 0, .str "down"])) E1 (.tup [.int 0, .int 12, .str "down"]))) (a := E2) (o := .tup [.int 0, .int 0, .str "up"]))
      have hG0 := upd_same (H := (upd (upd (upd H3 E0 (.tup [.int (-3), .int 0, .str "down"])) E1 (.tup [.int 0, .int 12, .str "down"])) E2 (.tup [.int 0, .int 0, .str "up"]))) (a := G0) (o := .lst [.ref E0, .ref E1, .ref E2])
      have sH4 := (((kE0.trans kE1).trans kE2).trans kG0)
      generalize upd (upd (upd (upd H3 E0 (.tup [.int (-3), .int 0, .str "down"])) E1 (.tup [.int 0, .int 12, .str "down"])) E2 (.tup [.int 0, .int 0, .str "up"])) G0 (.lst [.ref E0, .ref E1, .ref E2]) = H4 at hE0 hE1 hE2 hG0 sH4 ⊢
      have lst : Lst evV H4 G0 exE := ⟨[E0, E1, E2], hG0, (((Tups.nil (f := evV)).snoc (e := (⟨-3, 0, true⟩ : Ev)) hE0).snoc (e := (⟨0, 12, true⟩ : Ev)) hE1).snoc (e := (⟨0, 0, false⟩ : Ev)) hE2⟩
      refine ⟨G0, exE, rfl, lst, ex_valid, by decide, ex_low, fun H5 s5 => ⟨Nat.zero_le _, fun N1 nN1 => ⟨N1, [], rfl, ⟨[], upd_same, Tups.nil⟩, Valid.nil, Nat.zero_le _, fun e he => (by cases he), fun H6 s6 => ⟨Nat.zero_le _, fun N2 nN2 => ⟨N2, [], rfl, ⟨[], upd_same, OutsV.nil⟩, fun o ho => (by cases ho), Nat.zero_le _, fun H7 s7 => ⟨(by show 3 ≤ sizeLine; decide), fun W nW => ?_⟩⟩⟩⟩⟩⟩
      rw [ex_text, rec_nil', res_nil]
      have kW := same_upd (o := .lst [.str "0+-3 12+0 0-0", .str "", .str ""]) nW
      have hW := upd_same (H := H7) (a := W) (o := .lst [.str "0+-3 12+0 0-0", .str "", .str ""])
      generalize upd H7 W (.lst [.str "0+-3 12+0 0-0", .str "", .str ""]) = H8 at hW ⊢
      refine ⟨_, rfl, (by show 3 ≤ sizeLine; decide), fun X nX => ?_⟩
      refine ⟨_, _, .lst (SqL.of ((same_upd nX) _ _ hW)) (.cons (.str _) (.cons (.str _) (.cons (.str _) .nil))), .lst (SqL.of upd_same) (.cons (.str _) (.cons (.str _) (.cons (.str _) .nil))), by decide +kernel, by decide +kernel, true, congrArg V.bl (by decide +kernel), iteT ?_⟩
      refine ⟨[], congrArg (fun z => [V.str z]) rec_nil'.symm, Valid.nil, Nat.zero_le _, fun e he => (by cases he), fun H9 p s9 np hp => ⟨Nat.zero_le _, fun Y nY => ?_⟩⟩
      obtain ⟨as, ha, hT⟩ := hp.same (same_upd (o := .lst []) nY)
      have has : as.map V.ref = [] := by
        rw [List.length_eq_zero_iff.mp hT.1]
        rfl
      rw [has] at ha
      refine ⟨_, _, .lst (SqL.of ha) .nil, .lst (SqL.of upd_same) .nil, shaped_nil, shaped_nil, ?_⟩
      exact q _
end
end K66

set_option Elab.async false
set_option linter.all false
set_option maxRecDepth 100000
set_option maxHeartbeats 8000000
namespace K66
open PySem PySem.Spec PyProof.Rows L2 Gd Rm La
theorem at_mk {K : PySem.W.Frag} {h : Heap} {mg : Str → Option Value} {x : Str} {st : Stmt} {ps : List Str} {f : Addr} {od an : Option Addr} {sl : Array (Option Value)} {oc kV dc pm cd ct : Value} (X : K.In h) (G : h.Ns mainGlobals mg)
    (a : PySem.W.nsIn K mainGlobals x = some (some (.ref f))) (l : K.lookup f = some ⟨oc, od, .func (PySem.W.fnOf x x (defArgs st) (defBody st) (defScope st) .none kV dc pm an cd ct), sl⟩) (c : PySem.W.codeIn K cd x = true) (k : PySem.W.keepIn K (.ref f) = true)
    (hb : ∀ (kV doc pm : Value) (an : Option Addr) (cdv ct : Value) (us : List Value), us.length = ps.length → bindArgs (PySem.W.fnOf x x (defArgs st) (defBody st) (defScope st) .none kV doc pm an cdv ct) ⟨us, []⟩ = pure (ps.zip us)) : At K mg x st ps :=
  ⟨_, _, fun_mk l c k, PySem.W.mg_of X G a, (fun_mk l c k).binds hb⟩
theorem all_mk {l : PySem.W.OpenLaw} {w : World} {K : PySem.W.Frag} {h : Heap} {mg : Str → Option Value} {fa : Addr} (X : K.In h) (G : h.Ns mainGlobals mg) (hfa : mg "law" = some (.ref fa))
    {f0 : Addr} {od0 an0 : Option Addr} {sl0 : Array (Option Value)} {oc0 kV0 dc0 pm0 cd0 ct0 : Value}
    {f1 : Addr} {od1 an1 : Option Addr} {sl1 : Array (Option Value)} {oc1 kV1 dc1 pm1 cd1 ct1 : Value}
    {f2 : Addr} {od2 an2 : Option Addr} {sl2 : Array (Option Value)} {oc2 kV2 dc2 pm2 cd2 ct2 : Value}
    {f3 : Addr} {od3 an3 : Option Addr} {sl3 : Array (Option Value)} {oc3 kV3 dc3 pm3 cd3 ct3 : Value}
    {f4 : Addr} {od4 an4 : Option Addr} {sl4 : Array (Option Value)} {oc4 kV4 dc4 pm4 cd4 ct4 : Value}
    {f5 : Addr} {od5 an5 : Option Addr} {sl5 : Array (Option Value)} {oc5 kV5 dc5 pm5 cd5 ct5 : Value}
    {f6 : Addr} {od6 an6 : Option Addr} {sl6 : Array (Option Value)} {oc6 kV6 dc6 pm6 cd6 ct6 : Value}
    {f7 : Addr} {od7 an7 : Option Addr} {sl7 : Array (Option Value)} {oc7 kV7 dc7 pm7 cd7 ct7 : Value}
    {T7 : Addr} {td7 : Option Addr} {ts7 : Array (Option Value)} {tn7 : Nat}
    {f8 : Addr} {od8 an8 : Option Addr} {sl8 : Array (Option Value)} {oc8 kV8 dc8 pm8 cd8 ct8 : Value}
    {f9 : Addr} {od9 an9 : Option Addr} {sl9 : Array (Option Value)} {oc9 kV9 dc9 pm9 cd9 ct9 : Value}
    {f10 : Addr} {od10 an10 : Option Addr} {sl10 : Array (Option Value)} {oc10 kV10 dc10 pm10 cd10 ct10 : Value}
    {f11 : Addr} {od11 an11 : Option Addr} {sl11 : Array (Option Value)} {oc11 kV11 dc11 pm11 cd11 ct11 : Value}
    {f12 : Addr} {od12 an12 : Option Addr} {sl12 : Array (Option Value)} {oc12 kV12 dc12 pm12 cd12 ct12 : Value}
    {f13 : Addr} {od13 an13 : Option Addr} {sl13 : Array (Option Value)} {oc13 kV13 dc13 pm13 cd13 ct13 : Value}
    {f14 : Addr} {od14 an14 : Option Addr} {sl14 : Array (Option Value)} {oc14 kV14 dc14 pm14 cd14 ct14 : Value}
    {f15 : Addr} {od15 an15 : Option Addr} {sl15 : Array (Option Value)} {oc15 kV15 dc15 pm15 cd15 ct15 : Value}
    {f16 : Addr} {od16 an16 : Option Addr} {sl16 : Array (Option Value)} {oc16 kV16 dc16 pm16 cd16 ct16 : Value}
    {f17 : Addr} {od17 an17 : Option Addr} {sl17 : Array (Option Value)} {oc17 kV17 dc17 pm17 cd17 ct17 : Value}
    {f18 : Addr} {od18 an18 : Option Addr} {sl18 : Array (Option Value)} {oc18 kV18 dc18 pm18 cd18 ct18 : Value}
    {f19 : Addr} {od19 an19 : Option Addr} {sl19 : Array (Option Value)} {oc19 kV19 dc19 pm19 cd19 ct19 : Value}
    {f20 : Addr} {od20 an20 : Option Addr} {sl20 : Array (Option Value)} {oc20 kV20 dc20 pm20 cd20 ct20 : Value}
    {f21 : Addr} {od21 an21 : Option Addr} {sl21 : Array (Option Value)} {oc21 kV21 dc21 pm21 cd21 ct21 : Value}
    {f22 : Addr} {od22 an22 : Option Addr} {sl22 : Array (Option Value)} {oc22 kV22 dc22 pm22 cd22 ct22 : Value}
    {f23 : Addr} {od23 an23 : Option Addr} {sl23 : Array (Option Value)} {oc23 kV23 dc23 pm23 cd23 ct23 : Value}
    {f24 : Addr} {od24 an24 : Option Addr} {sl24 : Array (Option Value)} {oc24 kV24 dc24 pm24 cd24 ct24 : Value}
    {f25 : Addr} {od25 an25 : Option Addr} {sl25 : Array (Option Value)} {oc25 kV25 dc25 pm25 cd25 ct25 : Value}
    {f26 : Addr} {od26 an26 : Option Addr} {sl26 : Array (Option Value)} {oc26 kV26 dc26 pm26 cd26 ct26 : Value}
    {f27 : Addr} {od27 an27 : Option Addr} {sl27 : Array (Option Value)} {oc27 kV27 dc27 pm27 cd27 ct27 : Value}
    {f28 : Addr} {od28 an28 : Option Addr} {sl28 : Array (Option Value)} {oc28 kV28 dc28 pm28 cd28 ct28 : Value}
    {f29 : Addr} {od29 an29 : Option Addr} {sl29 : Array (Option Value)} {oc29 kV29 dc29 pm29 cd29 ct29 : Value}
    {tk0 : Tok}
    {tk1 : Tok}
    {tk2 : Tok}
    {tk3 : Tok}
    {tk4 : Tok}
    {g5 : Addr} {gs5 : Array (Option Value)} {gn5 : Nat} {tk5_0 tk5_1 : Tok}
    (a0 : PySem.W.nsIn K mainGlobals "is_an_integer" = some (some (.ref f0))) (l0 : K.lookup f0 = some ⟨oc0, od0, .func (PySem.W.fnOf "is_an_integer" "is_an_integer" (defArgs s_is_an_integer) (defBody s_is_an_integer) (defScope s_is_an_integer) .none kV0 dc0 pm0 an0 cd0 ct0), sl0⟩) (c0 : PySem.W.codeIn K cd0 "is_an_integer" = true) (k0 : PySem.W.keepIn K (.ref f0) = true)
    (a1 : PySem.W.nsIn K mainGlobals "is_step" = some (some (.ref f1))) (l1 : K.lookup f1 = some ⟨oc1, od1, .func (PySem.W.fnOf "is_step" "is_step" (defArgs s_is_step) (defBody s_is_step) (defScope s_is_step) .none kV1 dc1 pm1 an1 cd1 ct1), sl1⟩) (c1 : PySem.W.codeIn K cd1 "is_step" = true) (k1 : PySem.W.keepIn K (.ref f1) = true)
    (a2 : PySem.W.nsIn K mainGlobals "is_event" = some (some (.ref f2))) (l2 : K.lookup f2 = some ⟨oc2, od2, .func (PySem.W.fnOf "is_event" "is_event" (defArgs s_is_event) (defBody s_is_event) (defScope s_is_event) .none kV2 dc2 pm2 an2 cd2 ct2), sl2⟩) (c2 : PySem.W.codeIn K cd2 "is_event" = true) (k2 : PySem.W.keepIn K (.ref f2) = true)
    (a3 : PySem.W.nsIn K mainGlobals "is_short_list" = some (some (.ref f3))) (l3 : K.lookup f3 = some ⟨oc3, od3, .func (PySem.W.fnOf "is_short_list" "is_short_list" (defArgs s_is_short_list) (defBody s_is_short_list) (defScope s_is_short_list) .none kV3 dc3 pm3 an3 cd3 ct3), sl3⟩) (c3 : PySem.W.codeIn K cd3 "is_short_list" = true) (k3 : PySem.W.keepIn K (.ref f3) = true)
    (a4 : PySem.W.nsIn K mainGlobals "takes_turn" = some (some (.ref f4))) (l4 : K.lookup f4 = some ⟨oc4, od4, .func (PySem.W.fnOf "takes_turn" "takes_turn" (defArgs s_takes_turn) (defBody s_takes_turn) (defScope s_takes_turn) .none kV4 dc4 pm4 an4 cd4 ct4), sl4⟩) (c4 : PySem.W.codeIn K cd4 "takes_turn" = true) (k4 : PySem.W.keepIn K (.ref f4) = true)
    (a5 : PySem.W.nsIn K mainGlobals "is_below" = some (some (.ref f5))) (l5 : K.lookup f5 = some ⟨oc5, od5, .func (PySem.W.fnOf "is_below" "is_below" (defArgs s_is_below) (defBody s_is_below) (defScope s_is_below) .none kV5 dc5 pm5 an5 cd5 ct5), sl5⟩) (c5 : PySem.W.codeIn K cd5 "is_below" = true) (k5 : PySem.W.keepIn K (.ref f5) = true)
    (a6 : PySem.W.nsIn K mainGlobals "can_follow" = some (some (.ref f6))) (l6 : K.lookup f6 = some ⟨oc6, od6, .func (PySem.W.fnOf "can_follow" "can_follow" (defArgs s_can_follow) (defBody s_can_follow) (defScope s_can_follow) .none kV6 dc6 pm6 an6 cd6 ct6), sl6⟩) (c6 : PySem.W.codeIn K cd6 "can_follow" = true) (k6 : PySem.W.keepIn K (.ref f6) = true)
    (a7 : PySem.W.nsIn K mainGlobals "check_record" = some (some (.ref f7))) (l7 : K.lookup f7 = some ⟨oc7, od7, .func (PySem.W.fnOf "check_record" "check_record" (defArgs s_check_record) (defBody s_check_record) (defScope s_check_record) (.ref T7) kV7 dc7 pm7 an7 cd7 ct7), sl7⟩) (c7 : PySem.W.codeIn K cd7 "check_record" = true) (k7 : PySem.W.keepIn K (.ref f7) = true) (u_7 : K.lookup T7 = some ⟨.type "tuple", td7, .seq #[.none] tn7, ts7⟩)
    (a8 : PySem.W.nsIn K mainGlobals "is_code" = some (some (.ref f8))) (l8 : K.lookup f8 = some ⟨oc8, od8, .func (PySem.W.fnOf "is_code" "is_code" (defArgs s_is_code) (defBody s_is_code) (defScope s_is_code) .none kV8 dc8 pm8 an8 cd8 ct8), sl8⟩) (c8 : PySem.W.codeIn K cd8 "is_code" = true) (k8 : PySem.W.keepIn K (.ref f8) = true)
    (a9 : PySem.W.nsIn K mainGlobals "is_number" = some (some (.ref f9))) (l9 : K.lookup f9 = some ⟨oc9, od9, .func (PySem.W.fnOf "is_number" "is_number" (defArgs s_is_number) (defBody s_is_number) (defScope s_is_number) .none kV9 dc9 pm9 an9 cd9 ct9), sl9⟩) (c9 : PySem.W.codeIn K cd9 "is_number" = true) (k9 : PySem.W.keepIn K (.ref f9) = true)
    (a10 : PySem.W.nsIn K mainGlobals "is_signed_number" = some (some (.ref f10))) (l10 : K.lookup f10 = some ⟨oc10, od10, .func (PySem.W.fnOf "is_signed_number" "is_signed_number" (defArgs s_is_signed_number) (defBody s_is_signed_number) (defScope s_is_signed_number) .none kV10 dc10 pm10 an10 cd10 ct10), sl10⟩) (c10 : PySem.W.codeIn K cd10 "is_signed_number" = true) (k10 : PySem.W.keepIn K (.ref f10) = true)
    (a11 : PySem.W.nsIn K mainGlobals "way_sign" = some (some (.ref f11))) (l11 : K.lookup f11 = some ⟨oc11, od11, .func (PySem.W.fnOf "way_sign" "way_sign" (defArgs s_way_sign) (defBody s_way_sign) (defScope s_way_sign) .none kV11 dc11 pm11 an11 cd11 ct11), sl11⟩) (c11 : PySem.W.codeIn K cd11 "way_sign" = true) (k11 : PySem.W.keepIn K (.ref f11) = true)
    (a12 : PySem.W.nsIn K mainGlobals "event_text" = some (some (.ref f12))) (l12 : K.lookup f12 = some ⟨oc12, od12, .func (PySem.W.fnOf "event_text" "event_text" (defArgs s_event_text) (defBody s_event_text) (defScope s_event_text) .none kV12 dc12 pm12 an12 cd12 ct12), sl12⟩) (c12 : PySem.W.codeIn K cd12 "event_text" = true) (k12 : PySem.W.keepIn K (.ref f12) = true)
    (a13 : PySem.W.nsIn K mainGlobals "event_of" = some (some (.ref f13))) (l13 : K.lookup f13 = some ⟨oc13, od13, .func (PySem.W.fnOf "event_of" "event_of" (defArgs s_event_of) (defBody s_event_of) (defScope s_event_of) .none kV13 dc13 pm13 an13 cd13 ct13), sl13⟩) (c13 : PySem.W.codeIn K cd13 "event_of" = true) (k13 : PySem.W.keepIn K (.ref f13) = true)
    (a14 : PySem.W.nsIn K mainGlobals "format_record" = some (some (.ref f14))) (l14 : K.lookup f14 = some ⟨oc14, od14, .func (PySem.W.fnOf "format_record" "format_record" (defArgs s_format_record) (defBody s_format_record) (defScope s_format_record) .none kV14 dc14 pm14 an14 cd14 ct14), sl14⟩) (c14 : PySem.W.codeIn K cd14 "format_record" = true) (k14 : PySem.W.keepIn K (.ref f14) = true)
    (a15 : PySem.W.nsIn K mainGlobals "parse_record" = some (some (.ref f15))) (l15 : K.lookup f15 = some ⟨oc15, od15, .func (PySem.W.fnOf "parse_record" "parse_record" (defArgs s_parse_record) (defBody s_parse_record) (defScope s_parse_record) .none kV15 dc15 pm15 an15 cd15 ct15), sl15⟩) (c15 : PySem.W.codeIn K cd15 "parse_record" = true) (k15 : PySem.W.keepIn K (.ref f15) = true)
    (a16 : PySem.W.nsIn K mainGlobals "is_output" = some (some (.ref f16))) (l16 : K.lookup f16 = some ⟨oc16, od16, .func (PySem.W.fnOf "is_output" "is_output" (defArgs s_is_output) (defBody s_is_output) (defScope s_is_output) .none kV16 dc16 pm16 an16 cd16 ct16), sl16⟩) (c16 : PySem.W.codeIn K cd16 "is_output" = true) (k16 : PySem.W.keepIn K (.ref f16) = true)
    (a17 : PySem.W.nsIn K mainGlobals "are_outputs" = some (some (.ref f17))) (l17 : K.lookup f17 = some ⟨oc17, od17, .func (PySem.W.fnOf "are_outputs" "are_outputs" (defArgs s_are_outputs) (defBody s_are_outputs) (defScope s_are_outputs) .none kV17 dc17 pm17 an17 cd17 ct17), sl17⟩) (c17 : PySem.W.codeIn K cd17 "are_outputs" = true) (k17 : PySem.W.keepIn K (.ref f17) = true)
    (a18 : PySem.W.nsIn K mainGlobals "output_sign" = some (some (.ref f18))) (l18 : K.lookup f18 = some ⟨oc18, od18, .func (PySem.W.fnOf "output_sign" "output_sign" (defArgs s_output_sign) (defBody s_output_sign) (defScope s_output_sign) .none kV18 dc18 pm18 an18 cd18 ct18), sl18⟩) (c18 : PySem.W.codeIn K cd18 "output_sign" = true) (k18 : PySem.W.keepIn K (.ref f18) = true)
    (a19 : PySem.W.nsIn K mainGlobals "output_text" = some (some (.ref f19))) (l19 : K.lookup f19 = some ⟨oc19, od19, .func (PySem.W.fnOf "output_text" "output_text" (defArgs s_output_text) (defBody s_output_text) (defScope s_output_text) .none kV19 dc19 pm19 an19 cd19 ct19), sl19⟩) (c19 : PySem.W.codeIn K cd19 "output_text" = true) (k19 : PySem.W.keepIn K (.ref f19) = true)
    (a20 : PySem.W.nsIn K mainGlobals "format_result" = some (some (.ref f20))) (l20 : K.lookup f20 = some ⟨oc20, od20, .func (PySem.W.fnOf "format_result" "format_result" (defArgs s_format_result) (defBody s_format_result) (defScope s_format_result) .none kV20 dc20 pm20 an20 cd20 ct20), sl20⟩) (c20 : PySem.W.codeIn K cd20 "format_result" = true) (k20 : PySem.W.keepIn K (.ref f20) = true)
    (a21 : PySem.W.nsIn K mainGlobals "_law_spin" = some (some (.ref f21))) (l21 : K.lookup f21 = some ⟨oc21, od21, .func (PySem.W.fnOf "_law_spin" "_law_spin" (defArgs s__law_spin) (defBody s__law_spin) (defScope s__law_spin) .none kV21 dc21 pm21 an21 cd21 ct21), sl21⟩) (c21 : PySem.W.codeIn K cd21 "_law_spin" = true) (k21 : PySem.W.keepIn K (.ref f21) = true)
    (a22 : PySem.W.nsIn K mainGlobals "_law_reel" = some (some (.ref f22))) (l22 : K.lookup f22 = some ⟨oc22, od22, .func (PySem.W.fnOf "_law_reel" "_law_reel" (defArgs s__law_reel) (defBody s__law_reel) (defScope s__law_reel) .none kV22 dc22 pm22 an22 cd22 ct22), sl22⟩) (c22 : PySem.W.codeIn K cd22 "_law_reel" = true) (k22 : PySem.W.keepIn K (.ref f22) = true)
    (a23 : PySem.W.nsIn K mainGlobals "_law_code" = some (some (.ref f23))) (l23 : K.lookup f23 = some ⟨oc23, od23, .func (PySem.W.fnOf "_law_code" "_law_code" (defArgs s__law_code) (defBody s__law_code) (defScope s__law_code) .none kV23 dc23 pm23 an23 cd23 ct23), sl23⟩) (c23 : PySem.W.codeIn K cd23 "_law_code" = true) (k23 : PySem.W.keepIn K (.ref f23) = true)
    (a24 : PySem.W.nsIn K mainGlobals "_law_record" = some (some (.ref f24))) (l24 : K.lookup f24 = some ⟨oc24, od24, .func (PySem.W.fnOf "_law_record" "_law_record" (defArgs s__law_record) (defBody s__law_record) (defScope s__law_record) .none kV24 dc24 pm24 an24 cd24 ct24), sl24⟩) (c24 : PySem.W.codeIn K cd24 "_law_record" = true) (k24 : PySem.W.keepIn K (.ref f24) = true)
    (a25 : PySem.W.nsIn K mainGlobals "_law_crowd" = some (some (.ref f25))) (l25 : K.lookup f25 = some ⟨oc25, od25, .func (PySem.W.fnOf "_law_crowd" "_law_crowd" (defArgs s__law_crowd) (defBody s__law_crowd) (defScope s__law_crowd) .none kV25 dc25 pm25 an25 cd25 ct25), sl25⟩) (c25 : PySem.W.codeIn K cd25 "_law_crowd" = true) (k25 : PySem.W.keepIn K (.ref f25) = true)
    (a26 : PySem.W.nsIn K mainGlobals "_law_record_text" = some (some (.ref f26))) (l26 : K.lookup f26 = some ⟨oc26, od26, .func (PySem.W.fnOf "_law_record_text" "_law_record_text" (defArgs s__law_record_text) (defBody s__law_record_text) (defScope s__law_record_text) .none kV26 dc26 pm26 an26 cd26 ct26), sl26⟩) (c26 : PySem.W.codeIn K cd26 "_law_record_text" = true) (k26 : PySem.W.keepIn K (.ref f26) = true)
    (a27 : PySem.W.nsIn K mainGlobals "_law_right" = some (some (.ref f27))) (l27 : K.lookup f27 = some ⟨oc27, od27, .func (PySem.W.fnOf "_law_right" "_law_right" (defArgs s__law_right) (defBody s__law_right) (defScope s__law_right) .none kV27 dc27 pm27 an27 cd27 ct27), sl27⟩) (c27 : PySem.W.codeIn K cd27 "_law_right" = true) (k27 : PySem.W.keepIn K (.ref f27) = true)
    (a28 : PySem.W.nsIn K mainGlobals "_law_result_right" = some (some (.ref f28))) (l28 : K.lookup f28 = some ⟨oc28, od28, .func (PySem.W.fnOf "_law_result_right" "_law_result_right" (defArgs s__law_result_right) (defBody s__law_result_right) (defScope s__law_result_right) .none kV28 dc28 pm28 an28 cd28 ct28), sl28⟩) (c28 : PySem.W.codeIn K cd28 "_law_result_right" = true) (k28 : PySem.W.keepIn K (.ref f28) = true)
    (a29 : PySem.W.nsIn K mainGlobals "law" = some (some (.ref f29))) (l29 : K.lookup f29 = some ⟨oc29, od29, .func (PySem.W.fnOf "law" "law" (defArgs s_law) (defBody s_law) (defScope s_law) .none kV29 dc29 pm29 an29 cd29 ct29), sl29⟩) (c29 : PySem.W.codeIn K cd29 "law" = true) (k29 : PySem.W.keepIn K (.ref f29) = true)
    (v0 : PySem.W.nsIn K mainGlobals "MOST_EVENTS" = some (some (.int 400 tk0)))
    (v1 : PySem.W.nsIn K mainGlobals "MOST_SIGNS" = some (some (.int 8 tk1)))
    (v2 : PySem.W.nsIn K mainGlobals "CODE_SIGNS" = some (some (.str "abcdefghijklmnopqrstuvwxyz0123456789" tk2)))
    (v3 : PySem.W.nsIn K mainGlobals "DIGITS" = some (some (.str "0123456789" tk3)))
    (v4 : PySem.W.nsIn K mainGlobals "MOST_DIGITS" = some (some (.int 30 tk4)))
    (v5 : PySem.W.nsIn K mainGlobals "OUTPUT_WORDS" = some (some (.ref g5))) (u5 : K.lookup g5 = some ⟨.type "tuple", none, .seq #[.str "press" tk5_0, .str "release" tk5_1] gn5, gs5⟩)
    (z0 : PySem.W.nsIn K mainGlobals "len" = some none)
    (z1 : PySem.W.nsIn K mainGlobals "abs" = some none)
    (z2 : PySem.W.nsIn K mainGlobals "max" = some none)
    (z3 : PySem.W.nsIn K mainGlobals "repr" = some none)
    (z4 : PySem.W.nsIn K mainGlobals "isinstance" = some none)
    (z5 : PySem.W.nsIn K mainGlobals "all" = some none)
    (z6 : PySem.W.nsIn K mainGlobals "list" = some none)
    (z7 : PySem.W.nsIn K mainGlobals "tuple" = some none)
    (z8 : PySem.W.nsIn K mainGlobals "int" = some none)
    (z9 : PySem.W.nsIn K mainGlobals "bool" = some none)
    (z10 : PySem.W.nsIn K mainGlobals "str" = some none)
    (z11 : PySem.W.nsIn K mainGlobals "range" = some none)
    (z12 : PySem.W.nsIn K mainGlobals "enumerate" = some none)
    (z13 : PySem.W.nsIn K mainGlobals "min" = some none) :
    ∃ fd : FuncData, (∀ (s : Shared) (u : Value), BindsTo s fd ⟨[u], []⟩ [("_law_script", u)]) ∧ ∀ base : Heap, K.In base → base.Ns mainGlobals mg → FnG l.prog w K mg base 7 fa fd ["_law_script"] (spLaw K) := by
  have e := hfa.symm.trans (PySem.W.mg_of X G a29)
  cases e
  have A_is_an_integer : At K mg "is_an_integer" s_is_an_integer ["value"] := at_mk X G a0 l0 c0 k0 fun _ _ _ _ _ _ us hl => match us, hl with | [_], _ => rfl
  have A_is_step : At K mg "is_step" s_is_step ["value"] := at_mk X G a1 l1 c1 k1 fun _ _ _ _ _ _ us hl => match us, hl with | [_], _ => rfl
  have A_is_event : At K mg "is_event" s_is_event ["value"] := at_mk X G a2 l2 c2 k2 fun _ _ _ _ _ _ us hl => match us, hl with | [_], _ => rfl
  have A_is_short_list : At K mg "is_short_list" s_is_short_list ["value"] := at_mk X G a3 l3 c3 k3 fun _ _ _ _ _ _ us hl => match us, hl with | [_], _ => rfl
  have A_takes_turn : At K mg "takes_turn" s_takes_turn ["held", "key", "way"] := at_mk X G a4 l4 c4 k4 fun _ _ _ _ _ _ us hl => match us, hl with | [_, _, _], _ => rfl
  have A_is_below : At K mg "is_below" s_is_below ["key", "many"] := at_mk X G a5 l5 c5 k5 fun _ _ _ _ _ _ us hl => match us, hl with | [_, _], _ => rfl
  have A_can_follow : At K mg "can_follow" s_can_follow ["event", "last", "held"] := at_mk X G a6 l6 c6 k6 fun _ _ _ _ _ _ us hl => match us, hl with | [_, _, _], _ => rfl
  have A_check_record : AtX K mg "check_record" s_check_record ["value", "many"] [.none] := atX_less X G a7 l7 c7 k7 u_7 fun _ _ _ _ _ _ _ us its hl hi => match us, its, hl, hi with | [_], [_], _, _ => ⟨_, rfl, rfl⟩
  have A_is_code : At K mg "is_code" s_is_code ["value"] := at_mk X G a8 l8 c8 k8 fun _ _ _ _ _ _ us hl => match us, hl with | [_], _ => rfl
  have A_is_number : At K mg "is_number" s_is_number ["text"] := at_mk X G a9 l9 c9 k9 fun _ _ _ _ _ _ us hl => match us, hl with | [_], _ => rfl
  have A_is_signed_number : At K mg "is_signed_number" s_is_signed_number ["text"] := at_mk X G a10 l10 c10 k10 fun _ _ _ _ _ _ us hl => match us, hl with | [_], _ => rfl
  have A_way_sign : At K mg "way_sign" s_way_sign ["way"] := at_mk X G a11 l11 c11 k11 fun _ _ _ _ _ _ us hl => match us, hl with | [_], _ => rfl
  have A_event_text : At K mg "event_text" s_event_text ["event"] := at_mk X G a12 l12 c12 k12 fun _ _ _ _ _ _ us hl => match us, hl with | [_], _ => rfl
  have A_event_of : At K mg "event_of" s_event_of ["word"] := at_mk X G a13 l13 c13 k13 fun _ _ _ _ _ _ us hl => match us, hl with | [_], _ => rfl
  have A_format_record : At K mg "format_record" s_format_record ["record"] := at_mk X G a14 l14 c14 k14 fun _ _ _ _ _ _ us hl => match us, hl with | [_], _ => rfl
  have A_parse_record : At K mg "parse_record" s_parse_record ["text"] := at_mk X G a15 l15 c15 k15 fun _ _ _ _ _ _ us hl => match us, hl with | [_], _ => rfl
  have A_is_output : At K mg "is_output" s_is_output ["value"] := at_mk X G a16 l16 c16 k16 fun _ _ _ _ _ _ us hl => match us, hl with | [_], _ => rfl
  have A_are_outputs : At K mg "are_outputs" s_are_outputs ["value"] := at_mk X G a17 l17 c17 k17 fun _ _ _ _ _ _ us hl => match us, hl with | [_], _ => rfl
  have A_output_sign : At K mg "output_sign" s_output_sign ["word"] := at_mk X G a18 l18 c18 k18 fun _ _ _ _ _ _ us hl => match us, hl with | [_], _ => rfl
  have A_output_text : At K mg "output_text" s_output_text ["output"] := at_mk X G a19 l19 c19 k19 fun _ _ _ _ _ _ us hl => match us, hl with | [_], _ => rfl
  have A_format_result : At K mg "format_result" s_format_result ["result"] := at_mk X G a20 l20 c20 k20 fun _ _ _ _ _ _ us hl => match us, hl with | [_], _ => rfl
  have A__law_spin : At K mg "_law_spin" s__law_spin ["_law_reel_here", "_law_size"] := at_mk X G a21 l21 c21 k21 fun _ _ _ _ _ _ us hl => match us, hl with | [_, _], _ => rfl
  have A__law_reel : At K mg "_law_reel" s__law_reel ["_law_script", "_law_index"] := at_mk X G a22 l22 c22 k22 fun _ _ _ _ _ _ us hl => match us, hl with | [_, _], _ => rfl
  have A__law_code : At K mg "_law_code" s__law_code ["_law_reel_here"] := at_mk X G a23 l23 c23 k23 fun _ _ _ _ _ _ us hl => match us, hl with | [_], _ => rfl
  have A__law_record : At K mg "_law_record" s__law_record ["_law_reel_here", "_law_keys", "_law_size", "_law_gaps"] := at_mk X G a24 l24 c24 k24 fun _ _ _ _ _ _ us hl => match us, hl with | [_, _, _, _], _ => rfl
  have A__law_crowd : At K mg "_law_crowd" s__law_crowd ["_law_reel_here"] := at_mk X G a25 l25 c25 k25 fun _ _ _ _ _ _ us hl => match us, hl with | [_], _ => rfl
  have A__law_record_text : At K mg "_law_record_text" s__law_record_text ["_law_record_here"] := at_mk X G a26 l26 c26 k26 fun _ _ _ _ _ _ us hl => match us, hl with | [_], _ => rfl
  have A__law_right : At K mg "_law_right" s__law_right ["_law_record_here", "_law_is_far"] := at_mk X G a27 l27 c27 k27 fun _ _ _ _ _ _ us hl => match us, hl with | [_, _], _ => rfl
  have A__law_result_right : At K mg "_law_result_right" s__law_result_right ["_law_reel_here", "_law_size"] := at_mk X G a28 l28 c28 k28 fun _ _ _ _ _ _ us hl => match us, hl with | [_, _], _ => rfl
  have A_law : At K mg "law" s_law ["_law_script"] := at_mk X G a29 l29 c29 k29 fun _ _ _ _ _ _ us hl => match us, hl with | [_], _ => rfl
  have m_MOST_EVENTS := PySem.W.mg_of X G v0
  have m_MOST_SIGNS := PySem.W.mg_of X G v1
  have m_CODE_SIGNS := PySem.W.mg_of X G v2
  have m_DIGITS := PySem.W.mg_of X G v3
  have m_MOST_DIGITS := PySem.W.mg_of X G v4
  have m_OUTPUT_WORDS := PySem.W.mg_of X G v5
  have t_OUTPUT_WORDS : ∀ H, SqT K H g5 ((["press", "release"] : List Str).map V.str) := fun H => .inr ⟨_, _, _, u5, rfl, rfl, (by show 2 ≤ sizeLine; decide), .cons ⟨_, rfl⟩ (.cons ⟨_, rfl⟩ (.nil))⟩
  have n_OUTPUT_WORDS : ∃ o : Obj, K.lookup g5 = some o ∧ o.cls = .type "tuple" ∧ o.dict = none := ⟨_, u5, rfl, rfl⟩
  have bt : Bt mg := ⟨PySem.W.mg_none_of X G z0, PySem.W.mg_none_of X G z1, PySem.W.mg_none_of X G z2, PySem.W.mg_none_of X G z3, PySem.W.mg_none_of X G z4, PySem.W.mg_none_of X G z5, PySem.W.mg_none_of X G z6, PySem.W.mg_none_of X G z7, PySem.W.mg_none_of X G z8, PySem.W.mg_none_of X G z9, PySem.W.mg_none_of X G z10, PySem.W.mg_none_of X G z11, PySem.W.mg_none_of X G z12, PySem.W.mg_none_of X G z13⟩
  refine ⟨PySem.W.fnOf "law" "law" (defArgs s_law) (defBody s_law) (defScope s_law) .none kV29 dc29 pm29 an29 cd29 ct29, fun s u => .of_eq rfl, fun base _ _ => ?_⟩
  have C1 := ok_is_an_integer (P := l.prog) (w := w) (base := base) bt A_is_an_integer
  have C2 := ok_is_step bt A_is_step C1
  have C3 := ok_is_event bt A_is_event C1 C2
  have C4 := ok_is_short_list (P := l.prog) (w := w) (base := base) bt _ m_MOST_EVENTS A_is_short_list
  have C5 := ok_takes_turn (P := l.prog) (w := w) (base := base) A_takes_turn
  have C5b := ok_is_below (P := l.prog) (w := w) (base := base) A_is_below
  have C5c := ok_can_follow A_can_follow C5
  have C6 := ok_check_record bt A_check_record C4 C3 C5c C5b
  have B1 := ok_is_code2 (P := l.prog) (w := w) (base := base) bt m_MOST_SIGNS m_CODE_SIGNS A_is_code
  have B2 := ok_is_code B1
  have N1 := ok_is_number (P := l.prog) (w := w) (base := base) bt m_MOST_DIGITS m_DIGITS A_is_number
  have N2 := ok_is_signed_number A_is_signed_number N1
  have N3 := ok_way_sign (P := l.prog) (w := w) (base := base) A_way_sign
  have N4 := ok_event_text A_event_text N3
  have N5 := ok_event_of bt A_event_of N3 N1 N2
  have N6 := ok_format_record A_format_record C6 N4
  have N7 := ok_parse_record bt m_MOST_EVENTS A_parse_record N5 C5c
  have O1 := ok_is_output bt m_OUTPUT_WORDS t_OUTPUT_WORDS A_is_output B2
  have O2 := ok_are_outputs bt A_are_outputs O1
  have O3 := ok_output_sign (P := l.prog) (w := w) (base := base) A_output_sign
  have O4 := ok_output_text A_output_text O3
  have O5 := ok_format_result bt m_MOST_EVENTS A_format_result O2 O4
  have D1 := ok__law_spin (P := l.prog) (w := w) (base := base) A__law_spin
  have D2 := ok__law_reel (P := l.prog) (w := w) (base := base) bt A__law_reel
  have D4 := ok__law_code bt A__law_code D1
  have D5 := ok__law_record bt A__law_record D1
  have D6 := ok__law_crowd bt A__law_crowd D1
  have D7 := ok__law_record_text (P := l.prog) (w := w) (base := base) bt A__law_record_text
  have D8 := ok__law_right bt A__law_right D7 N6 N7
  have D9 := ok__law_result_right bt A__law_result_right D1 D4 O5
  exact ok_law bt (fun_mk l29 c29 k29) D2 D1 D5 D6 D8 D9 N6 O5 N7
end K66
open PySem PySem.W PyProof.Rows
set_option maxHeartbeats 0 in
theorem PySem.Challenge.cw_holdtap_k66_record_and_result_texts_holds : PySem.Challenge.rw_holdtap_k66_record_and_result_texts.Holds := by
  w_on; o_law; k_head; (case hw => w_witness2)
  k_fill
  refine Gd.walkG (l := PySem.Challenge.rw_holdtap_k66_record_and_result_texts) (n := 63) (k := 7) (x := "_law_script") (sp := fun K => K66.spLaw K) rfl (by decide) rfl ⟨rfl, by decide, by decide⟩ (fun w h Y => PySem.W.kIn_of Y) ?F (fun _ _ a ns hl hS => ⟨a, ns, rfl, hS, hl, fun _ => rfl⟩)
  case F =>
    intro w mg fa h KX G hmg
    refine' K66.all_mk KX G hmg ?a0 ?l0 ?c0 ?k0 ?a1 ?l1 ?c1 ?k1 ?a2 ?l2 ?c2 ?k2 ?a3 ?l3 ?c3 ?k3 ?a4 ?l4 ?c4 ?k4 ?a5 ?l5 ?c5 ?k5 ?a6 ?l6 ?c6 ?k6 ?a7 ?l7 ?c7 ?k7 ?u_7 ?a8 ?l8 ?c8 ?k8 ?a9 ?l9 ?c9 ?k9 ?a10 ?l10 ?c10 ?k10 ?a11 ?l11 ?c11 ?k11 ?a12 ?l12 ?c12 ?k12 ?a13 ?l13 ?c13 ?k13 ?a14 ?l14 ?c14 ?k14 ?a15 ?l15 ?c15 ?k15 ?a16 ?l16 ?c16 ?k16 ?a17 ?l17 ?c17 ?k17 ?a18 ?l18 ?c18 ?k18 ?a19 ?l19 ?c19 ?k19 ?a20 ?l20 ?c20 ?k20 ?a21 ?l21 ?c21 ?k21 ?a22 ?l22 ?c22 ?k22 ?a23 ?l23 ?c23 ?k23 ?a24 ?l24 ?c24 ?k24 ?a25 ?l25 ?c25 ?k25 ?a26 ?l26 ?c26 ?k26 ?a27 ?l27 ?c27 ?k27 ?a28 ?l28 ?c28 ?k28 ?a29 ?l29 ?c29 ?k29 ?v0 ?v1 ?v2 ?v3 ?v4 ?v5 ?u5 ?z0 ?z1 ?z2 ?z3 ?z4 ?z5 ?z6 ?z7 ?z8 ?z9 ?z10 ?z11 ?z12 ?z13
    (case a0 => k_is); (case l0 => k_is); (case c0 => k_is); (case k0 => k_is); (case a1 => k_is); (case l1 => k_is); (case c1 => k_is); (case k1 => k_is); (case a2 => k_is); (case l2 => k_is); (case c2 => k_is); (case k2 => k_is); (case a3 => k_is); (case l3 => k_is); (case c3 => k_is); (case k3 => k_is); (case a4 => k_is); (case l4 => k_is); (case c4 => k_is); (case k4 => k_is); (case a5 => k_is); (case l5 => k_is); (case c5 => k_is); (case k5 => k_is); (case a6 => k_is); (case l6 => k_is); (case c6 => k_is); (case k6 => k_is); (case a7 => k_is); (case l7 => k_is); (case c7 => k_is); (case k7 => k_is); (case u_7 => k_is); (case a8 => k_is); (case l8 => k_is); (case c8 => k_is); (case k8 => k_is); (case a9 => k_is); (case l9 => k_is); (case c9 => k_is); (case k9 => k_is); (case a10 => k_is); (case l10 => k_is); (case c10 => k_is); (case k10 => k_is); (case a11 => k_is); (case l11 => k_is); (case c11 => k_is); (case k11 => k_is); (case a12 => k_is); (case l12 => k_is); (case c12 => k_is); (case k12 => k_is); (case a13 => k_is); (case l13 => k_is); (case c13 => k_is); (case k13 => k_is); (case a14 => k_is); (case l14 => k_is); (case c14 => k_is); (case k14 => k_is); (case a15 => k_is); (case l15 => k_is); (case c15 => k_is); (case k15 => k_is); (case a16 => k_is); (case l16 => k_is); (case c16 => k_is); (case k16 => k_is); (case a17 => k_is); (case l17 => k_is); (case c17 => k_is); (case k17 => k_is); (case a18 => k_is); (case l18 => k_is); (case c18 => k_is); (case k18 => k_is); (case a19 => k_is); (case l19 => k_is); (case c19 => k_is); (case k19 => k_is); (case a20 => k_is); (case l20 => k_is); (case c20 => k_is); (case k20 => k_is); (case a21 => k_is); (case l21 => k_is); (case c21 => k_is); (case k21 => k_is); (case a22 => k_is); (case l22 => k_is); (case c22 => k_is); (case k22 => k_is); (case a23 => k_is); (case l23 => k_is); (case c23 => k_is); (case k23 => k_is); (case a24 => k_is); (case l24 => k_is); (case c24 => k_is); (case k24 => k_is); (case a25 => k_is); (case l25 => k_is); (case c25 => k_is); (case k25 => k_is); (case a26 => k_is); (case l26 => k_is); (case c26 => k_is); (case k26 => k_is); (case a27 => k_is); (case l27 => k_is); (case c27 => k_is); (case k27 => k_is); (case a28 => k_is); (case l28 => k_is); (case c28 => k_is); (case k28 => k_is); (case a29 => k_is); (case l29 => k_is); (case c29 => k_is); (case k29 => k_is); (case v0 => k_is); (case v1 => k_is); (case v2 => k_is); (case v3 => k_is); (case v4 => k_is); (case v5 => k_is); (case u5 => k_is); (case z0 => k_is); (case z1 => k_is); (case z2 => k_is); (case z3 => k_is); (case z4 => k_is); (case z5 => k_is); (case z6 => k_is); (case z7 => k_is); (case z8 => k_is); (case z9 => k_is); (case z10 => k_is); (case z11 => k_is); (case z12 => k_is); (case z13 => k_is)

