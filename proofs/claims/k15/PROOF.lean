import PyProof.Rows.All
import Wide.All
import OpenK.AllK
import Wide.FinOn
import HandS.ForMost
import HandS.Walk
import HandS.Wide
import HandS.Style
import HandS.More
import HandS.SetFor
import HandS.SortInts
import HandS.IsInst
import HandS.Codes
import PyProof.ReprRoads
import HandS.Defaults
import PyProof.Rows.SortStr
import PyProof.Rows.SortKeyStr
import KE.SortData
import HandS.Deep
import HandS.Strs
import HandS.ListItems
import KE.KDictList
import HandS.Conv
import PySem.Challenge.RW_holdtap_k15_whole_beginnings_of_records
set_option Elab.async false
set_option linter.all false
set_option maxRecDepth 100000
set_option maxHeartbeats 4000000
/-! A layer over the hand layer in which a def knows that no display is being shown (A.guards): repr needs it. -/
namespace Gd
open PySem PySem.Spec PyProof.Rows L2

/-- what a def promises where no guard stands -/
structure FnG (P : Program) (w : World) (K : PySem.W.Frag) (mg : Str → Option Value) (base : Heap)
    (k : Nat) (f : Addr) (fd : FuncData) (ps : List Str) (sp : Sp) : Prop where
  len : ∀ vs H Q E, sp vs H Q E → vs.length = ps.length
  go : ∀ (A : Around) (outer : List Env) (s : Shared) (H : Hp) (args : Args) (us : List Value) (vs : List V) (Q : VK),
    A.guards = some [] → Room k A → Env0 P w K mg base A outer s H → BindsTo s fd args (ps.zip us) →
    Vals vs us → sp vs H Q E0 →
    codeAny (model P w) A (.call (.ref f) args) (CR CX0 outer P w H s Q E0) s

theorem deep_guards {A : Around} {e : Env} (h : A.guards = some []) : (A.deeper e).guards = some [] := h

section
variable {P : Program} {w : World} {K : PySem.W.Frag} {mg : Str → Option Value} {base : Heap}
theorem fnG {x qual : Str} {st : Stmt} {f : Addr} {fd : FuncData} {N ps : List Str} {k : Nat} {sp : Sp}
    (F : Fun K x qual st f fd) (S : FnScope N ps (defScope st))
    (len : ∀ vs H Q E, sp vs H Q E → vs.length = ps.length)
    (hb : ∀ (cdv : Value) (A : Around) (outer : List Env) (s : Shared) (H : Hp) (vs : List V) (Q : VK),
      A.guards = some [] → Room k (A.deeper (envOfC qual (defScope st) s.heap.objs.size f cdv)) → sp vs H Q E0 →
      ∃ t, PSs (cxOf CX0 P w K mg base N qual (defScope st) f cdv A outer s H E0).nox (defBody st) t ∧
        t { nx := fun _ H' => Q .non H', rt := Q } (start N vs) H) :
    FnG P w K mg base (k + 1) f fd ps sp := by
  obtain ⟨oc, od, kV, doc, pm, an, cdv, ct, osl, rfl, lk, hcd⟩ := F.ex
  refine ⟨len, fun A outer s H args us vs Q hg hr e0 bt rv hsp => ?_⟩
  have kin : K.In s.heap := e0.mod.kin.keeps (fun b o e => (e0.bs b o e).1)
  have nol : s.heap.NoLimit := e0.mod.nolimit.keeps (fun b o e => (e0.bs b o e).1)
  have pk : ((ps.zip us).all fun y => (defScope st).names.lookup y.1 == some NameKind.local ||
      (defScope st).names.lookup y.1 == some NameKind.cell) = true := by
    rw [List.all_eq_true]
    rintro ⟨n, v⟩ hm
    have hp := S.par n (List.of_mem_zip hm).1
    rcases hp with e | e <;> simp [e]
  refine Att.call_fn kin nol lk hcd hr.depth bt pk (fun s1 ic => ?_) S.co S.gen S.kind
  obtain ⟨t, ht, hq⟩ := hb cdv A outer s H vs Q hg (hr.deeper _) hsp
  have J := inv_start (CX := CX0) (E := E0) (P := P) (w := w) (mg := mg) (base := base) S hr.hd e0 (len _ _ _ _ hsp) rv ic
  have J' := J.wish (fun _ _ => False)
  refine wpAny_mono (ht.run [] s1 (start N vs) H _ J' hq) (fun fl s' sp' => ?_) (fun _ _ z => z.elim)
  match fl, sp' with
  | .next, ⟨σ', H', L, q⟩ => exact ⟨.non, H', L.os, L.bare, L.base, L.hok, rfl, q⟩
  | .ret u, ⟨v, σ', H', L, rr, q⟩ => exact ⟨v, H', L.os, L.bare, L.base, L.hok, rr, q⟩
  | .brk, ⟨_, _, _, q⟩ => exact False.elim q
  | .cont, ⟨_, _, _, q⟩ => exact False.elim q
end

/-- a def that may be called by its name -/
structure Cl (P : Program) (w : World) (K : PySem.W.Frag) (mg : Str → Option Value) (base : Heap) (k : Nat) (x : Str) (sp : Sp) : Prop where
  ex : ∃ (f : Addr) (fd : FuncData) (ps : List Str), FnG P w K mg base k f fd ps sp ∧ mg x = some (.ref f) ∧
    PySem.W.keepIn K (.ref f) = true ∧ Binds K fd ps []
/-- where a def stands: its text, its name in the module -/
structure At (K : PySem.W.Frag) (mg : Str → Option Value) (x : Str) (st : Stmt) (ps : List Str) : Prop where
  ex : ∃ (f : Addr) (fd : FuncData), Fun K x x st f fd ∧ mg x = some (.ref f) ∧ Binds K fd ps []
section
variable {P : Program} {w : World} {K : PySem.W.Frag} {mg : Str → Option Value} {base : Heap}
theorem clG {x : Str} {st : Stmt} {N ps : List Str} {k : Nat} {sp : Sp} (a : At K mg x st ps) (S : FnScope N ps (defScope st))
    (len : ∀ vs H Q E, sp vs H Q E → vs.length = ps.length)
    (hb : ∀ (f : Addr) (cdv : Value) (A : Around) (outer : List Env) (s : Shared) (H : Hp) (vs : List V) (Q : VK),
      A.guards = some [] → Room k (A.deeper (envOfC x (defScope st) s.heap.objs.size f cdv)) → sp vs H Q E0 →
      ∃ t, PSs (cxOf CX0 P w K mg base N x (defScope st) f cdv A outer s H E0).nox (defBody st) t ∧
        t { nx := fun _ H' => Q .non H', rt := Q } (start N vs) H) : Cl P w K mg base (k + 1) x sp := by
  obtain ⟨f, fd, F, hm, b⟩ := a.ex
  exact ⟨f, fd, ps, fnG F S len (hb f), hm, F.kp, b⟩
theorem Cl.imp {x : Str} {k : Nat} {sp sp' : Sp} (c : Cl P w K mg base k x sp) (h : ∀ vs H Q E, sp' vs H Q E → sp vs H Q E) :
    Cl P w K mg base k x sp' := by
  obtain ⟨f, fd, ps, F, hm, kp, b⟩ := c.ex
  exact ⟨f, fd, ps, ⟨fun vs H Q E z => F.len vs H Q E (h _ _ _ _ z), fun A o s H as us vs Q g r e bt rv z => F.go A o s H as us vs Q g r e bt rv (h _ _ _ _ z)⟩, hm, kp, b⟩
end
section
variable {X : Cx} {k j : Nat} {x : Str} {sp : Sp} {p pos : Pos} {e : Expr} {es : List Expr} {t : TA}
theorem run_cl {f : Addr} {fd : FuncData} {ps : List Str} {pins : List (Addr × Obj)} {σ : L2.St} {H : Hp} {s : Shared} {Q : VK} {us : List Value} {vs : List V}
    (F : FnG X.prog X.w X.K X.mg X.base k f fd ps sp) (hg : X.A.guards = some []) (hr : Room k X.A) (b : Binds X.K fd ps [])
    (I : Inv X pins σ H s) (rv : Vals vs us) (h : sp vs H Q E0) : wpAny (model X.prog X.w) X.A (call (.ref f) us) (EP X pins σ Q) X.xe s := by
  have hl : us.length = ps.length := rv.length.symm.trans (F.len _ _ _ _ h)
  have bt := b s us I.kIn (by simpa using hl)
  rw [List.append_nil] at bt
  refine wpAny_call (codeAny_mono (F.go X.A X.stack s H ⟨us, []⟩ us vs Q hg hr I.env0 bt rv h) (fun r s' hq => ?_))
  match r, hq with
  | .ok (.ret u), hq => exact I.after hq
  | .ok .next, hq => exact False.elim hq
  | .ok .brk, hq => exact False.elim hq
  | .ok .cont, hq => exact False.elim hq
  | .error _, hq => exact False.elim hq
/-- f(e, ..) -/
theorem pe_cl (c : Cl X.prog X.w X.K X.mg X.base k x sp) (hg : X.A.guards = some []) (hr : Room j X.A) (hk : k ≤ j) (gl : Gl X x) (ha : PA X (e :: es) t)
    (hd : (x == ("__debug__" : Str)) = false := by decide)
    (he : starEach (e :: es) X.env = (false, eval e X.env) :: starEach es X.env := by rfl)
    (hp : (backTo pos (starEach es X.env)).any (·.1) = false := by rfl) :
    PE X (.Call (.Name x p) (e :: es) [] pos) (tCall sp [] E0 t) := by
  obtain ⟨f, fd, ps, F, hm, kp, b⟩ := c.ex
  refine ⟨fun pins s σ H Q I h => wpAny_Call_Name_kw (ld_glob I gl hm (PySem.W.callWith_K (h₀ := X.base) I.ok.mod.kin kp ?_ he hp) hd)⟩
  refine thn (ha.run pos pins s σ H _ I h) (fun us s1 z => ?_)
  obtain ⟨vs, H1, I1, rv, q⟩ := z
  exact ⟨I1.kIn, run_cl F hg (hr.mono hk) b I1 rv (by simpa using q)⟩
/-- f() -/
theorem pe_cl0 (c : Cl X.prog X.w X.K X.mg X.base k x sp) (hg : X.A.guards = some []) (hr : Room j X.A) (hk : k ≤ j) (gl : Gl X x)
    (hd : (x == ("__debug__" : Str)) = false := by decide) :
    PE X (.Call (.Name x p) [] [] pos) (tCall sp [] E0 tNil) := by
  obtain ⟨f, fd, ps, F, hm, kp, b⟩ := c.ex
  refine ⟨fun pins s σ H Q I h => wpAny_Call_Name_kw (ld_glob I gl hm (PySem.W.callWith_K0 I.kIn kp ?_) hd)⟩
  exact run_cl (us := []) F hg (hr.mono hk) b I .nil h
end

/-! ### rules that lack: a great power, repr of data -/
def CPowW (i j : Int) : Prop := 0 ≤ j ∧ (Builtin.Int.intBits i : Int) * j ≤ 2 ^ 27
theorem op_powW {X : Cx} : OpR X (binaryOp .Pow) (rI CPowW fun i j => .int (i ^ j.toNat)) := opI fun _ _ _ _ _ _ _ hc q => pow_int hc.1 hc.2 q
theorem bits_le {i : Int} {n : Nat} (h : i.natAbs < 2 ^ n) : Builtin.Int.intBits i ≤ n := by
  unfold Builtin.Int.intBits
  split
  · exact Nat.zero_le _
  · rename_i hz
    have h0 : i.natAbs ≠ 0 := by
      intro z
      apply hz
      have : i = 0 := Int.natAbs_eq_zero.mp z
      simp [this]
    have := (Nat.log2_lt h0).mpr h
    omega
theorem powW {i : Int} {n k : Nat} (h : i.natAbs < 2 ^ n) (hs : n * k ≤ 2 ^ 27) : CPowW i (k : Int) := by
  refine ⟨by omega, ?_⟩
  have b := bits_le h
  have m : Builtin.Int.intBits i * k ≤ 2 ^ 27 := Nat.le_trans (Nat.mul_le_mul_right k b) hs
  exact_mod_cast m

/-- repr(x), x a list or a tuple of data -/
def rRep (K : PySem.W.Frag) : List V → Hp → VK → Prop := fun xs H Q => ∃ (a : Addr) (d : PyData), xs = [.ref a] ∧ Dp K H (.ref a) d ∧
  d.showable = true ∧ d.depth ≤ 50 ∧ d.shown.length ≤ sizeLine ∧ Q (.str d.shown) H
mutual
theorem dp_nodict {K : PySem.W.Frag} {H : Hp} : ∀ (d : PyData) (v : V), Dp K H v d → d.hasDict = false
  | .none, _, _ => rfl
  | .bool _, _, _ => rfl
  | .int _, _, _ => rfl
  | .str _, _, _ => rfl
  | .list ds, _, h => by
    cases h with
    | lst _ ha => exact dps_nodict ds _ ha
  | .tuple ds, _, h => by
    cases h with
    | tup _ ha => exact dps_nodict ds _ ha
  | .dict _, _, h => by cases h
theorem dps_nodict {K : PySem.W.Frag} {H : Hp} : ∀ (ds : List PyData) (vs : List V), DpAll K H vs ds → PyData.hasDictAll ds = false
  | [], _, _ => rfl
  | d :: ds, _, h => by
    cases h with
    | cons h1 h2 =>
      show (d.hasDict || PyData.hasDictAll ds) = false
      rw [dp_nodict d _ h1, dps_nodict ds _ h2]
      rfl
end
theorem call_rep {X : Cx} {k : Nat} (hg : X.A.guards = some []) (hr : Room k X.A) : CallR X (.builtin "repr") (rRep X.K) := by
  intro pins s σ H xs us Q I r h
  obtain ⟨a, d, rfl, hd, hs, hdp, hz, q⟩ := h
  obtain ⟨u, rfl, ru⟩ := vals1 r
  obtain ⟨as, rd⟩ := Dp.reads I d (.ref a) u hd ru
  cases ru
  have hu := hr.un
  exact repr_of_reads' rd hs (PyData.noDict_hsm (dp_nodict d _ hd)) hg (by omega) (fun _ _ e => e)
    (fun h' t tk hk => ⟨.str d.shown, H, I.kept (t' := tk) hk, ⟨t, rfl⟩, q⟩) hz

/-! ### the law's own call -/
section
variable {P : Program} {w : World} {K : PySem.W.Frag} {mg mb : Str → Option Value} {k : Nat} {fa a : Addr} {fd : FuncData} {x : Str} {sp : Sp} {s₁ : Shared} {vs : List Value} {ns : List Int}
/-- the heap as the caller has it, H what is tracked of it: at most the script -/
theorem top_run (KX : K.In s₁.heap) (gl : s₁.heap.Ns mainGlobals mg) (bl : s₁.heap.Ns builtinsNs mb) (bb : ∀ y : Str, y ≠ "__name__" → mb y = bootBuiltins y)
    (nol : s₁.heap.NoLimit) (ng : s₁.gens = #[]) (oa : s₁.heap.get? a = some { cls := .type "list", data := .seq vs.toArray }) (hr : Room k callerA)
    (F : ∀ base : Heap, K.In base → base.Ns mainGlobals mg → FnG P w K mg base k fa fd [x] sp)
    (bt : ∀ (s : Shared) (u : Value), BindsTo s fd ⟨[u], []⟩ [(x, u)]) {H : Hp} (only : Only H) (hok : HOk P w H s₁.heap)
    (at_a : ∀ b, H b ≠ none → b = a ∧ K.lookup a = none) (h : sp [.ref a] H (fun v _ => v = .bl true) E0) :
    codeAny (model P w) callerA (.call (.ref fa) ⟨[.ref a], []⟩)
      (fun r s' => r = .ok (.ret (.bool true)) ∧ OldK s₁.heap s'.heap ∧ s'.os = s₁.os ∧ AllBare s'.gens) s₁ := by
  have free : ∀ {b : Addr} {o : Obj}, s₁.heap.get? b = some o → (b = a → ∃ es ep, o.data = .dict es ep) → H b = none := by
    intro b o e d
    rcases Classical.em (H b = none) with z | z
    · exact z
    · obtain ⟨rfl, _⟩ := at_a b z
      obtain ⟨es, ep, hd⟩ := d rfl
      rw [oa] at e
      cases e
      cases hd
  have nsAt : ∀ {b : Addr} {m : Str → Option Value}, s₁.heap.Ns b m → (hidT s₁.heap H).Ns b m := by
    intro b m z
    obtain ⟨o, es, ep, e, d, r⟩ := z
    exact ⟨o, es, ep, hidT_get e (free e fun _ => ⟨es, ep, d⟩), d, r⟩
  have KB : K.In (hidT s₁.heap H) := by
    intro b o e
    refine hidT_get (KX b o e) ?_
    rcases Classical.em (H b = none) with z | z
    · exact z
    · obtain ⟨rfl, q⟩ := at_a b z
      rw [q] at e
      cases e
  obtain ⟨ml, l1, l2⟩ := nol
  have M : Mod K mg (hidT s₁.heap H) := ⟨KB, nsAt gl, ⟨mb, nsAt bl, bb⟩, ⟨ml, nsAt l1, l2⟩⟩
  have E : Env0 P w K mg (hidT s₁.heap H) callerA [] s₁ H := by
    refine ⟨rfl, M, fun b o e => of_hidT e, Nat.le_of_eq (hidT_size _ _), True.intro, fun b hb => ?_, hok, .of_eq ng⟩
    exact nomatch (show b ∈ ([] : List Addr) from hb)
  refine codeAny_mono ((F _ KB (nsAt gl)).go callerA [] s₁ H ⟨[.ref a], []⟩ [.ref a] [.ref a] _ rfl hr E (bt s₁ (.ref a)) (.cons rfl .nil) h) ?_
  intro r s' z
  match r, z with
  | .ok .next, z => exact False.elim z
  | .ok .brk, z => exact False.elim z
  | .ok .cont, z => exact False.elim z
  | .error _, z => exact False.elim z
  | .ok (.ret u), ⟨v, H', os, bare, un, hok', rv, q⟩ =>
    have q : v = .bl true := q
    subst q
    have ru : u = Value.bool true := rv
    subst ru
    refine ⟨rfl, OldK.of_keep fun b o e => ?_, os, bare⟩
    rcases only b with n | ⟨ob, xs, n⟩
    · exact un.keep b o e n (fun m => nomatch (show b ∈ ([] : List Addr) from m)) (fun m => nomatch m)
    · have f1 := hok b _ n
      have f2 := hok' b _ (un.frzs b ob _ n)
      have g1 : s₁.heap.get? b = some ob := f1.1
      have g2 : s'.heap.get? b = some ob := f2.1
      rw [e] at g1
      cases g1
      exact g2
theorem law_callG (KX : K.In s₁.heap) (gl : s₁.heap.Ns mainGlobals mg) (bl : s₁.heap.Ns builtinsNs mb) (bb : ∀ y : Str, y ≠ "__name__" → mb y = bootBuiltins y)
    (nol : s₁.heap.NoLimit) (ng : s₁.gens = #[]) (oa : s₁.heap.get? a = some { cls := .type "list", data := .seq vs.toArray }) (hi : IntsAre vs ns) (hl : ns.length ≤ sizeLine) (hr : Room k callerA)
    (F : ∀ base : Heap, K.In base → base.Ns mainGlobals mg → FnG P w K mg base k fa fd [x] sp)
    (bt : ∀ (s : Shared) (u : Value), BindsTo s fd ⟨[u], []⟩ [(x, u)])
    (hsp : ∀ H : Hp, Only H → SqL K H a (ns.map V.int) → sp [.ref a] H (fun v _ => v = .bl true) E0) :
    codeAny (model P w) callerA (.call (.ref fa) ⟨[.ref a], []⟩)
      (fun r s' => r = .ok (.ret (.bool true)) ∧ OldK s₁.heap s'.heap ∧ s'.os = s₁.os ∧ AllBare s'.gens) s₁ := by
  have rv := vals_ints hi
  have lenV := hi.length
  by_cases hk : K.lookup a = none
  · let H : Hp := fun b => if b = a then some (.frz { cls := .type "list", data := .seq vs.toArray } (.lst (ns.map V.int))) else none
    have Ha : H a = some (.frz { cls := .type "list", data := .seq vs.toArray } (.lst (ns.map V.int))) := if_pos rfl
    have Hn : ∀ {b : Addr}, b ≠ a → H b = none := fun h => if_neg h
    have only : Only H := by
      intro b
      by_cases e : b = a
      · subst e; exact .inr ⟨_, _, Ha⟩
      · exact .inl (Hn e)
    refine top_run KX gl bl bb nol ng oa hr F bt (H := H) only ?_ ?_ (hsp H only (.inl (.inr ⟨_, Ha⟩)))
    · intro b u z
      by_cases e : b = a
      · subst e
        rw [Ha] at z
        cases z
        exact ⟨oa, by rw [List.length_map]; exact hl, vs, _, rv, oa⟩
      · rw [Hn e] at z; cases z
    · intro b z
      by_cases e : b = a
      · exact ⟨e, hk⟩
      · exact absurd (Hn e) z
  · obtain ⟨o, ho⟩ := Option.ne_none_iff_exists'.mp hk
    have e := KX a o ho
    rw [oa] at e
    cases e
    have only : Only (fun _ => none) := fun _ => .inl rfl
    refine top_run KX gl bl bb nol ng oa hr F bt (H := fun _ => none) only (fun b u z => nomatch z) (fun b z => absurd rfl z) (hsp _ only (.inr ?_))
    exact ⟨_, vs.toArray, _, ho, rfl, rfl, rfl, by rw [List.size_toArray, lenV]; exact hl, by simpa using rv⟩
end
/-- what k_head leaves, from the promise of the law's def -/
theorem walkG {l : PySem.W.OpenLaw} {n k : Nat} {q : Program} {loose : List Str} {XP : (Str → Option Value) → Heap → Prop} {YP : World → Heap → Prop} {d : DefRec} {K : Params → PySem.W.Frag} {sp : PySem.W.Frag → Sp} {x : Str}
    (hn : l.most = some n) (hn2 : n ≤ sizeLine) (hdf : d.params.defaults = []) (hr : Room k callerA)
    (hY : ∀ (w : World) (h : Heap), YP w h → (K w.params).In h)
    (F : ∀ (w : World) (mg : Str → Option Value) (fa : Addr) (h : Heap), (K w.params).In h → h.Ns mainGlobals mg → mg d.name = some (.ref fa) →
      ∃ fd : FuncData, (∀ (s : Shared) (u : Value), BindsTo s fd ⟨[u], []⟩ [(x, u)]) ∧
        ∀ base : Heap, (K w.params).In base → base.Ns mainGlobals mg → FnG l.prog w (K w.params) mg base k fa fd [x] (sp (K w.params)))
    (hsp : ∀ (K : PySem.W.Frag) (H : Hp) (a : Addr) (ns : List Int), ns.length ≤ n → SqL K H a (ns.map V.int) →
      sp K [.ref a] H (fun v _ => v = .bl true) E0) :
    PySem.W.WalkO q loose XP YP l.row.toRowW d [] (fun f vs => PySem.call f vs) := by
  refine Att.attach_call hn hdf ?_
  intro w s₀ s₁ mg mb fa o pm cd doc a vs ns G Y ho hd hcd hmg oa hi hlen ng
  have KX := hY w _ Y
  obtain ⟨fd, bt, hF⟩ := F w mg fa _ KX G.T.g hmg
  exact law_callG KX G.T.g G.T.b G.T.builtins G.T.nolimit ng oa hi (Nat.le_trans hlen hn2) hr hF bt (fun H _ hS => hsp _ H a ns hlen hS)
end Gd

set_option Elab.async false
set_option linter.all false
set_option maxRecDepth 100000
set_option maxHeartbeats 4000000
/-! a def with defaults, called with all of its arguments, or with some of them -/
namespace Gd
open PySem PySem.Spec PyProof.Rows L2
theorem room65 {k : Nat} {A : Around} (r : Room k A) : A.units + 65 < cLine := by have := r.un; omega
/-- where a def with defaults stands; ds: the values that fill up -/
structure AtX (K : PySem.W.Frag) (mg : Str → Option Value) (x : Str) (st : Stmt) (ps : List Str) (ds : List Value) : Prop where
  ex : ∃ (f : Addr) (oc : Value) (od : Option Addr) (dV kV doc pm : Value) (an : Option Addr) (cdv ct : Value) (osl : Array (Option Value)),
    K.lookup f = some ⟨oc, od, .func (PySem.W.fnOf x x (defArgs st) (defBody st) (defScope st) dV kV doc pm an cdv ct), osl⟩ ∧ PySem.W.codeIn K cdv x = true ∧ PySem.W.keepIn K (.ref f) = true ∧ mg x = some (.ref f) ∧
    Binds K (PySem.W.fnOf x x (defArgs st) (defBody st) (defScope st) dV kV doc pm an cdv ct) ps ds
section
variable {P : Program} {w : World} {K : PySem.W.Frag} {mg : Str → Option Value} {base : Heap}
theorem clX {x : Str} {st : Stmt} {N ps : List Str} {k : Nat} {sp : Sp} (a : AtX K mg x st ps []) (S : FnScope N ps (defScope st))
    (len : ∀ vs H Q E, sp vs H Q E → vs.length = ps.length)
    (hb : ∀ (f : Addr) (cdv : Value) (A : Around) (outer : List Env) (s : Shared) (H : Hp) (vs : List V) (Q : VK),
      A.guards = some [] → Room k (A.deeper (envOfC x (defScope st) s.heap.objs.size f cdv)) → sp vs H Q E0 →
      ∃ t, PSs (cxOf CX0 P w K mg base N x (defScope st) f cdv A outer s H E0).nox (defBody st) t ∧
        t { nx := fun _ H' => Q .non H', rt := Q } (start N vs) H) : Cl P w K mg base (k + 1) x sp := by
  obtain ⟨f, oc, od, dV, kV, doc, pm, an, cdv, ct, osl, lk, hcd, kp, hm, bd⟩ := a.ex
  refine ⟨f, _, ps, ⟨len, fun A outer s H args us vs Q hg hr e0 bt rv hsp => ?_⟩, hm, kp, bd⟩
  have kin : K.In s.heap := e0.mod.kin.keeps (fun b o e => (e0.bs b o e).1)
  have nol : s.heap.NoLimit := e0.mod.nolimit.keeps (fun b o e => (e0.bs b o e).1)
  have pk : ((ps.zip us).all fun y => (defScope st).names.lookup y.1 == some NameKind.local ||
      (defScope st).names.lookup y.1 == some NameKind.cell) = true := by
    rw [List.all_eq_true]
    rintro ⟨n, v⟩ hm
    have hp := S.par n (List.of_mem_zip hm).1
    rcases hp with e | e <;> simp [e]
  refine Att.call_fn kin nol lk hcd hr.depth bt pk (fun s1 ic => ?_) S.co S.gen S.kind
  obtain ⟨t, ht, hq⟩ := hb f cdv A outer s H vs Q hg (hr.deeper _) hsp
  have J := inv_start (CX := CX0) (E := E0) (P := P) (w := w) (mg := mg) (base := base) S hr.hd e0 (len _ _ _ _ hsp) rv ic
  have J' := J.wish (fun _ _ => False)
  refine wpAny_mono (ht.run [] s1 (start N vs) H _ J' hq) (fun fl s' sp' => ?_) (fun _ _ z => z.elim)
  match fl, sp' with
  | .next, ⟨σ', H', L, q⟩ => exact ⟨.non, H', L.os, L.bare, L.base, L.hok, rfl, q⟩
  | .ret u, ⟨v, σ', H', L, rr, q⟩ => exact ⟨v, H', L.os, L.bare, L.base, L.hok, rr, q⟩
  | .brk, ⟨_, _, _, q⟩ => exact False.elim q
  | .cont, ⟨_, _, _, q⟩ => exact False.elim q
end
/-- one default behind: all arguments are given -/
theorem atX_all {K : PySem.W.Frag} {h : Heap} {mg : Str → Option Value} {x : Str} {st : Stmt} {ps : List Str} {f T : Addr} {od an td : Option Addr} {sl ts : Array (Option Value)} {oc kV dc pm cd ct d : Value} {tn : Nat} (X : K.In h) (G : h.Ns mainGlobals mg)
    (a : PySem.W.nsIn K mainGlobals x = some (some (.ref f))) (l : K.lookup f = some ⟨oc, od, .func (PySem.W.fnOf x x (defArgs st) (defBody st) (defScope st) (.ref T) kV dc pm an cd ct), sl⟩) (c : PySem.W.codeIn K cd x = true) (k : PySem.W.keepIn K (.ref f) = true)
    (u : K.lookup T = some ⟨.type "tuple", td, .seq #[d] tn, ts⟩)
    (hb : ∀ (T : Addr) (kV doc pm : Value) (an : Option Addr) (cdv ct : Value) (us its : List Value), us.length = ps.length → its.length = 1 →
      ∃ k, bindArgs (PySem.W.fnOf x x (defArgs st) (defBody st) (defScope st) (.ref T) kV doc pm an cdv ct) ⟨us, []⟩ = seqItems? (.ref T) >>= k ∧ k (some its.toArray) = pure (ps.zip us)) : AtX K mg x st ps [] := by
  refine ⟨f, oc, od, .ref T, kV, dc, pm, an, cd, ct, sl, l, c, k, PySem.W.mg_of X G a, fun s us KX hl => ?_⟩
  rw [List.append_nil] at hl ⊢
  obtain ⟨g, e1, e2⟩ := hb T kV dc pm an cd ct us [d] hl rfl
  refine BindsTo.of_looks fun M => ?_
  rw [e1]
  exact looks_items (its := #[d]) KX u rfl (PySem.W.Looks.of_pure e2)
/-- a method's call within a comprehension: the constants said -/
theorem pe_bmB {X : Cx} {K0 : PySem.W.Frag} {T : String} {name : Str} {id : String} {r : V → List V → Hp → VK → Prop} {o e : Expr} {es : List Expr} {to : TE} {t : TA} {apos cpos : Pos} (hK : X.K = K0) (pa : PlainAttrs T) (slot : Slot T name id) (hty : typeOf (.builtin id) = pure (.type "method_descriptor")) (hm : MtR X id r) (ho : PE X o to) (ha : PA X (e :: es) t)
    (hbase : attributeBase o name X.env (eval o X.env) = eval o X.env := by rfl)
    (hfew : ((backTo cpos (starEach (e :: es) X.env)).all (fun x => !x.1) && (backToKw cpos (keywordEach [] X.env)).all (fun x => x.1.isSome)
      && decide ((e :: es).length + ([] : List Keyword).length + (if ([] : List Keyword).isEmpty then 0 else 1) < 30)) = true := by rfl)
    (hline : (apos.endLine == cpos.line) = true := by rfl) (hs : starEach (e :: es) X.env = (false, eval e X.env) :: starEach es X.env := by rfl) (hplain : (backTo cpos (starEach es X.env)).any (·.1) = false := by rfl) :
    PE X (.Call (.Attribute o name apos) (e :: es) [] cpos) (tBM K0 T r to t) := by
  subst hK
  exact pe_bm pa slot hty hm ho ha hbase hfew hline hs hplain
end Gd

set_option Elab.async false
set_option linter.all false
set_option maxRecDepth 100000
set_option maxHeartbeats 4000000
/-! a def with defaults, called with fewer arguments: the values that fill up come behind -/
namespace Gd
open PySem PySem.Spec PyProof.Rows L2
structure ClD (P : Program) (w : World) (K : PySem.W.Frag) (mg : Str → Option Value) (base : Heap) (k : Nat) (x : Str) (sp : Sp) (dvs : List V) : Prop where
  ex : ∃ (f : Addr) (fd : FuncData) (ps : List Str) (ds : List Value), FnG P w K mg base k f fd ps sp ∧ mg x = some (.ref f) ∧ PySem.W.keepIn K (.ref f) = true ∧ Binds K fd ps ds ∧ Vals dvs ds
section
variable {P : Program} {w : World} {K : PySem.W.Frag} {mg : Str → Option Value} {base : Heap}
theorem clXD {x : Str} {st : Stmt} {N ps : List Str} {k : Nat} {sp : Sp} {ds : List Value} {dvs : List V} (a : AtX K mg x st ps ds) (vd : Vals dvs ds) (S : FnScope N ps (defScope st))
    (len : ∀ vs H Q E, sp vs H Q E → vs.length = ps.length)
    (hb : ∀ (f : Addr) (cdv : Value) (A : Around) (outer : List Env) (s : Shared) (H : Hp) (vs : List V) (Q : VK),
      A.guards = some [] → Room k (A.deeper (envOfC x (defScope st) s.heap.objs.size f cdv)) → sp vs H Q E0 →
      ∃ t, PSs (cxOf CX0 P w K mg base N x (defScope st) f cdv A outer s H E0).nox (defBody st) t ∧
        t { nx := fun _ H' => Q .non H', rt := Q } (start N vs) H) : ClD P w K mg base (k + 1) x sp dvs := by
  obtain ⟨f, oc, od, dV, kV, doc, pm, an, cdv, ct, osl, lk, hcd, kp, hm, bd⟩ := a.ex
  refine ⟨f, _, ps, ds, ⟨len, fun A outer s H args us vs Q hg hr e0 bt rv hsp => ?_⟩, hm, kp, bd, vd⟩
  have kin : K.In s.heap := e0.mod.kin.keeps (fun b o e => (e0.bs b o e).1)
  have nol : s.heap.NoLimit := e0.mod.nolimit.keeps (fun b o e => (e0.bs b o e).1)
  have pk : ((ps.zip us).all fun y => (defScope st).names.lookup y.1 == some NameKind.local ||
      (defScope st).names.lookup y.1 == some NameKind.cell) = true := by
    rw [List.all_eq_true]
    rintro ⟨n, v⟩ hm
    have hp := S.par n (List.of_mem_zip hm).1
    rcases hp with e | e <;> simp [e]
  refine Att.call_fn kin nol lk hcd hr.depth bt pk (fun s1 ic => ?_) S.co S.gen S.kind
  obtain ⟨t, ht, hq⟩ := hb f cdv A outer s H vs Q hg (hr.deeper _) hsp
  have J := inv_start (CX := CX0) (E := E0) (P := P) (w := w) (mg := mg) (base := base) S hr.hd e0 (len _ _ _ _ hsp) rv ic
  have J' := J.wish (fun _ _ => False)
  refine wpAny_mono (ht.run [] s1 (start N vs) H _ J' hq) (fun fl s' sp' => ?_) (fun _ _ z => z.elim)
  match fl, sp' with
  | .next, ⟨σ', H', L, q⟩ => exact ⟨.non, H', L.os, L.bare, L.base, L.hok, rfl, q⟩
  | .ret u, ⟨v, σ', H', L, rr, q⟩ => exact ⟨v, H', L.os, L.bare, L.base, L.hok, rr, q⟩
  | .brk, ⟨_, _, _, q⟩ => exact False.elim q
  | .cont, ⟨_, _, _, q⟩ => exact False.elim q
end
theorem vals_append : ∀ {vs : List V} {us : List Value} {ws : List V} {zs : List Value}, Vals vs us → Vals ws zs → Vals (vs ++ ws) (us ++ zs)
  | _, _, _, _, .nil, h => h
  | _, _, _, _, .cons a b, h => .cons a (vals_append b h)
section
variable {X : Cx} {k j : Nat} {x : Str} {sp : Sp} {p pos : Pos} {e : Expr} {es : List Expr} {t : TA} {dvs : List V}
theorem run_clD {f : Addr} {fd : FuncData} {ps : List Str} {ds : List Value} {pins : List (Addr × Obj)} {σ : L2.St} {H : Hp} {s : Shared} {Q : VK} {us : List Value} {vs : List V}
    (F : FnG X.prog X.w X.K X.mg X.base k f fd ps sp) (hg : X.A.guards = some []) (hr : Room k X.A) (b : Binds X.K fd ps ds) (vd : Vals dvs ds)
    (I : Inv X pins σ H s) (rv : Vals vs us) (h : sp (vs ++ dvs) H Q E0) : wpAny (model X.prog X.w) X.A (call (.ref f) us) (EP X pins σ Q) X.xe s := by
  have ra := vals_append rv vd
  have hl : (us ++ ds).length = ps.length := ra.length.symm.trans (F.len _ _ _ _ h)
  have bt := b s us I.kIn hl
  refine wpAny_call (codeAny_mono (F.go X.A X.stack s H ⟨us, []⟩ (us ++ ds) (vs ++ dvs) Q hg hr I.env0 bt ra h) (fun r s' hq => ?_))
  match r, hq with
  | .ok (.ret u), hq => exact I.after hq
  | .ok .next, hq => exact False.elim hq
  | .ok .brk, hq => exact False.elim hq
  | .ok .cont, hq => exact False.elim hq
  | .error _, hq => exact False.elim hq
/-- f(e, ..), some arguments left out -/
theorem pe_clD (c : ClD X.prog X.w X.K X.mg X.base k x sp dvs) (hg : X.A.guards = some []) (hr : Room j X.A) (hk : k ≤ j) (gl : Gl X x) (ha : PA X (e :: es) t)
    (hd : (x == ("__debug__" : Str)) = false := by decide)
    (he : starEach (e :: es) X.env = (false, eval e X.env) :: starEach es X.env := by rfl)
    (hp : (backTo pos (starEach es X.env)).any (·.1) = false := by rfl) :
    PE X (.Call (.Name x p) (e :: es) [] pos) (tCall sp dvs E0 t) := by
  obtain ⟨f, fd, ps, ds, F, hm, kp, b, vd⟩ := c.ex
  refine ⟨fun pins s σ H Q I h => wpAny_Call_Name_kw (ld_glob I gl hm (PySem.W.callWith_K (h₀ := X.base) I.ok.mod.kin kp ?_ he hp) hd)⟩
  refine thn (ha.run pos pins s σ H _ I h) (fun us s1 z => ?_)
  obtain ⟨vs, H1, I1, rv, q⟩ := z
  exact ⟨I1.kIn, run_clD F hg (hr.mono hk) b vd I1 rv q⟩
end
/-- one default behind: it is left out -/
theorem atX_less {K : PySem.W.Frag} {h : Heap} {mg : Str → Option Value} {x : Str} {st : Stmt} {ps : List Str} {f T : Addr} {od an td : Option Addr} {sl ts : Array (Option Value)} {oc kV dc pm cd ct d : Value} {tn : Nat} (X : K.In h) (G : h.Ns mainGlobals mg)
    (a : PySem.W.nsIn K mainGlobals x = some (some (.ref f))) (l : K.lookup f = some ⟨oc, od, .func (PySem.W.fnOf x x (defArgs st) (defBody st) (defScope st) (.ref T) kV dc pm an cd ct), sl⟩) (c : PySem.W.codeIn K cd x = true) (k : PySem.W.keepIn K (.ref f) = true)
    (u : K.lookup T = some ⟨.type "tuple", td, .seq #[d] tn, ts⟩)
    (hb : ∀ (T : Addr) (kV doc pm : Value) (an : Option Addr) (cdv ct : Value) (us its : List Value), us.length + 1 = ps.length → its.length = 1 →
      ∃ k, bindArgs (PySem.W.fnOf x x (defArgs st) (defBody st) (defScope st) (.ref T) kV doc pm an cdv ct) ⟨us, []⟩ = seqItems? (.ref T) >>= k ∧ k (some its.toArray) = pure (ps.zip (us ++ its))) : AtX K mg x st ps [d] := by
  refine ⟨f, oc, od, .ref T, kV, dc, pm, an, cd, ct, sl, l, c, k, PySem.W.mg_of X G a, fun s us KX hl => ?_⟩
  obtain ⟨g, e1, e2⟩ := hb T kV dc pm an cd ct us [d] (by rw [List.length_append] at hl; exact hl) rfl
  refine BindsTo.of_looks fun M => ?_
  rw [e1]
  exact looks_items (its := #[d]) KX u rfl (PySem.W.Looks.of_pure e2)
end Gd

set_option Elab.async false
set_option linter.all false
set_option maxRecDepth 100000
set_option maxHeartbeats 4000000
namespace Rm
open PySem PySem.Spec PyProof.Rows L2 Gd

/-! ### how long a display is -/
structure Fit (L n : Nat) (d : PyData) : Prop where
  sh : d.showable = true
  dp : d.depth ≤ n
  ln : d.shown.length ≤ L
theorem Fit.mono {L n L' n' : Nat} {d : PyData} (f : Fit L n d) (h : L ≤ L') (h' : n ≤ n') : Fit L' n' d := ⟨f.sh, by have := f.dp; omega, by have := f.ln; omega⟩
theorem allSh {L n : Nat} : ∀ {ds : List PyData}, (∀ d ∈ ds, Fit L n d) → PyData.showableAll ds = true ∧ PyData.depthAll ds ≤ n ∧ piled (PyData.shownAll ds) ≤ ds.length * (L + 2)
  | [], _ => ⟨rfl, Nat.zero_le _, Nat.zero_le _⟩
  | d :: ds, h => by
    obtain ⟨a, b, c⟩ := allSh (ds := ds) fun x hx => h x (List.mem_cons_of_mem _ hx)
    have f := h d List.mem_cons_self
    refine ⟨?_, ?_, ?_⟩
    · show (d.showable && PyData.showableAll ds) = true
      rw [f.sh, a]; rfl
    · show max d.depth (PyData.depthAll ds) ≤ n
      have := f.dp
      omega
    · show piled (d.shown :: PyData.shownAll ds) ≤ _
      rw [piled_cons, List.length_cons]
      have := f.ln
      have e : (ds.length + 1) * (L + 2) = ds.length * (L + 2) + (L + 2) := Nat.succ_mul _ _
      omega
theorem listText_le (ts : List Str) : (listText ts).length ≤ piled ts + 2 := by
  cases ts with
  | nil => decide
  | cons t r =>
    have h := textFrom_length_pos r 1 (("[" : Str) ++ (if (0 : Nat) > 0 then ", " else "" : String) ++ t) (Nat.succ_pos 0)
    have e : ((("[" : Str) ++ (if (0 : Nat) > 0 then ", " else "" : String) ++ t)).length = 1 + t.length := by
      rw [strLen_append, strLen_append]; rfl
    have x : (listText (t :: r)).length = (textFrom 1 (("[" : Str) ++ (if (0 : Nat) > 0 then ", " else "" : String) ++ t) r).length + 1 := by
      show (textFrom 1 (("[" : Str) ++ (if (0 : Nat) > 0 then ", " else "" : String) ++ t) r ++ "]").length = _
      rw [strLen_append]; rfl
    rw [x, h, e, piled_cons]
    omega
theorem tupleText_le (ts : List Str) : (tupleText ts).length ≤ piled ts + 3 := by
  unfold tupleText
  rw [strLen_append, strLen_append]
  have e1 : ((("(" : String) : Str)).length = 1 := rfl
  have e3 : (((if ts.length == 1 then ",)" else ")" : String) : Str)).length ≤ 2 := by split <;> decide
  rw [e1]
  cases ts with
  | nil =>
    have : (Str.join ", " []).length = 0 := by decide
    omega
  | cons t r =>
    have := join_length_add (t :: r) (by simp)
    omega
theorem fit_list {L n : Nat} {ds : List PyData} (h : ∀ d ∈ ds, Fit L n d) : Fit (ds.length * (L + 2) + 3) (n + 1) (.list ds) := by
  obtain ⟨a, b, c⟩ := allSh h
  have := listText_le (PyData.shownAll ds)
  exact ⟨a, by show PyData.depthAll ds + 1 ≤ _; omega, by show (listText (PyData.shownAll ds)).length ≤ _; omega⟩
theorem fit_tup {L n : Nat} {ds : List PyData} (h : ∀ d ∈ ds, Fit L n d) : Fit (ds.length * (L + 2) + 3) (n + 1) (.tuple ds) := by
  obtain ⟨a, b, c⟩ := allSh h
  have := tupleText_le (PyData.shownAll ds)
  exact ⟨a, by show PyData.depthAll ds + 1 ≤ _; omega, by show (tupleText (PyData.shownAll ds)).length ≤ _; omega⟩
theorem fit_int {i : Int} (h : i.natAbs < 2 ^ 200) : Fit 210 0 (.int i) := by
  have hl : i.natAbs.log2 < 200 := PySem.Flt.log2_lt_of (by decide) h
  refine ⟨?_, Nat.le_refl _, ?_⟩
  · show decide (i.natAbs.log2 < 1920) = true
    exact decide_eq_true (by omega)
  · show (Str.ofString (toString i)).length ≤ 210
    rw [PySem.ofString_length]
    have := int_text_length_le (k := 200) (by decide) hl
    omega
theorem fit_none : Fit 210 0 .none := ⟨rfl, Nat.le_refl _, by decide +kernel⟩
theorem fit_bool (b : Bool) : Fit 210 0 (.bool b) := ⟨rfl, Nat.le_refl _, by cases b <;> decide +kernel⟩

/-! ### records -/
structure Ev where
  t : Int
  k : Int
  d : Bool
def wayS (d : Bool) : Str := if d then "down" else "up"
theorem wayS_inj {a b : Bool} : wayS a = wayS b ↔ a = b := by cases a <;> cases b <;> decide +kernel
theorem wayS_down (d : Bool) : decide (V.str (wayS d) = V.str "down") = d := by cases d <;> decide +kernel
def evD (e : Ev) : PyData := .tuple [.int e.t, .int e.k, .str (wayS e.d)]
def stD (e : Ev) : PyData := .tuple [.int e.k, .str (wayS e.d)]
def evV (e : Ev) : List V := [.int e.t, .int e.k, .str (wayS e.d)]
def stV (e : Ev) : List V := [.int e.k, .str (wayS e.d)]
def recD (es : List Ev) : PyData := .list (es.map evD)
def ordD (es : List Ev) : PyData := .list (es.map stD)
def after (h : Int → Bool) (e : Ev) : Int → Bool := fun k => if k = e.k then e.d else h k
def heldB (es : List Ev) : Int → Bool := es.foldl after fun _ => false
theorem heldB_snoc (es : List Ev) (e : Ev) : heldB (es ++ [e]) = after (heldB es) e := by unfold heldB; rw [List.foldl_append]; rfl
theorem heldB_take {es : List Ev} {i : Nat} {e : Ev} (h : es[i]? = some e) : heldB (es.take (i + 1)) = after (heldB (es.take i)) e := by
  rw [List.take_add_one, h]
  exact heldB_snoc _ _
/-- a record as the document has it -/
def Valid (es : List Ev) : Prop := ∀ (i : Nat) (e : Ev), es[i]? = some e → 0 ≤ e.k ∧ heldB (es.take i) e.k = !e.d ∧ ∀ (j : Nat) (e' : Ev), j < i → es[j]? = some e' → e'.t ≤ e.t
/-- an order: the same without ticks -/
def ValidO (es : List Ev) : Prop := ∀ (i : Nat) (e : Ev), es[i]? = some e → 0 ≤ e.k ∧ heldB (es.take i) e.k = !e.d
theorem Valid.o {es : List Ev} (h : Valid es) : ValidO es := fun i e x => ⟨(h i e x).1, (h i e x).2.1⟩
theorem Valid.nil : Valid [] := fun _ _ h => by simp at h
theorem Valid.take {es : List Ev} (h : Valid es) (n : Nat) : Valid (es.take n) := fun i e x => by
  have hi : i < n := by
    rcases Nat.lt_or_ge i n with q | q
    · exact q
    · rw [List.getElem?_eq_none (by rw [List.length_take]; omega)] at x; cases x
  rw [List.getElem?_take_of_lt hi] at x
  obtain ⟨a, b, c⟩ := h i e x
  refine ⟨a, ?_, fun j e' hj y => ?_⟩
  · rw [List.take_take, Nat.min_eq_left (by omega)]; exact b
  · rw [List.getElem?_take_of_lt (by omega)] at y
    exact c j e' hj y
theorem ValidO.take {es : List Ev} (h : ValidO es) (n : Nat) : ValidO (es.take n) := fun i e x => by
  have hi : i < n := by
    rcases Nat.lt_or_ge i n with q | q
    · exact q
    · rw [List.getElem?_eq_none (by rw [List.length_take]; omega)] at x; cases x
  rw [List.getElem?_take_of_lt hi] at x
  obtain ⟨a, b⟩ := h i e x
  exact ⟨a, by rw [List.take_take, Nat.min_eq_left (by omega)]; exact b⟩
theorem Valid.snoc {es : List Ev} {e : Ev} (h : Valid es) (h0 : 0 ≤ e.k) (hb : heldB es e.k = !e.d) (ht : ∀ e' ∈ es, e'.t ≤ e.t) : Valid (es ++ [e]) := fun i x hx => by
  rcases Nat.lt_or_ge i es.length with q | q
  · rw [List.getElem?_append_left q] at hx
    obtain ⟨a, b, c⟩ := h i x hx
    refine ⟨a, ?_, fun j e' hj y => ?_⟩
    · rw [List.take_append_of_le_length (by omega)]; exact b
    · rw [List.getElem?_append_left (by omega)] at y
      exact c j e' hj y
  · have hi : i = es.length := by
      have := (List.getElem?_eq_some_iff.mp hx).1
      rw [List.length_append] at this
      simp at this
      omega
    subst hi
    rw [List.getElem?_append_right (Nat.le_refl _), Nat.sub_self] at hx
    have ex : e = x := Option.some.inj hx
    subst ex
    refine ⟨h0, ?_, fun j e' hj y => ?_⟩
    · rw [List.take_append_of_le_length (Nat.le_refl _), List.take_length]; exact hb
    · rw [List.getElem?_append_left hj] at y
      exact ht e' (List.mem_of_getElem? y)
/-- the ticks and keys are not too great to be shown -/
def Small (es : List Ev) : Prop := ∀ e ∈ es, e.t.natAbs < 2 ^ 200 ∧ e.k.natAbs < 2 ^ 200
theorem fit_ev {e : Ev} (h : e.t.natAbs < 2 ^ 200 ∧ e.k.natAbs < 2 ^ 200) : Fit 1000 1 (evD e) := by
  refine Fit.mono (fit_tup (L := 210) (n := 0) fun d hd => ?_) (by show 3 * 212 + 3 ≤ 1000; decide) (Nat.le_refl _)
  simp only [List.mem_cons, List.mem_nil_iff, or_false] at hd
  rcases hd with rfl | rfl | rfl
  · exact fit_int h.1
  · exact fit_int h.2
  · exact ⟨rfl, Nat.le_refl _, by cases e.d <;> decide +kernel⟩
theorem fit_st {e : Ev} (h : e.k.natAbs < 2 ^ 200) : Fit 1000 1 (stD e) := by
  refine Fit.mono (fit_tup (L := 210) (n := 0) fun d hd => ?_) (by show 2 * 212 + 3 ≤ 1000; decide) (Nat.le_refl _)
  simp only [List.mem_cons, List.mem_nil_iff, or_false] at hd
  rcases hd with rfl | rfl
  · exact fit_int h
  · exact ⟨rfl, Nat.le_refl _, by cases e.d <;> decide +kernel⟩
theorem fit_rec {es : List Ev} (h : Small es) (hl : es.length ≤ 1000) : Fit 1100000 2 (recD es) := by
  refine Fit.mono (fit_list (L := 1000) (n := 1) fun d hd => ?_) (by rw [List.length_map]; omega) (Nat.le_refl _)
  obtain ⟨e, he, rfl⟩ := List.mem_map.mp hd
  exact fit_ev (h e he)
theorem fit_ord {es : List Ev} (h : Small es) (hl : es.length ≤ 1000) : Fit 1100000 2 (ordD es) := by
  refine Fit.mono (fit_list (L := 1000) (n := 1) fun d hd => ?_) (by rw [List.length_map]; omega) (Nat.le_refl _)
  obtain ⟨e, he, rfl⟩ := List.mem_map.mp hd
  exact fit_st (h e he).2

/-! ### the dict of what is held -/
structure HeldK (kvs : List (Key × V)) (h : Int → Bool) : Prop where
  fm : ∀ p ∈ kvs, ∃ (k : Int) (b : Bool), p = (Sum.inl k, V.bl b)
  nd : (kvs.map (·.1)).Nodup
  at_ : ∀ k : Int, (valV kvs (Sum.inl k)).getD (.bl false) = .bl (h k)
theorem HeldK.nil : HeldK [] fun _ => false := ⟨fun _ h => by simp at h, List.nodup_nil, fun _ => rfl⟩
theorem put_len (kvs : List (Key × V)) (k : Key) (v : V) : (putK kvs k v).length ≤ kvs.length + 1 := by
  unfold putK
  split
  · rw [List.length_map]; omega
  · rw [List.length_append]; exact Nat.le_refl _
theorem put_keys (kvs : List (Key × V)) (k : Key) (v : V) (h : (kvs.map (·.1)).Nodup) : ((putK kvs k v).map (·.1)).Nodup := by
  cases e : valV kvs k with
  | none => exact nd_putK v h e
  | some x =>
    have a : (kvs.any fun kv => decide (kv.1 = k)) = true := by rw [valV_any, e]; rfl
    unfold putK
    rw [if_pos a, List.map_map]
    have : ((fun p : Key × V => p.1) ∘ fun kv => if kv.1 = k then (kv.1, v) else kv) = (·.1) := by
      funext p
      show (if p.1 = k then (p.1, v) else p).1 = p.1
      split <;> rfl
    rw [this]
    exact h
theorem HeldK.put {kvs : List (Key × V)} {es : List Ev} {e : Ev} (h : HeldK kvs (heldB es)) : HeldK (putK kvs (Sum.inl e.k) (.bl e.d)) (heldB (es ++ [e])) := by
  refine ⟨fun p hp => ?_, put_keys _ _ _ h.nd, fun k => ?_⟩
  · unfold putK at hp
    split at hp
    · obtain ⟨q, hq, rfl⟩ := List.mem_map.mp hp
      obtain ⟨k, b, rfl⟩ := h.fm q hq
      by_cases z : (Sum.inl k : Key) = Sum.inl e.k
      · exact ⟨k, e.d, by simp [z]⟩
      · exact ⟨k, b, by simp [z]⟩
    · rcases List.mem_append.mp hp with hp | hp
      · exact h.fm p hp
      · exact ⟨e.k, e.d, List.mem_singleton.mp hp⟩
  · rw [valV_put, heldB_snoc]
    unfold after
    by_cases z : k = e.k
    · subst z; simp
    · rw [if_neg (fun q => z (Sum.inl.inj q)), if_neg z]
      exact h.at_ k
def downs (kvs : List (Key × V)) : List Int := kvs.filterMap fun p => match p with
  | (Sum.inl k, .bl true) => some k
  | _ => none
theorem downs_cons (k : Int) (b : Bool) (r : List (Key × V)) : downs ((Sum.inl k, .bl b) :: r) = if b then k :: downs r else downs r := by
  cases b <;> simp [downs, List.filterMap_cons]
theorem downs_sub : ∀ {kvs : List (Key × V)} {k : Int}, k ∈ downs kvs → (Sum.inl k : Key) ∈ kvs.map (·.1)
  | kvs, k, h => by
    obtain ⟨p, hp, e⟩ := List.mem_filterMap.mp h
    refine List.mem_map.mpr ⟨p, hp, ?_⟩
    obtain ⟨a, b⟩ := p
    cases a with
    | inr _ => cases e
    | inl k' =>
      cases b with
      | bl c => cases c <;> simp at e; rw [e]
      | non => cases e
      | int _ => cases e
      | str _ => cases e
      | byt _ => cases e
      | flt _ => cases e
      | ref _ => cases e
      | ty _ => cases e
theorem downs_nd : ∀ {kvs : List (Key × V)}, (∀ p ∈ kvs, ∃ (k : Int) (b : Bool), p = (Sum.inl k, V.bl b)) → (kvs.map (·.1)).Nodup → (downs kvs).Nodup
  | [], _, _ => List.nodup_nil
  | p :: r, fm, nd => by
    obtain ⟨k, b, rfl⟩ := fm p List.mem_cons_self
    have nd' : ((Sum.inl k : Key) :: r.map (·.1)).Nodup := nd
    obtain ⟨n1, n2⟩ := List.nodup_cons.mp nd'
    have ih := downs_nd (fun q hq => fm q (List.mem_cons_of_mem _ hq)) n2
    rw [downs_cons]
    split
    · exact List.nodup_cons.mpr ⟨fun m => n1 (downs_sub m), ih⟩
    · exact ih
theorem downs_mem : ∀ {kvs : List (Key × V)}, (∀ p ∈ kvs, ∃ (k : Int) (b : Bool), p = (Sum.inl k, V.bl b)) → (kvs.map (·.1)).Nodup → ∀ k : Int, k ∈ downs kvs ↔ valV kvs (Sum.inl k) = some (.bl true)
  | [], _, _, k => by simp [downs, valV]
  | p :: r, fm, nd, k => by
    obtain ⟨k', b, rfl⟩ := fm p List.mem_cons_self
    have nd' : ((Sum.inl k' : Key) :: r.map (·.1)).Nodup := nd
    obtain ⟨n1, n2⟩ := List.nodup_cons.mp nd'
    have ih := downs_mem (fun q hq => fm q (List.mem_cons_of_mem _ hq)) n2 k
    rw [downs_cons]
    by_cases z : k' = k
    · subst z
      rw [valV_pos rfl]
      cases b with
      | true => simp
      | false =>
        simp only [Bool.false_eq_true, if_false]
        constructor
        · intro m; exact absurd (downs_sub m) n1
        · intro m; cases m
    · rw [valV_neg (fun q => z (Sum.inl.inj q))]
      rw [← ih]
      split
      · rw [List.mem_cons]
        exact ⟨fun q => q.resolve_left fun e => z e.symm, .inr⟩
      · exact Iff.rfl
theorem HeldK.mem {kvs : List (Key × V)} {h : Int → Bool} (x : HeldK kvs h) (k : Int) : k ∈ downs kvs ↔ h k = true := by
  rw [downs_mem x.fm x.nd k]
  have q := x.at_ k
  cases e : valV kvs (Sum.inl k) with
  | none =>
    rw [e] at q
    have q : V.bl false = .bl (h k) := q
    have : h k = false := (V.bl.inj q).symm
    simp [this]
  | some v =>
    rw [e] at q
    have q : v = .bl (h k) := q
    subst q
    constructor
    · intro z
      exact V.bl.inj (Option.some.inj z)
    · intro z
      rw [z]
/-- two ascending lists of the same keys -/
theorem same_sorted {a b c d : List Int} (h : ∀ k, k ∈ a ↔ k ∈ b) (na : a.Nodup) (nb : b.Nodup) (pa : c.Perm a) (pb : d.Perm b) (sa : c.Pairwise (· ≤ ·)) (sb : d.Pairwise (· ≤ ·)) : c = d := by
  have p : a.Perm b := (List.perm_ext_iff_of_nodup na nb).mpr h
  exact List.Perm.eq_of_pairwise (fun x y _ _ h1 h2 => Int.le_antisymm h1 h2) sa sb ((pa.trans p).trans pb.symm)

/-! ### heaps that change at one address alone -/
def Off (r : Addr) (H H' : Hp) : Prop := ∀ b o, H b = some o → b ≠ r → H' b = some o
theorem Off.refl {r : Addr} (H : Hp) : Off r H H := fun _ _ h _ => h
theorem Off.trans {r : Addr} {H H1 H2 : Hp} (a : Off r H H1) (b : Off r H1 H2) : Off r H H2 := fun c o h n => b c o (a c o h n) n
theorem Off.of {r : Addr} {H H1 : Hp} (a : Same H H1) : Off r H H1 := fun c o h _ => a c o h
theorem off_upd {r : Addr} {H : Hp} {o : HO} : Off r H (upd H r o) := fun b _ h n => by rw [upd_ne n]; exact h
theorem same_upd {H : Hp} {p : Addr} {o : HO} (h : H p = none) : Same H (upd H p o) := fun b x e => by
  rw [upd_ne (ne_of_none e h)]
  exact e
/-- what is new may change -/
theorem Same.off {H H1 H2 : Hp} {p : Addr} (s : Same H H1) (h : H p = none) (o : Off p H1 H2) : Same H H2 := fun b x e => o b x (s b x e) (ne_of_none e h)

/-! ### lists of tuples -/
def Tups {α : Type} (H : Hp) (f : α → List V) (as : List Addr) (es : List α) : Prop := as.length = es.length ∧ ∀ (i : Nat) (a : Addr) (e : α), as[i]? = some a → es[i]? = some e → H a = some (.tup (f e))
def Lst {α : Type} (f : α → List V) (H : Hp) (c : Addr) (es : List α) : Prop := ∃ as : List Addr, H c = some (.lst (as.map V.ref)) ∧ Tups H f as es
section
variable {α : Type} {f : α → List V} {H H' : Hp} {c r : Addr} {as : List Addr} {es : List α}
theorem Tups.nil : Tups H f [] ([] : List α) := ⟨rfl, fun i a e h _ => by simp at h⟩
theorem Tups.same (h : Tups H f as es) (s : Same H H') : Tups H' f as es := ⟨h.1, fun i a e x y => s _ _ (h.2 i a e x y)⟩
theorem Tups.off {ys : List V} (h : Tups H f as es) (hr : H r = some (.lst ys)) (o : Off r H H') : Tups H' f as es :=
  ⟨h.1, fun i a e x y => o _ _ (h.2 i a e x y) (ne_of (h.2 i a e x y) hr (by intro z; cases z))⟩
theorem Tups.snoc {a : Addr} {e : α} (h : Tups H f as es) (ha : H a = some (.tup (f e))) : Tups H f (as ++ [a]) (es ++ [e]) := by
  refine ⟨by rw [List.length_append, List.length_append, h.1]; rfl, fun i b x hb hx => ?_⟩
  rcases Nat.lt_or_ge i as.length with q | q
  · rw [List.getElem?_append_left q] at hb
    rw [List.getElem?_append_left (by rw [← h.1]; exact q)] at hx
    exact h.2 i b x hb hx
  · have hl := h.1
    have hi : i = as.length := by
      have := (List.getElem?_eq_some_iff.mp hb).1
      rw [List.length_append] at this
      simp at this
      omega
    subst hi
    rw [List.getElem?_append_right (Nat.le_refl _), Nat.sub_self] at hb
    rw [List.getElem?_append_right (by omega), show as.length - es.length = 0 by omega] at hx
    have e1 : a = b := Option.some.inj hb
    have e2 : e = x := Option.some.inj hx
    subst e1 e2
    exact ha
theorem Tups.take (h : Tups H f as es) (n : Nat) : Tups H f (as.take n) (es.take n) := by
  refine ⟨by rw [List.length_take, List.length_take, h.1], fun i b x hb hx => ?_⟩
  have hi : i < n := by
    rcases Nat.lt_or_ge i n with q | q
    · exact q
    · rw [List.getElem?_eq_none (by rw [List.length_take]; omega)] at hb; cases hb
  rw [List.getElem?_take_of_lt hi] at hb hx
  exact h.2 i b x hb hx
theorem Tups.append {bs : List Addr} {gs : List α} (h : Tups H f as es) (h' : Tups H f bs gs) : Tups H f (as ++ bs) (es ++ gs) := by
  refine ⟨by rw [List.length_append, List.length_append, h.1, h'.1], fun i b x hb hx => ?_⟩
  have hl := h.1
  rcases Nat.lt_or_ge i as.length with q | q
  · rw [List.getElem?_append_left q] at hb
    rw [List.getElem?_append_left (by omega)] at hx
    exact h.2 i b x hb hx
  · rw [List.getElem?_append_right q] at hb
    rw [List.getElem?_append_right (by omega), ← hl] at hx
    exact h'.2 _ b x hb hx
theorem Tups.at_ (h : Tups H f as es) {i : Nat} (hi : i < es.length) : ∃ a, as[i]? = some a ∧ H a = some (.tup (f es[i])) := by
  have hl := h.1
  exact ⟨as[i], List.getElem?_eq_getElem (by omega), h.2 i _ _ (List.getElem?_eq_getElem (by omega)) (List.getElem?_eq_getElem hi)⟩
theorem Tups.map {β : Type} {g : β → α} {bs : List β} (h : Tups H f as (bs.map g)) : Tups H (fun b => f (g b)) as bs := by
  refine ⟨by rw [h.1, List.length_map], fun i a b x y => h.2 i a (g b) x (by rw [List.getElem?_map, y]; rfl)⟩
theorem Tups.map' {β : Type} {g : β → α} {bs : List β} (h : Tups H (fun b => f (g b)) as bs) : Tups H f as (bs.map g) := by
  refine ⟨by rw [h.1, List.length_map], fun i a e x y => ?_⟩
  rw [List.getElem?_map] at y
  cases z : bs[i]? with
  | none => rw [z] at y; cases y
  | some b =>
    rw [z] at y
    have y : g b = e := Option.some.inj y
    subst y
    exact h.2 i a b x z
theorem Lst.same (h : Lst f H c es) (s : Same H H') : Lst f H' c es := by
  obtain ⟨as, a, b⟩ := h
  exact ⟨as, s _ _ a, b.same s⟩
theorem Lst.off {ys : List V} (h : Lst f H c es) (hr : H r = some (.lst ys)) (n : c ≠ r) (o : Off r H H') : Lst f H' c es := by
  obtain ⟨as, a, b⟩ := h
  exact ⟨as, o _ _ a n, b.off hr o⟩
end
theorem dp_int {K : PySem.W.Frag} {H : Hp} {i : Int} : Dp K H (.int i) (.int i) := .int i
theorem dpAll_of {K : PySem.W.Frag} {H : Hp} {α : Type} {f : α → List V} {g : α → PyData} (hg : ∀ (a : Addr) (e : α), H a = some (.tup (f e)) → Dp K H (.ref a) (g e)) :
    ∀ (as : List Addr) (es : List α), Tups H f as es → DpAll K H (as.map V.ref) (es.map g)
  | [], [], _ => .nil
  | [], _ :: _, h => by have := h.1; simp at this
  | _ :: _, [], h => by have := h.1; simp at this
  | a :: as, e :: es, h => .cons (hg a e (h.2 0 a e rfl rfl)) (dpAll_of hg as es ⟨by have := h.1; simpa using this, fun i b x hb hx => h.2 (i + 1) b x (by simpa using hb) (by simpa using hx)⟩)
theorem Lst.dp {K : PySem.W.Frag} {H : Hp} {c : Addr} {es : List Ev} (h : Lst evV H c es) : Dp K H (.ref c) (recD es) := by
  obtain ⟨as, a, b⟩ := h
  refine .lst (SqL.of a) (dpAll_of (fun a e ha => ?_) as es b)
  exact .tup (SqT.of ha) (.cons (.int _) (.cons (.int _) (.cons (.str _) .nil)))
theorem Lst.dpO {K : PySem.W.Frag} {H : Hp} {c : Addr} {es : List Ev} (h : Lst stV H c es) : Dp K H (.ref c) (ordD es) := by
  obtain ⟨as, a, b⟩ := h
  refine .lst (SqL.of a) (dpAll_of (fun a e ha => ?_) as es b)
  exact .tup (SqT.of ha) (.cons (.int _) (.cons (.str _) .nil))
theorem dpInts {K : PySem.W.Frag} {H : Hp} : ∀ ns : List Int, DpAll K H (ns.map V.int) (ns.map PyData.int)
  | [] => .nil
  | n :: ns => .cons (.int n) (dpInts ns)
theorem Lst.sql {K : PySem.W.Frag} {α : Type} {f : α → List V} {H : Hp} {c : Addr} {es : List α} (h : Lst f H c es) : ∃ xs : List V, SqL K H c xs ∧ xs.length = es.length := by
  obtain ⟨as, a, b⟩ := h
  exact ⟨_, SqL.of a, by rw [List.length_map]; exact b.1⟩

theorem val_at : ∀ {kvs : List (Key × V)} {i : Nat} {k : Key} {v : V}, (kvs.map (·.1)).Nodup → kvs[i]? = some (k, v) → valV kvs k = some v
  | [], _, _, _, _, h => by simp at h
  | p :: r, 0, k, v, _, h => by
    have e : p = (k, v) := Option.some.inj h
    subst e
    exact valV_pos rfl
  | p :: r, i + 1, k, v, nd, h => by
    have nd' : (p.1 :: r.map (·.1)).Nodup := nd
    obtain ⟨n1, n2⟩ := List.nodup_cons.mp nd'
    have h' : r[i]? = some (k, v) := by simpa using h
    have m : k ∈ r.map (·.1) := List.mem_map.mpr ⟨(k, v), List.mem_of_getElem? h', rfl⟩
    rw [valV_neg (fun e => n1 (e ▸ m))]
    exact val_at n2 h'
theorem downs_append (a b : List (Key × V)) : downs (a ++ b) = downs a ++ downs b := by unfold downs; rw [List.filterMap_append]
theorem downs_take {kvs : List (Key × V)} {i : Nat} {k : Int} {b : Bool} (h : kvs[i]? = some (Sum.inl k, .bl b)) : downs (kvs.take (i + 1)) = if b then downs (kvs.take i) ++ [k] else downs (kvs.take i) := by
  rw [List.take_add_one, h, downs_append]
  cases b <;> simp [downs]
theorem downs_len (kvs : List (Key × V)) : (downs kvs).length ≤ kvs.length := by unfold downs; exact List.length_filterMap_le _ _
end Rm

set_option Elab.async false
set_option linter.all false
set_option maxRecDepth 100000
set_option maxHeartbeats 4000000
namespace Rm
open PySem PySem.Spec PyProof.Rows L2 Gd

theorem Off.new {r p : Addr} {H H1 : Hp} {o : HO} (a : Off r H H1) (n : H p = none) : Off r H (upd H1 p o) := fun b x e ne => by
  rw [upd_ne (ne_of_none e n)]
  exact a b x e ne
theorem Off.at_ {r : Addr} {H H1 : Hp} {o : HO} (a : Off r H H1) : Off r H (upd H1 r o) := a.trans off_upd
theorem Off.sameTrans {r : Addr} {H H1 H2 : Hp} (a : Off r H H1) (b : Same H1 H2) : Off r H H2 := a.trans (Off.of b)
/-- what was free stays free of it: a new address of a later heap is new for the earlier one too -/
theorem Off.free {r p : Addr} {H H1 : Hp} {o : HO} (a : Off r H H1) (hr : H1 r = some o) (n : H1 p = none) : H p = none := by
  cases e : H p with
  | none => rfl
  | some x =>
    have h : p ≠ r := fun z => by rw [z, hr] at n; cases n
    rw [a p x e h] at n
    cases n

theorem getI {ns : List Int} {d : Int} (h0 : 0 ≤ d) (h1 : d < (ns.length : Int)) : ∃ (v : Int), atI (ns.map V.int) d = some (.int v) ∧ ns[d.toNat]? = some v := by
  have hd : d.toNat < ns.length := by omega
  refine ⟨ns[d.toNat], ?_, List.getElem?_eq_getElem hd⟩
  refine at_of (j := d.toNat) (by omega) ?_
  rw [List.getElem?_map, List.getElem?_eq_getElem hd]
  rfl
theorem inv_int (k : Int) : ∀ ns : List Int, inV (.int k) (ns.map V.int) = decide (k ∈ ns)
  | [] => rfl
  | n :: ns => by
    show (eqV (.int n) (.int k) || inV (.int k) (ns.map V.int)) = _
    rw [inv_int k ns]
    have e : eqV (.int n) (.int k) = decide (n = k) := by
      by_cases z : n = k <;> simp [eqV, z]
    rw [e]
    by_cases z : n = k
    · subst z; simp
    · have z' : ¬ k = n := fun q => z q.symm
      simp [z, z']
theorem flat_ints : ∀ ns : List Int, (ns.map V.int).all flatV = true
  | [] => rfl
  | n :: ns => by
    show (flatV (.int n) && (ns.map V.int).all flatV) = true
    rw [flat_ints ns]
    rfl
theorem lay_ints : ∀ ns : List Int, PyData.canLayAll0 (ns.map PyData.int) = true ∧ PyData.depthAll (ns.map PyData.int) = 0
  | [] => ⟨rfl, rfl⟩
  | n :: ns => by
    obtain ⟨a, b⟩ := lay_ints ns
    refine ⟨?_, ?_⟩
    · show (PyData.canLay0 (.int n) && PyData.canLayAll0 (ns.map PyData.int)) = true
      rw [a]
      rfl
    · show max (PyData.depth (.int n)) (PyData.depthAll (ns.map PyData.int)) = 0
      rw [b]
      rfl
theorem shaped_ints (ns : List Int) : SeqAt.shaped (.list (ns.map PyData.int)) = true := by
  obtain ⟨a, b⟩ := lay_ints ns
  show (PyData.canLayAll0 (ns.map PyData.int) && decide (PyData.depthAll (ns.map PyData.int) + 1 ≤ 64)) = true
  rw [a, b]
  rfl
theorem eqv_nil (ds : List PyData) : PyData.eqv (.list ds) (.list []) = ds.isEmpty := by
  cases ds <;> rfl
theorem mem_eraseIdx {ns : List Int} {j : Nat} {k : Int} (nd : ns.Nodup) (h : ns[j]? = some k) (x : Int) : x ∈ ns.eraseIdx j ↔ x ≠ k ∧ x ∈ ns := by
  rw [List.mem_eraseIdx_iff_getElem?]
  constructor
  · rintro ⟨i, hi, e⟩
    refine ⟨fun z => ?_, List.mem_of_getElem? e⟩
    subst z
    exact hi (nd_ix nd e h)
  · rintro ⟨hx, hm⟩
    obtain ⟨i, e⟩ := List.getElem?_of_mem hm
    refine ⟨i, fun z => ?_, e⟩
    subst z
    rw [h] at e
    exact hx (Option.some.inj e).symm
theorem first_ix {ns : List Int} {j : Nat} {k : Int} (nd : ns.Nodup) (h : ns[j]? = some k) : ∀ m : Nat, m < j → ns[m]? ≠ some k := fun m hm e => by
  have := nd_ix nd e h
  omega

/-! ### the keys that are down, as a list -/
structure DownOk (ns : List Int) (es : List Ev) : Prop where
  nd : ns.Nodup
  mem : ∀ k, k ∈ ns ↔ heldB es k = true
theorem DownOk.nil : DownOk [] [] := ⟨List.nodup_nil, fun k => by simp [heldB]⟩
theorem DownOk.down {ns : List Int} {es : List Ev} {t k : Int} (h : DownOk ns es) (n : ¬ k ∈ ns) : DownOk (ns ++ [k]) (es ++ [⟨t, k, true⟩]) := by
  refine ⟨nd_snoc h.nd n, fun x => ?_⟩
  rw [heldB_snoc]
  unfold after
  rw [List.mem_append, List.mem_singleton, h.mem]
  by_cases z : x = k
  · subst z; simp
  · simp [z]
theorem DownOk.up {ns : List Int} {es : List Ev} {t k : Int} {j : Nat} (h : DownOk ns es) (e : ns[j]? = some k) : DownOk (ns.eraseIdx j) (es ++ [⟨t, k, false⟩]) := by
  refine ⟨h.nd.eraseIdx j, fun x => ?_⟩
  rw [heldB_snoc, mem_eraseIdx h.nd e, h.mem]
  unfold after
  by_cases z : x = k
  · subst z; simp
  · simp [z]
theorem DownOk.not {ns : List Int} {es : List Ev} {k : Int} (h : DownOk ns es) (n : ¬ k ∈ ns) : heldB es k = false := by
  cases e : heldB es k with
  | false => rfl
  | true => exact absurd ((h.mem k).mpr e) n
/-- other keys for the same -/
theorem heldB_map {f : Int → Int} (hf : ∀ a b, f a = f b → a = b) : ∀ (es : List Ev) (k : Int), heldB (es.map fun e => ⟨e.t, f e.k, e.d⟩) (f k) = heldB es k := by
  intro es k
  suffices h : ∀ (es : List Ev) (g g' : Int → Bool), (∀ k, g' (f k) = g k) → ∀ k, (es.map fun e => (⟨e.t, f e.k, e.d⟩ : Ev)).foldl after g' (f k) = es.foldl after g k from h es _ _ (fun _ => rfl) k
  intro es
  induction es with
  | nil => intro g g' h k; exact h k
  | cons e es ih =>
    intro g g' h k
    refine ih (after g e) (after g' ⟨e.t, f e.k, e.d⟩) (fun x => ?_) k
    unfold after
    by_cases z : x = e.k
    · subst z; simp
    · have z' : ¬ f x = f e.k := fun q => z (hf _ _ q)
      show (if f x = f e.k then e.d else g' (f x)) = if x = e.k then e.d else g x
      rw [if_neg z, if_neg z', h]
theorem Valid.rekey {f : Int → Int} (hf : ∀ a b, f a = f b → a = b) {es : List Ev} (h : Valid es) (h0 : ∀ e ∈ es, 0 ≤ f e.k) : Valid (es.map fun e => ⟨e.t, f e.k, e.d⟩) := fun i e x => by
  rw [List.getElem?_map] at x
  cases y : es[i]? with
  | none => rw [y] at x; cases x
  | some e' =>
    rw [y] at x
    have x : (⟨e'.t, f e'.k, e'.d⟩ : Ev) = e := Option.some.inj x
    subst x
    obtain ⟨a, b, c⟩ := h i e' y
    refine ⟨h0 e' (List.mem_of_getElem? y), ?_, fun j g hj z => ?_⟩
    · rw [← List.map_take]
      show heldB _ (f e'.k) = !e'.d
      rw [heldB_map hf]
      exact b
    · rw [List.getElem?_map] at z
      cases y2 : es[j]? with
      | none => rw [y2] at z; cases z
      | some g' =>
        rw [y2] at z
        have z : (⟨g'.t, f g'.k, g'.d⟩ : Ev) = g := Option.some.inj z
        subst z
        exact c j g' hj y2
/-- ups behind all for keys that are down -/
theorem Valid.ups {t : Int} : ∀ (ns : List Int) {es : List Ev}, Valid es → ns.Nodup → (∀ k ∈ ns, heldB es k = true ∧ 0 ≤ k) → (∀ e ∈ es, e.t ≤ t) → Valid (es ++ ns.map fun k => ⟨t, k, false⟩)
  | [], es, h, _, _, _ => by simpa using h
  | k :: ns, es, h, nd, hb, ht => by
    obtain ⟨n1, n2⟩ := List.nodup_cons.mp nd
    have h1 : Valid (es ++ [⟨t, k, false⟩]) := h.snoc (hb k List.mem_cons_self).2 (by have := (hb k List.mem_cons_self).1; simpa using this) ht
    have := Valid.ups ns h1 n2 (fun x hx => ⟨by
        rw [heldB_snoc]
        unfold after
        have z : x ≠ k := fun q => n1 (q ▸ hx)
        rw [if_neg z]
        exact (hb x (List.mem_cons_of_mem _ hx)).1, (hb x (List.mem_cons_of_mem _ hx)).2⟩) (fun e he => by
        rcases List.mem_append.mp he with he | he
        · exact ht e he
        · rw [List.mem_singleton.mp he]; exact Int.le_refl _)
    simpa using this
theorem heldB_ups {t : Int} : ∀ (ns : List Int) (es : List Ev) (k : Int), heldB (es ++ ns.map fun k => ⟨t, k, false⟩) k = (heldB es k && !decide (k ∈ ns))
  | [], es, k => by simp
  | n :: ns, es, k => by
    have e : es ++ (n :: ns).map (fun k => (⟨t, k, false⟩ : Ev)) = (es ++ [⟨t, n, false⟩]) ++ ns.map fun k => ⟨t, k, false⟩ := by simp
    rw [e, heldB_ups ns, heldB_snoc]
    unfold after
    by_cases z : k = n
    · subst z; simp
    · have : (k ∈ n :: ns) ↔ k ∈ ns := by simp [z]
      simp [z]
/-- who is down is a key of the record -/
theorem held_mem : ∀ {es : List Ev} {k : Int}, heldB es k = true → ∃ e ∈ es, e.k = k := by
  intro es k
  suffices h : ∀ (es : List Ev) (g : Int → Bool), es.foldl after g k = true → g k = true ∨ ∃ e ∈ es, e.k = k by
    intro z
    rcases h es _ z with q | q
    · cases q
    · exact q
  intro es
  induction es with
  | nil => intro g h; exact .inl h
  | cons e es ih =>
    intro g h
    rcases ih (after g e) h with q | ⟨e', he, hk⟩
    · unfold after at q
      by_cases z : k = e.k
      · exact .inr ⟨e, List.mem_cons_self, z.symm⟩
      · rw [if_neg z] at q
        exact .inl q
    · exact .inr ⟨e', List.mem_cons_of_mem _ he, hk⟩
theorem Valid.mono {es : List Ev} (h : Valid es) : ∀ (i j : Nat) (a b : Ev), i < j → es[i]? = some a → es[j]? = some b → a.t ≤ b.t := fun i j a b hij ha hb => (h j b hb).2.2 i a hij ha
theorem lay_st : ∀ es : List Ev, PyData.canLayAll0 (es.map stD) = true ∧ PyData.depthAll (es.map stD) ≤ 1
  | [] => ⟨rfl, Nat.zero_le _⟩
  | e :: es => by
    obtain ⟨a, b⟩ := lay_st es
    refine ⟨?_, ?_⟩
    · have h : PyData.canLay0 (.str (wayS e.d)) = true := by cases e.d <;> decide +kernel
      show ((true && (PyData.canLay0 (.str (wayS e.d)) && true)) && PyData.canLayAll0 (es.map stD)) = true
      rw [a, h]
      rfl
    · show max (PyData.depth (stD e)) (PyData.depthAll (es.map stD)) ≤ 1
      have : PyData.depth (stD e) = 1 := rfl
      omega
theorem shaped_ord (es : List Ev) : SeqAt.shaped (ordD es) = true := by
  obtain ⟨a, b⟩ := lay_st es
  show (PyData.canLayAll0 (es.map stD) && decide (PyData.depthAll (es.map stD) + 1 ≤ 64)) = true
  rw [a, decide_eq_true (by omega)]
  rfl
theorem shaped_nil : SeqAt.shaped (.list []) = true := rfl
end Rm

set_option Elab.async false
set_option linter.all false
set_option maxRecDepth 100000
set_option maxHeartbeats 4000000
namespace La
open PySem PySem.Spec PyProof.Rows L2 Gd Rm

/-! ### codes -/
def signs : Str := "abcdefghijklmnopqrstuvwxyz0123456789"
def CodeOk (c : Str) : Prop := 1 ≤ c.cps.size ∧ c.cps.size ≤ 8 ∧ ∀ x ∈ c.cps.toList, x ∈ signs.cps.toList
instance (c : Str) : Decidable (CodeOk c) := by unfold CodeOk; infer_instance
theorem signs_low : ∀ x ∈ signs.cps.toList, x < 16 ^ 8 := by decide +kernel
theorem fit_code {c : Str} (h : CodeOk c) : Fit 210 0 (.str c) := by
  refine ⟨rfl, Nat.le_refl _, ?_⟩
  have q := PySem.StrLaws.reprText_len c fun x hx => signs_low x (h.2.2 x hx)
  have e : c.length = c.cps.size := rfl
  have := h.2.1
  show (reprText c).length ≤ 210
  omega
theorem joinL_one : ∀ cs : List Nat, TL.joinL [] (cs.map fun c => [c]) = cs
  | [] => rfl
  | [c] => rfl
  | c :: d :: r => by
    have ih := joinL_one (d :: r)
    show [c] ++ ([] ++ TL.joinL [] ((d :: r).map fun c => [c])) = c :: d :: r
    rw [ih]
    rfl
theorem join_one (cs : List Nat) : (Txt.join (("" : String) : Str) (cs.map fun c => (⟨#[c]⟩ : Str))).cps.toList = cs := by
  have h : ∀ a ys, Txt.join a ys = Str.join a ys := fun a ys => TL.join_eq a ys
  rw [h]
  show TL.tl (Str.join _ _) = cs
  rw [TL.tl_join, List.map_map]
  exact joinL_one cs
theorem code_join {cs : List Nat} (h1 : 1 ≤ cs.length) (h8 : cs.length ≤ 8) (h : ∀ c ∈ cs, c ∈ signs.cps.toList) : CodeOk (Txt.join (("" : String) : Str) (cs.map fun c => (⟨#[c]⟩ : Str))) := by
  have e := join_one cs
  refine ⟨?_, ?_, fun x hx => ?_⟩
  · rw [← Array.length_toList, e]; exact h1
  · rw [← Array.length_toList, e]; exact h8
  · rw [e] at hx; exact h x hx

/-! ### actions -/
inductive Actn where
  | none
  | thr
  | code (c : Str)
  | lay (w : Str) (j : Int)
  | dualC (c d : Str) (t : Int) (r : Str)
  | dualL (c : Str) (j t : Int) (r : Str)
def layWords : List Str := ["layer", "lock", "once"]
def rules : List Str := ["time", "other", "within"]
def ActOk (n i : Int) : Actn → Prop
  | .none => True
  | .thr => 0 < i
  | .code c => CodeOk c
  | .lay w j => w ∈ layWords ∧ 1 ≤ j ∧ j ≤ n - 1
  | .dualC c d t r => CodeOk c ∧ CodeOk d ∧ (1 ≤ t ∧ t ≤ 1000000000) ∧ r ∈ rules
  | .dualL c j t r => CodeOk c ∧ (1 ≤ j ∧ j ≤ n - 1) ∧ (1 ≤ t ∧ t ≤ 1000000000) ∧ r ∈ rules
def ActV (H : Hp) : Actn → V → Prop
  | .none, v => v = .str "none"
  | .thr, v => v = .str "through"
  | .code c, v => ∃ a, v = .ref a ∧ H a = some (.tup [.str "code", .str c])
  | .lay w j, v => ∃ a, v = .ref a ∧ H a = some (.tup [.str w, .int j])
  | .dualC c d t r, v => ∃ a b, v = .ref a ∧ H a = some (.tup [.str "dual", .str c, .ref b, .int t, .str r]) ∧ H b = some (.tup [.str "code", .str d])
  | .dualL c j t r, v => ∃ a b, v = .ref a ∧ H a = some (.tup [.str "dual", .str c, .ref b, .int t, .str r]) ∧ H b = some (.tup [.str "layer", .int j])
def actD : Actn → PyData
  | .none => .str "none"
  | .thr => .str "through"
  | .code c => .tuple [.str "code", .str c]
  | .lay w j => .tuple [.str w, .int j]
  | .dualC c d t r => .tuple [.str "dual", .str c, .tuple [.str "code", .str d], .int t, .str r]
  | .dualL c j t r => .tuple [.str "dual", .str c, .tuple [.str "layer", .int j], .int t, .str r]
theorem fit_word {w : Str} (h : w ∈ layWords ∨ w ∈ rules) : Fit 210 0 (.str w) := by
  refine ⟨rfl, Nat.le_refl _, ?_⟩
  unfold layWords rules at h
  simp only [List.mem_cons, List.mem_nil_iff, or_false] at h
  rcases h with (rfl | rfl | rfl) | (rfl | rfl | rfl) <;> decide +kernel
theorem fit_const (w : Str) (h : (reprText w).length ≤ 210 := by decide +kernel) : Fit 210 0 (.str w) := ⟨rfl, Nat.le_refl _, h⟩
theorem fit_two' {a b : PyData} (ha : Fit 210 0 a) (hb : Fit 210 0 b) : Fit 500 1 (.tuple [a, b]) := by
  refine Fit.mono (fit_tup (L := 210) (n := 0) fun d hd => ?_) (by show 2 * 212 + 3 ≤ 500; decide) (Nat.le_refl _)
  simp only [List.mem_cons, List.mem_nil_iff, or_false] at hd
  rcases hd with rfl | rfl
  · exact ha
  · exact hb
theorem fit_five {a b c d e : PyData} (ha : Fit 210 0 a) (hb : Fit 210 0 b) (hc : Fit 500 1 c) (hd : Fit 210 0 d) (he : Fit 210 0 e) : Fit 3000 2 (.tuple [a, b, c, d, e]) := by
  refine Fit.mono (fit_tup (L := 500) (n := 1) fun x hx => ?_) (by show 5 * 502 + 3 ≤ 3000; decide) (Nat.le_refl _)
  simp only [List.mem_cons, List.mem_nil_iff, or_false] at hx
  rcases hx with rfl | rfl | rfl | rfl | rfl
  · exact ha.mono (by decide) (by decide)
  · exact hb.mono (by decide) (by decide)
  · exact hc
  · exact hd.mono (by decide) (by decide)
  · exact he.mono (by decide) (by decide)
theorem fit_low {i : Int} (h : 0 ≤ i) (h2 : i ≤ 1000000000) : Fit 210 0 (.int i) := fit_int (by
  have : (2 : Nat) ^ 200 > 1000000000 := by decide
  omega)
theorem fit_act {n i : Int} {x : Actn} (h : ActOk n i x) (hn : n ≤ 1000) : Fit 3000 2 (actD x) := by
  cases x with
  | none => exact (fit_const "none").mono (by decide) (by decide)
  | thr => exact (fit_const "through").mono (by decide) (by decide)
  | code c => exact (fit_two' (fit_const "code") (fit_code h)).mono (by decide) (by decide)
  | lay w j =>
    obtain ⟨a, b, c⟩ := h
    exact (fit_two' (fit_word (.inl a)) (fit_low (by omega) (by omega))).mono (by decide) (by decide)
  | dualC c d t r =>
    obtain ⟨a, b, ⟨c1, c2⟩, e⟩ := h
    exact fit_five (fit_const "dual") (fit_code a) (fit_two' (fit_const "code") (fit_code b)) (fit_low (by omega) c2) (fit_word (.inr e))
  | dualL c j t r =>
    obtain ⟨a, ⟨b1, b2⟩, ⟨c1, c2⟩, e⟩ := h
    exact fit_five (fit_const "dual") (fit_code a) (fit_two' (fit_const "layer") (fit_low (by omega) (by omega))) (fit_low (by omega) c2) (fit_word (.inr e))

/-! ### heaps in which tuples stay -/
def Tk (H H' : Hp) : Prop := ∀ b xs, H b = some (.tup xs) → H' b = some (.tup xs)
theorem Tk.of {H H' : Hp} (s : Same H H') : Tk H H' := fun b xs h => s _ _ h
theorem Tk.trans {H H1 H2 : Hp} (a : Tk H H1) (b : Tk H1 H2) : Tk H H2 := fun c xs h => b c xs (a c xs h)
theorem Tk.refl (H : Hp) : Tk H H := fun _ _ h => h
theorem tk_upd {H : Hp} {r : Addr} {ys zs : List V} (h : H r = some (.lst ys)) : Tk H (upd H r (.lst zs)) := fun b xs e => by
  rw [upd_ne (ne_of e h (by intro z; cases z))]
  exact e
theorem ActV.keep {H H' : Hp} (t : Tk H H') : ∀ {x : Actn} {v : V}, ActV H x v → ActV H' x v
  | .none, _, h => h
  | .thr, _, h => h
  | .code _, _, ⟨a, e, h⟩ => ⟨a, e, t _ _ h⟩
  | .lay _ _, _, ⟨a, e, h⟩ => ⟨a, e, t _ _ h⟩
  | .dualC _ _ _ _, _, ⟨a, b, e, h, g⟩ => ⟨a, b, e, t _ _ h, t _ _ g⟩
  | .dualL _ _ _ _, _, ⟨a, b, e, h, g⟩ => ⟨a, b, e, t _ _ h, t _ _ g⟩
theorem ActV.dp {K : PySem.W.Frag} {H : Hp} : ∀ {x : Actn} {v : V}, ActV H x v → Dp K H v (actD x)
  | .none, _, h => by cases h; exact .str _
  | .thr, _, h => by cases h; exact .str _
  | .code _, _, ⟨a, e, h⟩ => by cases e; exact .tup (SqT.of h) (.cons (.str _) (.cons (.str _) .nil))
  | .lay _ _, _, ⟨a, e, h⟩ => by cases e; exact .tup (SqT.of h) (.cons (.str _) (.cons (.int _) .nil))
  | .dualC _ _ _ _, _, ⟨a, b, e, h, g⟩ => by
    cases e
    exact .tup (SqT.of h) (.cons (.str _) (.cons (.str _) (.cons (.tup (SqT.of g) (.cons (.str _) (.cons (.str _) .nil))) (.cons (.int _) (.cons (.str _) .nil)))))
  | .dualL _ _ _ _, _, ⟨a, b, e, h, g⟩ => by
    cases e
    exact .tup (SqT.of h) (.cons (.str _) (.cons (.str _) (.cons (.tup (SqT.of g) (.cons (.str _) (.cons (.int _) .nil))) (.cons (.int _) (.cons (.str _) .nil)))))

/-! ### rows and layouts -/
def Acts (H : Hp) (vs : List V) (xs : List Actn) : Prop := vs.length = xs.length ∧ ∀ (i : Nat) (v : V) (x : Actn), vs[i]? = some v → xs[i]? = some x → ActV H x v
def Row (H : Hp) (r : Addr) (xs : List Actn) : Prop := ∃ vs, H r = some (.lst vs) ∧ Acts H vs xs
def Rows (H : Hp) (rs : List Addr) (L : List (List Actn)) : Prop := rs.length = L.length ∧ ∀ (i : Nat) (r : Addr) (row : List Actn), rs[i]? = some r → L[i]? = some row → Row H r row
def Lay (H : Hp) (c : Addr) (L : List (List Actn)) : Prop := ∃ rs : List Addr, H c = some (.lst (rs.map V.ref)) ∧ Rows H rs L
def rowD (xs : List Actn) : PyData := .list (xs.map actD)
def layD (L : List (List Actn)) : PyData := .list (L.map rowD)
structure LayOk (L : List (List Actn)) (m : Nat) : Prop where
  n1 : 1 ≤ L.length
  n6 : L.length ≤ 6
  m1 : 1 ≤ m
  m16 : m ≤ 16
  len : ∀ row ∈ L, row.length = m
  ok : ∀ (i : Nat) (row : List Actn), L[i]? = some row → ∀ x ∈ row, ActOk L.length i x
section
variable {H H' : Hp} {c r : Addr} {vs : List V} {xs : List Actn} {rs : List Addr} {L : List (List Actn)} {m : Nat}
theorem Acts.nil : Acts H [] [] := ⟨rfl, fun i v x h _ => by simp at h⟩
theorem Acts.keep (h : Acts H vs xs) (t : Tk H H') : Acts H' vs xs := ⟨h.1, fun i v x a b => (h.2 i v x a b).keep t⟩
theorem Acts.at_ (h : Acts H vs xs) {i : Nat} (hi : i < xs.length) : ∃ v, vs[i]? = some v ∧ ActV H xs[i] v := by
  have hl := h.1
  exact ⟨vs[i], List.getElem?_eq_getElem (by omega), h.2 i _ _ (List.getElem?_eq_getElem (by omega)) (List.getElem?_eq_getElem hi)⟩
theorem Acts.snoc {v : V} {x : Actn} (h : Acts H vs xs) (hv : ActV H x v) : Acts H (vs ++ [v]) (xs ++ [x]) := by
  refine ⟨by rw [List.length_append, List.length_append, h.1]; rfl, fun i u y a b => ?_⟩
  have hl := h.1
  rcases Nat.lt_or_ge i vs.length with q | q
  · rw [List.getElem?_append_left q] at a
    rw [List.getElem?_append_left (by omega)] at b
    exact h.2 i u y a b
  · have hi : i = vs.length := by
      have := (List.getElem?_eq_some_iff.mp a).1
      rw [List.length_append] at this
      simp at this
      omega
    subst hi
    rw [List.getElem?_append_right (Nat.le_refl _), Nat.sub_self] at a
    rw [List.getElem?_append_right (by omega), show vs.length - xs.length = 0 by omega] at b
    have e1 : v = u := Option.some.inj a
    have e2 : x = y := Option.some.inj b
    subst e1 e2
    exact hv
theorem Acts.set {v : V} {x : Actn} {j : Nat} (h : Acts H vs xs) (hv : ActV H x v) : Acts H (vs.set j v) (xs.set j x) := by
  refine ⟨by rw [List.length_set, List.length_set, h.1], fun i u y a b => ?_⟩
  have hl := h.1
  by_cases z : j = i
  · subst z
    have hj : j < vs.length := by
      have := (List.getElem?_eq_some_iff.mp a).1
      rwa [List.length_set] at this
    rw [List.getElem?_set_self hj] at a
    rw [List.getElem?_set_self (by omega)] at b
    have e1 : v = u := Option.some.inj a
    have e2 : x = y := Option.some.inj b
    subst e1 e2
    exact hv
  · rw [List.getElem?_set_ne z] at a b
    exact h.2 i u y a b
theorem Row.same (h : Row H r xs) (s : Same H H') : Row H' r xs := by
  obtain ⟨vs, a, b⟩ := h
  exact ⟨vs, s _ _ a, b.keep (Tk.of s)⟩
theorem Rows.same (h : Rows H rs L) (s : Same H H') : Rows H' rs L := ⟨h.1, fun i r row a b => (h.2 i r row a b).same s⟩
theorem Lay.same (h : Lay H c L) (s : Same H H') : Lay H' c L := by
  obtain ⟨rs, a, b⟩ := h
  exact ⟨rs, s _ _ a, b.same s⟩
theorem Rows.at_ (h : Rows H rs L) {i : Nat} (hi : i < L.length) : ∃ r, rs[i]? = some r ∧ Row H r L[i] := by
  have hl := h.1
  exact ⟨rs[i], List.getElem?_eq_getElem (by omega), h.2 i _ _ (List.getElem?_eq_getElem (by omega)) (List.getElem?_eq_getElem hi)⟩
theorem Acts.dp {K : PySem.W.Frag} : ∀ {vs : List V} {xs : List Actn}, Acts H vs xs → DpAll K H vs (xs.map actD)
  | [], [], _ => .nil
  | [], _ :: _, h => by have := h.1; simp at this
  | _ :: _, [], h => by have := h.1; simp at this
  | v :: vs, x :: xs, h => .cons ((h.2 0 v x rfl rfl).dp) (Acts.dp ⟨by have := h.1; simpa using this, fun i u y a b => h.2 (i + 1) u y (by simpa using a) (by simpa using b)⟩)
theorem Row.dp {K : PySem.W.Frag} (h : Row H r xs) : Dp K H (.ref r) (rowD xs) := by
  obtain ⟨vs, a, b⟩ := h
  exact .lst (SqL.of a) b.dp
theorem Rows.dp {K : PySem.W.Frag} : ∀ {rs : List Addr} {L : List (List Actn)}, Rows H rs L → DpAll K H (rs.map V.ref) (L.map rowD)
  | [], [], _ => .nil
  | [], _ :: _, h => by have := h.1; simp at this
  | _ :: _, [], h => by have := h.1; simp at this
  | r :: rs, row :: L, h => .cons ((h.2 0 r row rfl rfl).dp) (Rows.dp ⟨by have := h.1; simpa using this, fun i u y a b => h.2 (i + 1) u y (by simpa using a) (by simpa using b)⟩)
theorem Lay.dp {K : PySem.W.Frag} (h : Lay H c L) : Dp K H (.ref c) (layD L) := by
  obtain ⟨rs, a, b⟩ := h
  exact .lst (SqL.of a) b.dp
theorem LayOk.fit (h : LayOk L m) : Fit 300100 4 (layD L) := by
  refine Fit.mono (fit_list (L := 50000) (n := 3) fun d hd => ?_) (by rw [List.length_map]; have := h.n6; omega) (Nat.le_refl _)
  obtain ⟨row, hr, rfl⟩ := List.mem_map.mp hd
  obtain ⟨i, hi⟩ := List.getElem?_of_mem hr
  refine Fit.mono (fit_list (L := 3000) (n := 2) fun d hd => ?_) (by rw [List.length_map, h.len row hr]; have := h.m16; omega) (Nat.le_refl _)
  obtain ⟨x, hx, rfl⟩ := List.mem_map.mp hd
  exact fit_act (h.ok i row hi x hx) (by have := h.n6; omega)
theorem LayOk.set (h : LayOk L m) {i j : Nat} {x : Actn} {row : List Actn} (hi : L[i]? = some row) (hx : ActOk L.length i x) : LayOk (L.set i (row.set j x)) m := by
  have hil := (List.getElem?_eq_some_iff.mp hi).1
  refine ⟨by rw [List.length_set]; exact h.n1, by rw [List.length_set]; exact h.n6, h.m1, h.m16, fun r hr => ?_, fun k r hk y hy => ?_⟩
  · rcases List.mem_or_eq_of_mem_set hr with q | q
    · exact h.len r q
    · rw [q, List.length_set]; exact h.len row (List.mem_of_getElem? hi)
  · rw [List.length_set]
    by_cases z : i = k
    · subst z
      rw [List.getElem?_set_self hil] at hk
      have e : row.set j x = r := Option.some.inj hk
      subst e
      rcases List.mem_or_eq_of_mem_set hy with q | q
      · exact h.ok i row hi y q
      · rw [q]; exact hx
    · rw [List.getElem?_set_ne z] at hk
      exact h.ok k r hk y hy
end
theorem inv_str (k : Str) : ∀ ws : List Str, inV (.str k) (ws.map V.str) = decide (k ∈ ws)
  | [] => rfl
  | n :: ns => by
    show (eqV (.str n) (.str k) || inV (.str k) (ns.map V.str)) = _
    rw [inv_str k ns]
    have e : eqV (.str n) (.str k) = decide (n = k) := by
      by_cases z : n = k <;> simp [eqV, z]
    rw [e]
    by_cases z : n = k
    · subst z; simp
    · have z' : ¬ k = n := fun q => z q.symm
      simp [z, z']
end La

set_option Elab.async false
set_option linter.all false
set_option maxRecDepth 100000
set_option maxHeartbeats 4000000
namespace Ss
open PySem PySem.Spec PyProof.Rows L2
/-! sorted of a list of texts, any number of them -/
def txt : Value → Str
  | .str x _ => x
  | _ => Str.empty
def stLt (x y : Str) : Bool := decide (x.cps.toList < y.cps.toList)
def txLt (v u : Value) : Bool := stLt (txt v) (txt u)
theorem swo_txt : SrtO.Swo txLt where
  asym := fun v u h => decide_eq_false fun z => List.lt_asymm (of_decide_eq_true h) z
  tr := fun v u z h1 h2 => decide_eq_false fun y => by
    have a : ¬ (txt u).cps.toList < (txt v).cps.toList := of_decide_eq_false h1
    have b : ¬ (txt z).cps.toList < (txt u).cps.toList := of_decide_eq_false h2
    exact (List.not_lt.mpr (List.le_trans (List.not_lt.mp a) (List.not_lt.mp b))) y
theorem txts_mem : ∀ {us : List Value} {cs : List Str}, StrsAre us cs → ∀ u ∈ us, ∃ c k, u = Value.str c k
  | _, _, .nil, u, h => by cases h
  | _, _, .cons c k rest, u, h => by
    rcases List.mem_cons.mp h with rfl | h'
    · exact ⟨c, k, rfl⟩
    · exact txts_mem rest u h'
theorem txts_of : ∀ {us : List Value}, (∀ u ∈ us, ∃ c k, u = Value.str c k) → StrsAre us (us.map txt)
  | [], _ => .nil
  | u :: us, h => by
    obtain ⟨c, k, rfl⟩ := h u List.mem_cons_self
    exact .cons c k (txts_of fun z hz => h z (List.mem_cons_of_mem _ hz))
theorem txts_map : ∀ {us : List Value} {cs : List Str}, StrsAre us cs → us.map txt = cs
  | _, _, .nil => rfl
  | _, _, .cons c k rest => congrArg (c :: ·) (txts_map rest)
section
variable {prog : Program} {w : World} {A : Around} {s : Shared}
theorem txt_cmp {us : List Value} {cs : List Str} (hs : StrsAre us cs) : SrtO.Cmp prog w A s oneType' (fun p => p.1 ∈ us) (SrtO.lt2 txLt) := by
  intro p q hp hq
  obtain ⟨a, j, ea⟩ := txts_mem hs _ hp
  obtain ⟨b, k, eb⟩ := txts_mem hs _ hq
  show wpAny (model prog w) A (keyLt' oneType' p.1 q.1) (fun r z => z = s ∧ r = txLt p.1 q.1) (fun _ _ => False) s
  rw [ea, eb, keyLt'_oneType]
  exact oneLt_str ⟨rfl, rfl⟩
theorem txts_sortable {a : Addr} {us : List Value} {cs : List Str} (hs : StrsAre us cs) (h2 : 2 ≤ us.length) : SrtO.SortableO prog w A s a us txLt := fun h' _ => by
  refine ⟨oneType', fun Q E hq => ?_, txt_cmp hs⟩
  match us, hs, h2 with
  | u1 :: u2 :: more, hs, _ =>
    rw [keyKind_strs hs]
    exact wpAny_pure hq
  | [_], _, h => exact absurd h (by simp)
  | [], _, h => exact absurd h (by decide)
end
/-- sorted(xs), texts -/
def rSortedT (K : PySem.W.Frag) : List V → Hp → VK → Prop := fun vs H Q => ∃ (a : Addr) (cs : List Str), vs = [V.ref a] ∧ SqL K H a (cs.map V.str) ∧
  ∀ (ds : List Str) (p : Addr), ds.Perm cs → ds.Pairwise (fun x y => stLt y x = false) → H p = none → Q (.ref p) (upd H p (.lst (ds.map V.str)))
theorem call_sortedT {X : Cx} : CallR X (.builtin "sorted") (rSortedT X.K) := by
  intro pins s σ H vs us Q I r h
  obtain ⟨a, cs, rfl, hs, q⟩ := h
  obtain ⟨its, rv, hl, hz⟩ := I.list hs
  rw [Vals.ref1 r]
  have ht := rv.strs
  refine SrtO.sorted_ord swo_txt hl.isList (by rw [← rv.length]; exact hz) (fun h2 _ _ _ _ => txts_sortable ht h2) fun out g1 g2 => ?_
  have k1 : StrsAre out (out.map txt) := txts_of fun u hu => txts_mem ht u (g2.perm.mem_iff.mp hu)
  have k2 : (out.map txt).Perm cs := by
    have z := g2.perm.map txt
    rw [txts_map ht] at z
    exact z
  have k3 : (out.map txt).Pairwise (fun x y => stLt y x = false) := List.pairwise_map.mpr g1
  obtain ⟨ep, he⟩ := PyProof.Rows.sortedAll_at s.heap its out.toArray
  have size : ((out.map txt).map V.str).length ≤ sizeLine := by
    rw [List.length_map] at hz ⊢
    rw [k2.length_eq]
    exact hz
  exact ⟨.ref _, upd H (s.heap.objs.size + 1) (.lst ((out.map txt).map V.str)), I.laid (t' := s.toks) (fun _ _ => PyProof.Rows.sortedAll_old) (Nat.le_succ _) ⟨size, out, ep, vals_of_strs k1, he⟩, rfl, q _ _ k2 k3 (I.hok.fresh (Nat.le_succ _))⟩
end Ss

set_option Elab.async false
set_option linter.all false
set_option maxRecDepth 100000
set_option maxHeartbeats 4000000
namespace Sd
open PySem PySem.Spec PyProof.Rows L2
/-! sorted of a list of data, any number of items -/
abbrev EachIs {α β : Type} := @PySem.W.EachIs α β
theorem each_zip {X : Cx} {pins : List (Addr × Obj)} {σ : L2.St} {H : Hp} {s : Shared} (I : Inv X pins σ H s) : ∀ (ds : List PyData) (xs : List V) (us : List Value), DpAll X.K H xs ds → Vals xs us →
    PySem.W.EachIs (fun (u : Value) (b : V × PyData) => RelV b.1 u) us (xs.zip ds) ∧ PySem.W.EachIs (fun (u : Value) (b : V × PyData) => ∃ as, Reads s.heap u b.2 as) us (xs.zip ds)
  | [], _, _, .nil, .nil => ⟨.nil, .nil⟩
  | d :: ds, _, _, .cons h1 h2, .cons r1 r2 => by
    obtain ⟨a, b⟩ := each_zip I ds _ _ h2 r2
    exact ⟨.cons r1 a, .cons (Dp.reads I d _ _ h1 r1) b⟩
theorem vals_each : ∀ {us : List Value} {bs : List (V × PyData)}, PySem.W.EachIs (fun (u : Value) (b : V × PyData) => RelV b.1 u) us bs → Vals (bs.map (·.1)) us
  | _, _, .nil => .nil
  | _, _, .cons h t => .cons h (vals_each t)
theorem zip_map2 : ∀ {xs : List V} {ds : List PyData}, xs.length = ds.length → (xs.zip ds).map (·.2) = ds
  | [], [], _ => rfl
  | [], _ :: _, h => by simp at h
  | _ :: _, [], h => by simp at h
  | x :: xs, d :: ds, h => by
    rw [List.zip_cons_cons, List.map_cons, zip_map2 (by simpa using h)]
theorem dpAll_len {K : PySem.W.Frag} {H : Hp} : ∀ {xs : List V} {ds : List PyData}, DpAll K H xs ds → xs.length = ds.length
  | _, _, .nil => rfl
  | _, _, .cons _ t => by rw [List.length_cons, List.length_cons, dpAll_len t]
/-- sorted(xs), data -/
def rSortedD (K : PySem.W.Frag) : List V → Hp → VK → Prop := fun vs H Q => ∃ (a : Addr) (xs : List V) (ds : List PyData), vs = [V.ref a] ∧ SqL K H a xs ∧ DpAll K H xs ds ∧ PySem.W.AllAlike ds ∧ PySem.W.Sortable ds ∧ (∀ d ∈ ds, d.depth ≤ 50) ∧
  ∀ (p : Addr), H p = none → Q (.ref p) (upd H p (.lst (((xs.zip ds).mergeSort (PySem.W.dataLe false (·.2))).map (·.1))))
theorem call_sortedD {X : Cx} {k : Nat} (hr : Room k X.A) : CallR X (.builtin "sorted") (rSortedD X.K) := by
  intro pins s σ H vs us Q I r h
  obtain ⟨a, xs, ds, rfl, hs, hd, al, so, dp, q⟩ := h
  obtain ⟨its, rv, hl, hz⟩ := I.list hs
  rw [Vals.ref1 r]
  obtain ⟨e1, e2⟩ := each_zip I ds xs its hd rv
  have lz := dpAll_len hd
  have hu := hr.un
  have lb : (xs.zip ds).length = xs.length := by rw [List.length_zip]; omega
  refine PySem.W.sorted_data (enc := (·.2)) hl.isList e1 e2 (by rw [zip_map2 lz]; exact al) (by rw [zip_map2 lz]; exact so) (by rw [lb]; exact hz) (fun b hb => ?_) (fun out ol eo => ?_)
  · have := dp b.2 (List.of_mem_zip hb).2
    show X.A.units + 2 + b.2.depth < cLine
    omega
  · obtain ⟨ep, he⟩ := PyProof.Rows.sortedAll_at s.heap its out.toArray
    have hv := vals_each eo
    have size : (((xs.zip ds).mergeSort (PySem.W.dataLe false (·.2))).map (·.1)).length ≤ sizeLine := by
      rw [List.length_map, List.length_mergeSort, lb]
      exact hz
    exact ⟨.ref _, upd H (s.heap.objs.size + 1) (.lst _), I.laid (t' := s.toks) (fun _ _ => PyProof.Rows.sortedAll_old) (Nat.le_succ _) ⟨size, out, ep, hv, he⟩, rfl, q _ (I.hok.fresh (Nat.le_succ _))⟩
end Sd

set_option Elab.async false
set_option linter.all false
set_option maxRecDepth 100000
set_option maxHeartbeats 4000000
/-! repr of any data; bounds in the heap -/
namespace Gd
open PySem PySem.Spec PyProof.Rows L2
def rRepA (K : PySem.W.Frag) : List V → Hp → VK → Prop := fun xs H Q => ∃ (v : V) (d : PyData), xs = [v] ∧ Dp K H v d ∧
  d.showable = true ∧ d.depth ≤ 50 ∧ d.shown.length ≤ sizeLine ∧ Q (.str d.shown) H
theorem call_repA {X : Cx} {k : Nat} (hg : X.A.guards = some []) (hr : Room k X.A) : CallR X (.builtin "repr") (rRepA X.K) := by
  intro pins s σ H xs us Q I r h
  obtain ⟨v, d, rfl, hd, hs, hdp, hz, q⟩ := h
  cases d with
  | list ds =>
    cases hd with
    | lst h1 h2 => exact call_rep hg hr pins s σ H _ us Q I r ⟨_, _, rfl, .lst h1 h2, hs, hdp, hz, q⟩
  | tuple ds =>
    cases hd with
    | tup h1 h2 => exact call_rep hg hr pins s σ H _ us Q I r ⟨_, _, rfl, .tup h1 h2, hs, hdp, hz, q⟩
  | dict ds => cases hd
  | none =>
    cases hd
    obtain ⟨u, rfl, ru⟩ := vals1 r
    cases ru
    exact PySem.P.repr_of_none ⟨.str _, H, I.tok _, ⟨_, rfl⟩, q⟩
  | bool b =>
    cases hd
    obtain ⟨u, rfl, ru⟩ := vals1 r
    cases ru
    exact PySem.P.repr_of_bool ⟨.str _, H, I.tok _, ⟨_, rfl⟩, q⟩
  | int i =>
    cases hd
    obtain ⟨u, rfl, ⟨t, rfl⟩⟩ := vals1 r
    exact PySem.P.repr_of_int (of_decide_eq_true hs) ⟨.str _, H, I.tok _, ⟨_, rfl⟩, q⟩
  | str z =>
    cases hd
    obtain ⟨u, rfl, ⟨t, rfl⟩⟩ := vals1 r
    exact PySem.P.repr_of_str ⟨.str _, H, I.tok _, ⟨_, rfl⟩, q⟩ hz
end Gd

set_option Elab.async false
set_option linter.all false
set_option maxRecDepth 100000
set_option maxHeartbeats 4000000
/-! combos, and the pieces of a record -/
namespace Cb
open PySem PySem.Spec PyProof.Rows L2 Gd Rm La
structure Cmb where
  ks : List Int
  t : Int
  c : Str
structure CmbOk (many : Int) (cb : Cmb) : Prop where
  asc : cb.ks.Pairwise (· < ·)
  len : cb.ks.length = 2 ∨ cb.ks.length = 3
  key : ∀ k ∈ cb.ks, 0 ≤ k ∧ k < many
  time : 1 ≤ cb.t ∧ cb.t ≤ 10 ^ 9
  code : CodeOk cb.c
def CmbV (H : Hp) (cb : Cmb) (v : V) : Prop := ∃ a k, v = .ref a ∧ H a = some (.tup [.ref k, .int cb.t, .str cb.c]) ∧ H k = some (.tup (cb.ks.map V.int))
theorem CmbV.tk {H H' : Hp} {cb : Cmb} {v : V} (h : CmbV H cb v) (t : Tk H H') : CmbV H' cb v := by
  obtain ⟨a, k, e, h1, h2⟩ := h
  exact ⟨a, k, e, t _ _ h1, t _ _ h2⟩
/-- a list of combos -/
def Cmbs (H : Hp) (c : Addr) (cbs : List Cmb) : Prop := ∃ vs : List V, H c = some (.lst vs) ∧ vs.length = cbs.length ∧ ∀ (i : Nat) (v : V) (cb : Cmb), vs[i]? = some v → cbs[i]? = some cb → CmbV H cb v
theorem Cmbs.same {H H' : Hp} {c : Addr} {cbs : List Cmb} (h : Cmbs H c cbs) (s : Same H H') : Cmbs H' c cbs := by
  obtain ⟨vs, a, b, d⟩ := h
  exact ⟨vs, s _ _ a, b, fun i v cb x y => (d i v cb x y).tk (Tk.of s)⟩
theorem Cmbs.go {H H' : Hp} {c : Addr} {cbs : List Cmb} (h : Cmbs H c cbs) (t : Tk H H') (e : ∀ vs, H c = some (.lst vs) → H' c = some (.lst vs)) : Cmbs H' c cbs := by
  obtain ⟨vs, a, b, d⟩ := h
  exact ⟨vs, e _ a, b, fun i v cb x y => (d i v cb x y).tk t⟩
theorem Cmbs.at_ {H : Hp} {cbs : List Cmb} {vs : List V} (h : vs.length = cbs.length ∧ ∀ (i : Nat) (v : V) (cb : Cmb), vs[i]? = some v → cbs[i]? = some cb → CmbV H cb v) {i : Nat} (hi : i < cbs.length) :
    ∃ a k, vs[i]? = some (.ref a) ∧ H a = some (.tup [.ref k, .int cbs[i].t, .str cbs[i].c]) ∧ H k = some (.tup (cbs[i].ks.map V.int)) := by
  obtain ⟨hl, hv⟩ := h
  have hi' : i < vs.length := by omega
  obtain ⟨a, k, e, h1, h2⟩ := hv i vs[i] cbs[i] (List.getElem?_eq_getElem hi') (List.getElem?_eq_getElem hi)
  exact ⟨a, k, by rw [List.getElem?_eq_getElem hi', e], h1, h2⟩
/-- combos for so many keys -/
structure CbsOk (many : Int) (cbs : List Cmb) : Prop where
  all : ∀ cb ∈ cbs, CmbOk many cb
  few : cbs.length ≤ 6
  apart : (cbs.map Cmb.ks).Nodup
theorem CbsOk.nil (many : Int) : CbsOk many [] := ⟨fun cb h => by simp at h, by decide, List.nodup_nil⟩
def ksD (ks : List Int) : PyData := .tuple (ks.map PyData.int)
def cmbD (cb : Cmb) : PyData := .tuple [ksD cb.ks, .int cb.t, .str cb.c]
def cmbsD (cbs : List Cmb) : PyData := .list (cbs.map cmbD)
theorem CmbV.dp {K : PySem.W.Frag} {H : Hp} {cb : Cmb} {v : V} (h : CmbV H cb v) : Dp K H v (cmbD cb) := by
  obtain ⟨a, k, rfl, h1, h2⟩ := h
  exact .tup (SqT.of h1) (.cons (.tup (SqT.of h2) (dpInts _)) (.cons (.int _) (.cons (.str _) .nil)))
theorem dpAll_idx {α : Type} {K : PySem.W.Frag} {H : Hp} {g : α → PyData} {R : α → V → Prop} (hg : ∀ x v, R x v → Dp K H v (g x)) : ∀ (vs : List V) (xs : List α), vs.length = xs.length → (∀ (i : Nat) (v : V) (x : α), vs[i]? = some v → xs[i]? = some x → R x v) → DpAll K H vs (xs.map g)
  | [], [], _, _ => .nil
  | [], _ :: _, h, _ => by simp at h
  | _ :: _, [], h, _ => by simp at h
  | v :: vs, x :: xs, h, f => .cons (hg x v (f 0 v x rfl rfl)) (dpAll_idx hg vs xs (by simpa using h) fun i v x a b => f (i + 1) v x (by simpa using a) (by simpa using b))
theorem Cmbs.dp {K : PySem.W.Frag} {H : Hp} {c : Addr} {cbs : List Cmb} (h : Cmbs H c cbs) : Dp K H (.ref c) (cmbsD cbs) := by
  obtain ⟨vs, a, b, d⟩ := h
  exact .lst (SqL.of a) (dpAll_idx (R := CmbV H) (fun x v h => h.dp) vs cbs b d)
theorem fit_cmb {many : Int} {cb : Cmb} (hm : many ≤ 1000) (h : CmbOk many cb) : Fit 4000 2 (cmbD cb) := by
  have hk : Fit 1000 1 (ksD cb.ks) := by
    refine Fit.mono (fit_tup (L := 210) (n := 0) fun d hd => ?_) (by rw [List.length_map]; have := h.len; omega) (Nat.le_refl _)
    obtain ⟨v, hv, rfl⟩ := List.mem_map.mp hd
    have := h.key v hv
    exact fit_int (by omega)
  have ht := h.time
  refine Fit.mono (fit_tup (L := 1000) (n := 1) fun d hd => ?_) (by show 3 * 1002 + 3 ≤ 4000; decide) (Nat.le_refl _)
  simp only [List.mem_cons, List.mem_nil_iff, or_false] at hd
  rcases hd with rfl | rfl | rfl
  · exact hk
  · exact Fit.mono (fit_int (by omega)) (by decide) (by decide)
  · exact Fit.mono (fit_code h.code) (by decide) (by decide)
theorem fit_cmbs {many : Int} {cbs : List Cmb} (hm : many ≤ 1000) (h : CbsOk many cbs) : Fit 40000 3 (cmbsD cbs) := by
  refine Fit.mono (fit_list (L := 4000) (n := 2) fun d hd => ?_) (by rw [List.length_map]; have := h.few; omega) (Nat.le_refl _)
  obtain ⟨cb, hc, rfl⟩ := List.mem_map.mp hd
  exact fit_cmb hm (h.all cb hc)
theorem lay_cmb (cb : Cmb) (hc : CodeOk cb.c) : PyData.canLay0 (cmbD cb) = true ∧ PyData.depth (cmbD cb) = 2 := by
  obtain ⟨a, b⟩ := lay_ints cb.ks
  refine ⟨?_, ?_⟩
  · show (PyData.canLayAll0 (cb.ks.map PyData.int) && (PyData.canLay0 (.int cb.t) && (PyData.canLay0 (.str cb.c) && true))) = true
    have hs : PyData.strOk cb.c = true := by
      unfold PyData.strOk
      rw [← Array.all_toList, List.all_eq_true]
      have all : ∀ y ∈ signs.cps.toList, decide (y < 0x110000) = true := by decide +kernel
      exact fun y hy => all y (hc.2.2 y hy)
    rw [a]; simp [PyData.canLay0, hs]
  · show max (PyData.depthAll (cb.ks.map PyData.int) + 1) (max 0 (max 0 0)) + 1 = 2
    rw [b]; rfl
theorem lay_cmbs : ∀ cbs : List Cmb, (∀ cb ∈ cbs, CodeOk cb.c) → PyData.canLayAll0 (cbs.map cmbD) = true ∧ PyData.depthAll (cbs.map cmbD) ≤ 2
  | [], _ => ⟨rfl, by decide⟩
  | cb :: cbs, h => by
    obtain ⟨a, b⟩ := lay_cmbs cbs fun c hc => h c (List.mem_cons_of_mem _ hc)
    obtain ⟨x, y⟩ := lay_cmb cb (h cb List.mem_cons_self)
    refine ⟨?_, ?_⟩
    · show (PyData.canLay0 (cmbD cb) && PyData.canLayAll0 (cbs.map cmbD)) = true
      rw [x, a]; rfl
    · show max (PyData.depth (cmbD cb)) (PyData.depthAll (cbs.map cmbD)) ≤ 2
      omega
theorem shaped_cmbs (cbs : List Cmb) (h : ∀ cb ∈ cbs, CodeOk cb.c) : SeqAt.shaped (cmbsD cbs) = true := by
  obtain ⟨a, b⟩ := lay_cmbs cbs h
  show (PyData.canLayAll0 (cbs.map cmbD) && decide (PyData.depthAll (cbs.map cmbD) + 1 ≤ 64)) = true
  rw [a, decide_eq_true (by omega)]; rfl
theorem shaped_ks (ks : List Int) : SeqAt.shaped (ksD ks) = true := by
  obtain ⟨a, b⟩ := lay_ints ks
  show (PyData.canLayAll0 (ks.map PyData.int) && decide (PyData.depthAll (ks.map PyData.int) + 1 ≤ 64)) = true
  rw [a, b]; rfl
theorem lay_kss : ∀ kss : List (List Int), PyData.canLayAll0 (kss.map ksD) = true ∧ PyData.depthAll (kss.map ksD) ≤ 1
  | [] => ⟨rfl, by decide⟩
  | ks :: kss => by
    obtain ⟨a, b⟩ := lay_kss kss
    obtain ⟨x, y⟩ := lay_ints ks
    refine ⟨?_, ?_⟩
    · show (PyData.canLayAll0 (ks.map PyData.int) && PyData.canLayAll0 (kss.map ksD)) = true
      rw [x, a]; rfl
    · show max (PyData.depthAll (ks.map PyData.int) + 1) (PyData.depthAll (kss.map ksD)) ≤ 1
      omega
theorem shaped_kss (kss : List (List Int)) : SeqAt.shaped (.list (kss.map ksD)) = true := by
  obtain ⟨a, b⟩ := lay_kss kss
  show (PyData.canLayAll0 (kss.map ksD) && decide (PyData.depthAll (kss.map ksD) + 1 ≤ 64)) = true
  rw [a, decide_eq_true (by omega)]; rfl
theorem eqv_intsA : ∀ xs ys : List Int, PyData.eqvAll (xs.map PyData.int) (ys.map PyData.int) = decide (xs = ys)
  | [], [] => rfl
  | [], _ :: _ => rfl
  | _ :: _, [] => rfl
  | o :: xs, p :: ys => by
    show (PyData.eqv (.int o) (.int p) && PyData.eqvAll (xs.map PyData.int) (ys.map PyData.int)) = _
    have e : PyData.eqv (.int o) (.int p) = decide (o = p) := by
      by_cases z : o = p
      · subst z; simp [PyData.eqv]
      · simp [PyData.eqv, z]
    rw [e, eqv_intsA xs ys]
    by_cases a : o = p <;> by_cases b : xs = ys <;> simp [a, b]
theorem eqv_intL (xs ys : List Int) : PyData.eqv (.list (xs.map PyData.int)) (.list (ys.map PyData.int)) = decide (xs = ys) := by rw [← eqv_intsA]; rfl
theorem eqv_ks (xs ys : List Int) : PyData.eqv (ksD xs) (ksD ys) = decide (xs = ys) := by rw [← eqv_intsA]; rfl
theorem any_ks (ks : List Int) (kss : List (List Int)) : ((kss.map ksD).any fun z => PyData.eqv z (ksD ks)) = decide (ks ∈ kss) := by
  induction kss with
  | nil => rfl
  | cons x kss ih =>
    rw [List.map_cons, List.any_cons, ih, eqv_ks]
    by_cases a : x = ks
    · subst a; simp
    · have a' : ¬ ks = x := fun e => a e.symm
      by_cases b : ks ∈ kss <;> simp [a, a', b]
/-! ### pieces -/
def Match (cb : Cmb) (s : Nat) (ds : List Ev) : Prop := cb.ks.length = s ∧ cb.ks.Perm ((ds.take s).map Ev.k) ∧ ∃ a b, ds[0]? = some a ∧ ds[s - 1]? = some b ∧ b.t < a.t + cb.t
open Classical in
noncomputable def fp (cbs : List Cmb) (ds : List Ev) : Nat := if ∃ cb ∈ cbs, Match cb 3 ds then 3 else if ∃ cb ∈ cbs, Match cb 2 ds then 2 else 1
theorem match_le {cb : Cmb} {s : Nat} {ds : List Ev} (h : Match cb s ds) : s ≤ ds.length := by
  have a := h.2.1.length_eq
  rw [h.1, List.length_map, List.length_take] at a
  omega
theorem fp_pos (cbs : List Cmb) (ds : List Ev) : 1 ≤ fp cbs ds := by
  unfold fp
  split
  · decide
  · split <;> decide
theorem fp_le (cbs : List Cmb) {ds : List Ev} (h : ds ≠ []) : fp cbs ds ≤ ds.length := by
  unfold fp
  split
  · rename_i q
    obtain ⟨cb, _, m⟩ := q
    exact match_le m
  · split
    · rename_i q
      obtain ⟨cb, _, m⟩ := q
      exact match_le m
    · cases ds with
      | nil => exact absurd rfl h
      | cons _ _ => rw [List.length_cons]; omega
theorem fp_three {cbs : List Cmb} {ds : List Ev} {cb : Cmb} (h : cb ∈ cbs) (m : Match cb 3 ds) : fp cbs ds = 3 := by unfold fp; rw [if_pos ⟨cb, h, m⟩]
theorem fp_two {cbs : List Cmb} {ds : List Ev} {cb : Cmb} (n : ∀ cb ∈ cbs, ¬ Match cb 3 ds) (h : cb ∈ cbs) (m : Match cb 2 ds) : fp cbs ds = 2 := by
  unfold fp
  rw [if_neg (fun ⟨c, hc, q⟩ => n c hc q), if_pos ⟨cb, h, m⟩]
theorem fp_one {cbs : List Cmb} {ds : List Ev} (n : ∀ cb ∈ cbs, ¬ Match cb 3 ds) (n2 : ∀ cb ∈ cbs, ¬ Match cb 2 ds) : fp cbs ds = 1 := by
  unfold fp
  rw [if_neg (fun ⟨c, hc, q⟩ => n c hc q), if_neg (fun ⟨c, hc, q⟩ => n2 c hc q)]
/-- the numbers from a on, below b -/
def seg (a b : Nat) : List Int := (List.range' a (b - a)).map fun k : Nat => (k : Int)
/-- the events from s on, below e -/
def prt (es : List Ev) (s e : Nat) : List Ev := (es.drop s).take (e - s)
inductive Cut (es : List Ev) (cbs : List Cmb) (e : Nat) : Nat → List (List Int) → Prop
  | nil : Cut es cbs e e []
  | cons {s : Nat} {r : List (List Int)} : s < e → Cut es cbs e (s + fp cbs (prt es s e)) r → Cut es cbs e s (seg s (s + fp cbs (prt es s e)) :: r)
/-- from s on, below e, all are downs -/
def Downs (es : List Ev) (s e : Nat) : Prop := ∀ i, s ≤ i → i < e → ∃ ev, es[i]? = some ev ∧ ev.d = true
def Stops (es : List Ev) (e : Nat) : Prop := e = es.length ∨ ∃ ev, es[e]? = some ev ∧ ev.d = false
inductive Due (es : List Ev) (cbs : List Cmb) : Nat → List (List Int) → Prop
  | fin {s : Nat} : es.length ≤ s → Due es cbs s []
  | up {s : Nat} {ev : Ev} {r : List (List Int)} : es[s]? = some ev → ev.d = false → Due es cbs (s + 1) r → Due es cbs s r
  | down {s e : Nat} {r : List (List Int)} : s < e → Downs es s e → Stops es e → Due es cbs (s + fp cbs (prt es s e)) r → Due es cbs s (seg s (s + fp cbs (prt es s e)) :: r)
theorem Downs.le {es : List Ev} {s e : Nat} (h : Downs es s e) (hs : s < e) : e ≤ es.length := by
  obtain ⟨ev, q, _⟩ := h (e - 1) (by omega) (by omega)
  have := (List.getElem?_eq_some_iff.mp q).1
  omega
theorem prt_len {es : List Ev} {s e : Nat} (h : e ≤ es.length) : (prt es s e).length = e - s := by
  unfold prt
  rw [List.length_take, List.length_drop]
  omega
theorem stop_uniq {es : List Ev} {s e e' : Nat} (hs : s < e) (hs' : s < e') (d : Downs es s e) (d' : Downs es s e') (t : Stops es e) (t' : Stops es e') : e = e' := by
  have l := d.le hs
  have l' := d'.le hs'
  rcases Nat.lt_trichotomy e e' with q | q | q
  · rcases t with t | ⟨ev, g, f⟩
    · omega
    · obtain ⟨ev', g', f'⟩ := d' e (by omega) q
      rw [g] at g'
      cases g'
      rw [f] at f'; cases f'
  · exact q
  · rcases t' with t | ⟨ev, g, f⟩
    · omega
    · obtain ⟨ev', g', f'⟩ := d e' (by omega) q
      rw [g] at g'
      cases g'
      rw [f] at f'; cases f'
theorem Due.uniq {es : List Ev} {cbs : List Cmb} {s : Nat} {r : List (List Int)} (h : Due es cbs s r) : ∀ {r' : List (List Int)}, Due es cbs s r' → r = r' := by
  induction h with
  | fin hl =>
    intro r' h'
    cases h' with
    | fin _ => rfl
    | up g _ _ => have := (List.getElem?_eq_some_iff.mp g).1; omega
    | down hs d _ _ => have := d.le hs; omega
  | up g f _ ih =>
    intro r' h'
    cases h' with
    | fin hl => have := (List.getElem?_eq_some_iff.mp g).1; omega
    | up g' f' h' => exact ih h'
    | down hs d _ _ =>
      obtain ⟨ev', g', f'⟩ := d _ (Nat.le_refl _) hs
      rw [g] at g'
      cases g'
      rw [f] at f'; cases f'
  | down hs d t _ ih =>
    intro r' h'
    cases h' with
    | fin hl => have := d.le hs; omega
    | up g f h' =>
      obtain ⟨ev', g', f'⟩ := d _ (Nat.le_refl _) hs
      rw [g] at g'
      cases g'
      rw [f] at f'; cases f'
    | down hs' d' t' h' =>
      have e := stop_uniq hs hs' d d' t t'
      subst e
      rw [ih h']
theorem cut_due {es : List Ev} {cbs : List Cmb} {e : Nat} (t : Stops es e) {r : List (List Int)} (hr : Due es cbs e r) {s : Nat} {r1 : List (List Int)} (h : Cut es cbs e s r1) : Downs es s e → s ≤ e → Due es cbs s (r1 ++ r) := by
  induction h with
  | nil => intro _ _; exact hr
  | @cons s r1 hs _ ih =>
    intro d _
    have hl := prt_len (s := s) (d.le hs)
    have ne : prt es s e ≠ [] := fun z => by rw [z] at hl; simp at hl; omega
    have f := fp_le cbs ne
    rw [hl] at f
    exact Due.down hs d t (ih (fun i a b => d i (by omega) b) (by omega))
end Cb

set_option Elab.async false
set_option linter.all false
set_option maxRecDepth 100000
set_option maxHeartbeats 4000000
/-! a list's slice with a step -/
namespace Gd
open PySem PySem.Spec PyProof.Rows L2
def stepIx (n : Nat) (lo hi : Option Int) (k : Int) : List Nat :=
  let b := sliceBounds lo hi (some k) n
  sliceRange b.1 b.2.1 b.2.2
def stepV {α : Type} (xs : List α) (lo hi : Option Int) (k : Int) : List α := (stepIx xs.length lo hi k).filterMap fun i => xs[i]?
def tSlK (K : PySem.W.Frag) (te : TE) (tl th ts : TO) : TE := fun σ H Q => te σ H fun x H1 => tl σ H1 fun l H2 => th σ H2 fun u H3 => ts σ H3 fun y H4 =>
  ∃ (a : Addr) (xs : List V) (k : Int), x = .ref a ∧ y = some k ∧ k ≠ 0 ∧ SqL K H4 a xs ∧ (stepV xs l u k).length ≤ xs.length ∧ ∀ p, H4 p = none → Q (.ref p) (upd H4 p (.lst (stepV xs l u k)))
theorem vals_pick {xs : List V} {us : List Value} (r : Vals xs us) : ∀ is : List Nat, Vals (is.filterMap fun i => xs[i]?) (is.filterMap fun i => us[i]?)
  | [] => .nil
  | i :: is => by
    have ih := vals_pick r is
    rw [List.filterMap_cons, List.filterMap_cons]
    cases h : xs[i]? with
    | none =>
      have : us[i]? = none := by
        rw [List.getElem?_eq_none_iff] at h ⊢
        rw [← r.length]; exact h
      rw [this]
      exact ih
    | some x =>
      obtain ⟨u, hu, ru⟩ := r.get h
      rw [hu]
      exact .cons ru ih
section
variable {X : Cx} {e : Expr} {lo hi : Option Expr} {st : Expr} {p2 pos : Pos} {te : TE} {tl th ts : TO}
theorem pe_slk (he : PE X e te) (hl : PO X lo tl) (hu : PO X hi th) (hs : PO X (some st) ts) : PE X (.Subscript e (.Slice lo hi (some st) p2) pos) (tSlK X.K te tl th ts) := by
  refine ⟨fun pins s σ H Q I h => Subscript_ (thn (he.run pins s σ H _ I h) fun v s1 z1 => ?_)⟩
  obtain ⟨x, H1, I1, r1, q1⟩ := z1
  refine wpAny_Slice (thn (hl.run pins s1 σ H1 _ I1 q1) fun vl s2 z2 => ?_)
  obtain ⟨l, H2, I2, pl, q2⟩ := z2
  refine thn (hu.run pins s2 σ H2 _ I2 q2) fun vu s3 z3 => ?_
  obtain ⟨u, H3, I3, pu, q3⟩ := z3
  refine thn (hs.run pins s3 σ H3 _ I3 q3) fun vs s4 z4 => ?_
  obtain ⟨y, H4, I4, ps, a, xs, k, rfl, rfl, k0, hx, hlen, q⟩ := z4
  have I5 : Inv X pins σ H4 { s4 with heap := s4.heap.push { cls := .type "slice", data := .fields #[vl, vu, vs] } } := I4.kept (t' := s4.toks) fun b o m => Heap.get?_push_of_some _ m
  cases r1
  obtain ⟨its, r, ht, hz⟩ := I5.list hx
  have hn := r.length
  refine tail_any (ops := [.ref a, .ref s4.heap.objs.size]) ht.isList.typeIs slot_list_getitem.lookup ?_ (by with_unfolding_all rfl)
  refine wpAny_getItem_list_slice ht.isList (Heap.IsSliceOf.new ..) pl pu ps (fun m => k0 (Option.some.inj m)) ?_ (by rw [List.size_toArray, ← hn]; exact hz)
  have er : (slicePick its.toArray l u (some k)).toList = (stepIx xs.length l u k).filterMap fun i => its[i]? := by
    unfold slicePick stepIx
    rw [List.size_toArray, hn]
    simp
  have rv := vals_pick r (stepIx xs.length l u k)
  have I6 := I5.laid (t' := s4.toks) (a := (s4.heap.push { cls := .type "slice", data := .fields #[vl, vu, vs] }).objs.size) (o := .lst (stepV xs l u k)) (h' := (s4.heap.push { cls := .type "slice", data := .fields #[vl, vu, vs] }).push { cls := .type "list", data := .seq (slicePick its.toArray l u (some k)) }) (fun b o m => Heap.get?_push_of_some _ m) (Nat.le_refl _)
    ⟨Nat.le_trans hlen (by rw [hn]; omega), _, 0, rv, by rw [← er, Array.toArray_toList]; exact Heap.get?_push_size _ rfl⟩
  exact ⟨.ref _, _, I6, rfl, q _ (I5.hok.fresh (Nat.le_refl _))⟩
end
end Gd

set_option Elab.async false
set_option linter.all false
set_option maxRecDepth 100000
set_option maxHeartbeats 8000000
/-! set(xs) of a list of ints -/
namespace Gd
open PySem PySem.Spec PyProof.Rows L2
/-- a set as it begins -/
abbrev set0 (w : World) : Obj :=
  { cls := .type "set", dict := none,
    data := .set #[] 0 (.fresh 0 0 (!w.params.followText "set-order")) }
section
variable {P : Program} {w : World} {A : Around} {E : Value → Shared → Prop} {s : Shared}
/-- the loop of set.update over a list of ints, from an empty set at S -/
theorem fill_set {h1 : Heap} {l S : Addr} {its : Array Value} {ns : List Int} {g : Array GenState} {d : Drawn} {tk : Nat} {os : OsState}
    (free : A.handled = none) (hS : h1.get? S = some (set0 w)) (hl : h1.IsList l its) (ne : S ≠ l) (hit : IntsAre its.toList ns) (small : ns.length + 1 < scanBound) :
    codeAny (model P w) A (.builtin "set.update.loop" ⟨[.ref S, .ref h1.objs.size], []⟩)
      (fun r s' => ∃ (h' : Heap) (t c : Nat), r = .ok (.ret .none) ∧ s' = ⟨h', g, d, t, os⟩ ∧ SetR w h' S (fun j => decide (j ∈ ns)) c ∧ c ≤ ns.length ∧ ∀ b o, b ≠ S → h1.get? b = some o → h'.get? b = some o)
      ⟨h1.push { cls := .type "list_iterator", data := .fields #[.ref l, .int 0 0] }, g, d, tk, os⟩ := by
  have len : its.size = ns.length := by
    have e := IntsAre.length hit
    rwa [Array.length_toList] at e
  have lS : S < h1.objs.size := Heap.lt_size hS
  obtain ⟨ol, hol, _⟩ := id hl
  have ll : l < h1.objs.size := Heap.lt_size hol
  have out : S ∉ [h1.objs.size, l] := by
    intro m
    rcases List.mem_cons.mp m with e | m
    · exact Nat.ne_of_lt lS e
    · exact ne (List.mem_singleton.mp m)
  have at_ : ∀ (i : Nat) (v : Value), its[i]? = some v → ∃ k t, ns[i]? = some k ∧ v = .int k t := by
    intro i v e
    have hi : i < ns.length := len ▸ (Array.getElem?_eq_some_iff.mp e).1
    obtain ⟨t, z⟩ := IntsAre.int_at hit i v (by rw [Array.getElem?_toList]; exact e)
    exact ⟨ns[i], t, List.getElem?_eq_getElem hi, by rw [z, List.getD_eq_getElem?_getD, List.getElem?_eq_getElem hi]; rfl⟩
  have W := (Walks.list (prog := P) (w := w) (A := A.in1) (by simp [free]) h1.objs.size l (Nat.ne_of_lt ll) its).toS
  refine set_update_ints W S out ns len small at_ its.size 0 _ (by omega) (Nat.zero_le _) ⟨⟨_, Heap.get?_push_size _ rfl, rfl, rfl⟩, hl.push _⟩ ⟨0, Nat.le_refl _, setR_new_at (Heap.get?_push_of_some _ hS)⟩ (fun s' c m hc hR => ?_)
  obtain ⟨h', g', d', t', os'⟩ := s'
  obtain rfl : g' = g := m.gens
  obtain rfl : d' = d := m.drawn
  obtain rfl : os' = os := m.os
  refine ⟨h', t', c, rfl, rfl, hR, by omega, fun b o nb e => ?_⟩
  refine m.heap b o (fun z => ?_) (Heap.get?_push_of_some _ e)
  rcases List.mem_cons.mp z with z | z
  · exact nb z
  · have := Heap.lt_size e
    rw [List.mem_singleton.mp z] at this
    exact Nat.lt_irrefl _ this
theorem set_of_list {l : Addr} {its : Array Value} {ns : List Int} {Q : Value → Shared → Prop} (free : A.handled = none) (hl : s.heap.IsList l its) (hit : IntsAre its.toList ns) (small : ns.length + 1 < scanBound)
    (q : ∀ (h' : Heap) (t c : Nat), SetR w h' s.heap.objs.size (fun j => decide (j ∈ ns)) c → c ≤ ns.length → (∀ b o, s.heap.get? b = some o → h'.get? b = some o) →
      Q (.ref s.heap.objs.size) { s with heap := h', toks := t }) : wpAny (model P w) A (call (.type "set") [.ref l]) Q E s := by
  have K := F.called_set
  obtain ⟨_, _, mro⟩ := K.mro
  have made := K.made
  have sub := K.sub
  have nt := K.notType
  have can := K.canCreate
  have tc := F.typeCall_set_1 (.ref l)
  have look := K.init.lookup
  have bnd := K.init.bind (.ref s.heap.objs.size)
  refine wpAny_call (codeAny_of_tree (show wpAny _ _ (callAny (.type "set") _) _ _ _ from wpAny_pure ⟨Code.quiet_builtin _ (by decide +kernel), codeAny_builtin F.entry_type_call ?_⟩))
  rw [Around.under_plain (weight_type_call_type "set" [.ref l] []) rfl]
  repeat (any_goals (first | assumption | wp_step))
  refine codeAny_mono (code_set_led1 (.ref l) (E := E) (Q₁ := fun o s1 => o = .ref s.heap.objs.size ∧ s1 = { s with heap := s.heap.push (set0 w) }) ⟨rfl, rfl⟩) fun r s1 hr => ?_
  match r, hr with
  | .error _, hr => exact hr
  | .ok .next, hr => exact hr.elim
  | .ok .brk, hr => exact hr.elim
  | .ok .cont, hr => exact hr.elim
  | .ok (.ret o), hr =>
    obtain ⟨e1, e2⟩ := hr
    subst e1 e2
    have hS : (s.heap.push (set0 w)).get? s.heap.objs.size = some (set0 w) := Heap.get?_push_size _ rfl
    have tS : Shared.TypeIs { s with heap := s.heap.push (set0 w) } (.ref s.heap.objs.size) "set" := ⟨_, hS, rfl⟩
    have keep0 : ∀ b o, s.heap.get? b = some o → (s.heap.push (set0 w)).get? b = some o := fun b o e => Heap.get?_push_of_some _ e
    have hl1 := hl.push (set0 w)
    repeat (any_goals (first | assumption | wp_step))
    refine codeAny_mono (codeAny_call_builtin (R := fun r s2 => ∃ (h' : Heap) (t c : Nat), r = .ok (.ret .none) ∧ s2 = ⟨h', s.gens, s.drawn, t, s.os⟩ ∧ SetR w h' s.heap.objs.size (fun j => decide (j ∈ ns)) c ∧ c ≤ ns.length ∧ ∀ b o, s.heap.get? b = some o → h'.get? b = some o)
      K.init.plain F.entry_set_init (check_set_init_1 tS ?_)) (fun r2 s2 hr2 => ?_)
    · obtain ⟨⟨ocls, odict, odata, oslots⟩, hol, hcl, nl, hdl⟩ := id hl1
      have nd : (Value.type "list" == Value.type "dict") = false := by decide
      have s1 := F.sub_list_set
      have s2 := F.sub_list_frozenset
      simp only at hcl hdl
      subst hcl
      subst hdl
      unfold Builtin.«set.__init__» noKeywords Builtin.Frozenset.updateFrom
      generalize hI : pyIter = iter
      wp_walk
      subst hI
      have nSl : s.heap.objs.size ≠ l := by
        obtain ⟨ol, z, _⟩ := hl
        exact Nat.ne_of_gt (Heap.lt_size z)
      refine wpAny_pyIter_list hl1 (wpAny_bind (wpAny_runValue (codeAny_mono (fill_set (A := A.in1.in1) (by simp [free]) hS hl1 nSl hit small) (fun r s' z => ?_))))
      obtain ⟨h', t, c, rfl, rfl, hR, hc, hk⟩ := z
      have old : ∀ b o, s.heap.get? b = some o → h'.get? b = some o := fun b o e => hk b o (Nat.ne_of_lt (Heap.lt_size e)) (keep0 b o e)
      exact wpAny_pure (wpAny_pure ⟨h', t, c, rfl, rfl, hR, hc, old⟩)
    · obtain ⟨h', t, c, rfl, rfl, hR, hc, hk⟩ := hr2
      repeat (any_goals (first | assumption | wp_step))
      exact q h' t c hR hc hk
end
/-- set(xs) of a list of ints: as many members as different numbers -/
def rSetL (K : PySem.W.Frag) (w : World) : List V → Hp → VK → Prop := fun xs H Q => ∃ (l : Addr) (ns : List Int), xs = [.ref l] ∧ SqL K H l (ns.map V.int) ∧ ns.length ≤ 1000 ∧
  ∀ (a : Addr) (c : Nat), H a = none → (∀ ds : List Int, (∀ k ∈ ns, k ∈ ds) → c ≤ ds.length) → Q (.ref a) (upd H a (SetO w a (fun j => decide (j ∈ ns)) c))
theorem setR_few {w : World} {h : Heap} {a : Addr} {ns : List Int} {c : Nat} (R : SetR w h a (fun j => decide (j ∈ ns)) c) (ds : List Int) (hd : ∀ k ∈ ns, k ∈ ds) : c ≤ ds.length := by
  obtain ⟨o, es, ep, t, _, _, _, _, nd, mem, _, _, n, _⟩ := R
  rw [← n, ← Array.length_toList, ← List.length_map (f := keyOf)]
  refine List.Nodup.length_le_of_subset nd fun k hk => ?_
  exact hd k (of_decide_eq_true ((mem k).mpr hk))
theorem cr_setL {X : Cx} (hc : X.calm = true) : CallR X (.type "set") (rSetL X.K X.w) := by
  intro pins s σ H xs us Q I r h
  obtain ⟨l, ns, rfl, hx, hn, q⟩ := h
  rw [Vals.ref1 r]
  obtain ⟨its, rv, pl, _⟩ := I.list hx
  refine set_of_list (I.ok.hd hc) pl.isList (by simpa using rv.ints) (by unfold scanBound; omega) fun h' t c R _ k => ?_
  exact ⟨.ref s.heap.objs.size, _, I.laid (t' := t) k (Nat.le_refl _) (setO_new R), rfl, q _ c (I.hok.fresh (Nat.le_refl _)) (setR_few R)⟩
end Gd

set_option Elab.async false
set_option linter.all false
set_option maxRecDepth 100000
set_option maxHeartbeats 4000000
/-! Own classes in the layer HG: methods, and objects that are made. -/
namespace Gd
open PySem PySem.Spec PyProof.Rows L2
/-- a method that may be called by its name on an object of the class at C -/
structure ClM (P : Program) (w : World) (K : PySem.W.Frag) (mg : Str → Option Value) (base : Heap) (k : Nat) (C : Addr) (m : Str) (sp : Sp) : Prop where
  ex : ∃ (f : Addr) (fd : FuncData) (ps : List Str), FnG P w K mg base k f fd ps sp ∧ Meth K C m f ∧ Binds K fd ps []
structure AtM (K : PySem.W.Frag) (C : Addr) (m q : Str) (st : Stmt) (ps : List Str) : Prop where
  ex : ∃ (f : Addr) (fd : FuncData), Fun K m q st f fd ∧ Meth K C m f ∧ Binds K fd ps []
/-- a class of which an object may be made -/
structure ClI (P : Program) (w : World) (K : PySem.W.Frag) (mg : Str → Option Value) (base : Heap) (k : Nat) (C : Addr) (x : Str) (sp : Sp) : Prop where
  ex : ∃ (f : Addr) (fd : FuncData) (ps : List Str), FnG P w K mg base k f fd ps sp ∧ Mk K C f ∧ mg x = some (.ref C) ∧ Binds K fd ps []
structure AtI (K : PySem.W.Frag) (mg : Str → Option Value) (C : Addr) (x q : Str) (st : Stmt) (ps : List Str) : Prop where
  ex : ∃ (f : Addr) (fd : FuncData), Fun K "__init__" q st f fd ∧ Mk K C f ∧ mg x = some (.ref C) ∧ Binds K fd ps []
section
variable {P : Program} {w : World} {K : PySem.W.Frag} {mg : Str → Option Value} {base : Heap}
theorem clMG {C : Addr} {m q : Str} {st : Stmt} {N ps : List Str} {k : Nat} {sp : Sp} (a : AtM K C m q st ps) (S : FnScope N ps (defScope st))
    (len : ∀ vs H Q E, sp vs H Q E → vs.length = ps.length)
    (hb : ∀ (f : Addr) (cdv : Value) (A : Around) (outer : List Env) (s : Shared) (H : Hp) (vs : List V) (Q : VK),
      A.guards = some [] → Room k (A.deeper (envOfC q (defScope st) s.heap.objs.size f cdv)) → sp vs H Q E0 →
      ∃ t, PSs (cxOf CX0 P w K mg base N q (defScope st) f cdv A outer s H E0).nox (defBody st) t ∧
        t { nx := fun _ H' => Q .non H', rt := Q } (start N vs) H) : ClM P w K mg base (k + 1) C m sp := by
  obtain ⟨f, fd, F, hm, b⟩ := a.ex
  exact ⟨f, fd, ps, fnG F S len (hb f), hm, b⟩
theorem clIG {C : Addr} {x q : Str} {st : Stmt} {N ps : List Str} {k : Nat} {sp : Sp} (a : AtI K mg C x q st ps) (S : FnScope N ps (defScope st))
    (len : ∀ vs H Q E, sp vs H Q E → vs.length = ps.length)
    (hb : ∀ (f : Addr) (cdv : Value) (A : Around) (outer : List Env) (s : Shared) (H : Hp) (vs : List V) (Q : VK),
      A.guards = some [] → Room k (A.deeper (envOfC q (defScope st) s.heap.objs.size f cdv)) → sp vs H Q E0 →
      ∃ t, PSs (cxOf CX0 P w K mg base N q (defScope st) f cdv A outer s H E0).nox (defBody st) t ∧
        t { nx := fun _ H' => Q .non H', rt := Q } (start N vs) H) : ClI P w K mg base (k + 1) C x sp := by
  obtain ⟨f, fd, F, hm, hx, b⟩ := a.ex
  exact ⟨f, fd, ps, fnG F S len (hb f), hm, hx, b⟩
end
section
variable {X : Cx} {k j : Nat} {x m : Str} {C : Addr} {sp : Sp} {p pos apos : Pos} {o e : Expr} {es : List Expr} {t : TA} {ta : TE}
/-- o.m(e, ..) -/
theorem pe_clM {pl : Sem Bool} (c : ClM X.prog X.w X.K X.mg X.base k C m sp) (cc : Cls X.K C) (hg : X.A.guards = some []) (hr : Room j X.A) (hk : k ≤ j) (ho : PE X o ta) (ha : PA X (e :: es) t)
    (hst : starEach (e :: es) X.env = (false, eval e X.env) :: starEach es X.env := by rfl) (hpl : (backTo pos (starEach es X.env)).any (·.1) = false := by rfl)
    (ht : eval (.Call (.Attribute o m apos) (e :: es) [] pos) X.env = (do
      let ov ← eval o X.env
      standAt apos.atName
      let (f, first) ← holding [ov] (getMethod ov m pl)
      callWith pos f first (backTo pos (starEach (e :: es) X.env)) (backToKw pos (keywordEach [] X.env))) := by rfl) :
    PE X (.Call (.Attribute o m apos) (e :: es) [] pos) (tMeth C m sp [] E0 ta t) := by
  obtain ⟨f, fd, ps, F, hm, b⟩ := c.ex
  refine ⟨fun pins s σ H Q I h => ?_⟩
  refine PySem.W.methodCall_KW (pl := pl) (thn (ho.run pins s σ H _ I h) fun u s1 ⟨x, H1, I1, rx, a, dx, fs, ex, ea, l, q⟩ => ?_) ht
  subst ex
  obtain rfl : u = Value.ref a := rx
  refine getmeth_ok I1 ea cc hm l ?_
  refine PySem.W.callWith_K (first := [.ref a]) (h₀ := X.base) I.ok.mod.kin hm.kp (thn (ha.run pos pins s1 σ H1 _ I1 q) fun us s2 ⟨vs, H2, I2, r, q2⟩ => ⟨I2.kIn, ?_⟩) hst hpl
  exact run_cl (us := .ref a :: us) (vs := .ref a :: vs) F hg (hr.mono hk) b I2 (.cons rfl r) (by simpa using q2)
/-- o.m() -/
theorem pe_clM0 {pl : Sem Bool} (c : ClM X.prog X.w X.K X.mg X.base k C m sp) (cc : Cls X.K C) (hg : X.A.guards = some []) (hr : Room j X.A) (hk : k ≤ j) (ho : PE X o ta)
    (ht : eval (.Call (.Attribute o m apos) [] [] pos) X.env = (do
      let ov ← eval o X.env
      standAt apos.atName
      let (f, first) ← holding [ov] (getMethod ov m pl)
      callWith pos f first (backTo pos (starEach [] X.env)) (backToKw pos (keywordEach [] X.env))) := by rfl) :
    PE X (.Call (.Attribute o m apos) [] [] pos) (tMeth C m sp [] E0 ta tNil) := by
  obtain ⟨f, fd, ps, F, hm, b⟩ := c.ex
  refine ⟨fun pins s σ H Q I h => ?_⟩
  refine PySem.W.methodCall_KW (pl := pl) (thn (ho.run pins s σ H _ I h) fun u s1 ⟨x, H1, I1, rx, a, dx, fs, ex, ea, l, q⟩ => ?_) ht
  subst ex
  obtain rfl : u = Value.ref a := rx
  refine getmeth_ok I1 ea cc hm l ?_
  exact PySem.W.callWith_K0 (first := [.ref a]) I1.kIn hm.kp (run_cl (us := [.ref a]) (vs := [.ref a]) F hg (hr.mono hk) b I1 (.cons rfl .nil) q)
theorem run_clI {f : Addr} {fd : FuncData} {ps : List Str} {pins : List (Addr × Obj)} {σ : L2.St} {H : Hp} {s : Shared} {Q : VK} {us : List Value} {vs : List V} (M : Mk X.K C f) (F : FnG X.prog X.w X.K X.mg X.base k f fd ps sp) (hg : X.A.guards = some []) (hr : Room (k + 1) X.A) (hb : Binds X.K fd ps [])
    (I : Inv X pins σ H s) (r : Vals vs us)
    (h : ∀ x dx, H x = none → H dx = none → dx ≠ x → sp (.ref x :: vs) (upd (upd H dx (.own x)) x (.ins C dx [])) (fun v H2 => v = .non ∧ Q (.ref x) H2) E0) :
    wpAny (model X.prog X.w) X.A (call (.ref C) us) (EP X pins σ Q) X.xe s := by
  have hq := h (s.heap.objs.size + 1) s.heap.objs.size (I.hok.fresh (Nat.le_succ _)) (I.hok.fresh (Nat.le_refl _)) (Nat.ne_of_lt (Nat.lt_succ_self _))
  have I2 := Inv.made (C := C) I
  have r2 : Vals (V.ref (s.heap.objs.size + 1) :: vs) (Value.ref (s.heap.objs.size + 1) :: us) := .cons rfl r
  have hl : (Value.ref (s.heap.objs.size + 1) :: us).length = ps.length := by
    have e := r2.length
    rw [F.len _ _ _ _ hq] at e
    exact e.symm
  have bt := hb _ (Value.ref (s.heap.objs.size + 1) :: us) I2.kIn (by simpa using hl)
  rw [List.append_nil] at bt
  refine wpAny_call (make_map (f := f) I.kIn M.makes M.init (beq_iff_eq.mp M.fn) (codeAny_mono (F.go _ X.stack _ _ ⟨Value.ref (s.heap.objs.size + 1) :: us, []⟩ (Value.ref (s.heap.objs.size + 1) :: us) _ _ hg (hr.make C us [])
    (I2.env0.make C us []) bt r2 hq) fun r s' hq' => ?_))
  match r, hq' with
  | .ok (.ret u), hq' =>
    obtain ⟨v, H', I3, rv, ev, q3⟩ := I2.after hq'
    subst ev
    exact ⟨rv, ⟨V.ref (s.heap.objs.size + 1), H', I3, rfl, q3⟩⟩
  | .ok .next, hq' => exact False.elim hq'
  | .ok .brk, hq' => exact False.elim hq'
  | .ok .cont, hq' => exact False.elim hq'
  | .error _, hq' => exact False.elim hq'
/-- C(e, ..) -/
theorem pe_clI (c : ClI X.prog X.w X.K X.mg X.base k C x sp) (hg : X.A.guards = some []) (hr : Room j X.A) (hk : k + 1 ≤ j) (gl : Gl X x) (ha : PA X (e :: es) t)
    (hdb : (x == ("__debug__" : Str)) = false := by decide) (he : starEach (e :: es) X.env = (false, eval e X.env) :: starEach es X.env := by rfl) (hpl : (backTo pos (starEach es X.env)).any (·.1) = false := by rfl) :
    PE X (.Call (.Name x p) (e :: es) [] pos) (tMake C sp [] E0 t) := by
  obtain ⟨f, fd, ps, F, M, hm, b⟩ := c.ex
  refine ⟨fun pins s σ H Q I h => ?_⟩
  refine wpAny_Call_Name_kw (ld_glob I gl hm ?_ hdb)
  refine PySem.W.callWith_K (h₀ := X.base) I.ok.mod.kin M.kp (thn (ha.run pos pins s σ H _ I h) fun us s1 ⟨vs, H1, I1, r, q⟩ => ⟨I1.kIn, ?_⟩) he hpl
  exact run_clI M F hg (hr.mono hk) b I1 r (by simpa using q)
end
/-! ### list(d.values()) -/
def tListVals (te : TE) : TE := fun σ H Q => te σ H fun x H1 => ∃ (d : Addr) (kvs : List (Key × V)), x = .ref d ∧ H1 d = some (.dK kvs) ∧ ∀ p, H1 p = none → Q (.ref p) (upd H1 p (.lst (kvs.map (·.2))))
theorem kv_vals {kvs : List (Key × V)} {vs : List (Key × Value)} (h : KV kvs vs) : Vals (kvs.map (·.2)) (vs.map (·.2)) := by
  induction h with
  | nil => exact .nil
  | cons h t ih => exact .cons h.2 ih
section
variable {X : Cx} {e : Expr} {te : TE} {p apos cpos pos : Pos}
theorem pe_listVals (hc : X.calm = true) (he : PE X e te) (hg : Gl X "list") (hm : X.mg "list" = none) (hv : bootBuiltins "list" = some (.type "list")) (hbase : attributeBase e "values" X.env (eval e X.env) = eval e X.env := by rfl) (hline : (apos.endLine == cpos.line) = true := by rfl)
    (hs : starEach [.Call (.Attribute e "values" apos) [] [] cpos] X.env = (false, eval (.Call (.Attribute e "values" apos) [] [] cpos) X.env) :: starEach [] X.env := by rfl) :
    PE X (.Call (.Name "list" p) [.Call (.Attribute e "values" apos) [] [] cpos] [] pos) (tListVals te) := by
  refine ⟨fun pins s σ H Q I hq => ?_⟩
  refine wpAny_Call_Name_kw (ld_blt I hg hm hv ?_)
  refine PyProof.Rows.callWith_type1 ?_ hs rfl
  rw [hs]
  show wpAny _ _ (spliced ((false, eval (.Call (.Attribute e "values" apos) [] [] cpos) X.env) :: backTo pos (starEach [] X.env))) _ _ s
  refine Calls.spliced_cons ?_
  refine wpAny_Call_method (T := "dict") (id := "dict.values") hbase rfl hline F.plainAttrs_dict F.slot_dict_values F.type_dict_values (thn (he.run pins s σ H _ I hq) fun u s1 ⟨x, H1, I1, rx, d, kvs, ex, hd, q⟩ => ?_)
  subst ex
  obtain rfl : u = Value.ref d := rx
  obtain ⟨hz, hs0, vs, kv, hdo⟩ := I1.hok d _ hd
  obtain ⟨ep, hat⟩ := hdo.dictAt
  have lk : kvs.length = vs.length := Paired.length kv
  have I2 : Inv X pins σ H1 { s1 with heap := s1.heap.push { cls := .type "dict_values", data := .fields #[.ref d] } } := I1.kept (t' := s1.toks) fun b ob q => Heap.get?_push_of_some _ q
  refine ⟨hdo.typeIs, hdo.mapOf.noDict, ?_⟩
  show wpAny _ _ (callWith cpos (.builtin "dict.values") [.ref d] [] []) _ X.xe s1
  refine method_meetsIn F.slot_dict_values F.entry_dict_values rfl (PySem.evalArgs_none ⟨rfl, hdo.typeIs, F.args_dict_values_1 _, _, PySem.meets_dict_values (mixKind X.prog X.w) d hs0, ⟨vs, hdo⟩, ?_⟩)
  refine Calls.spliced_nil ?_
  refine PySem.W.kdl_call (PySem.W.kdl_values (knd := mixKind X.prog X.w) (kvs := vs) (ep := ep)) (I1.ok.hd hc) ⟨⟨_, Heap.get?_push_size _ rfl, rfl, rfl⟩, hat.push _⟩ (by omega) fun h' tk acc c hk hS hacc => ?_
  have hl : acc.toList = vs.map (·.2) := PySem.W.kdl_vals_eq acc.toList (by rw [Array.length_toList]; exact hacc.1) fun j v e => hacc.2 j v (by rw [← Array.getElem?_toList]; exact e)
  refine ⟨.ref _, _, I2.laid (t' := tk) hk (Nat.le_refl _) (show ObjOk X.prog X.w _ h' _ (.lst (kvs.map (·.2))) from ⟨by rw [List.length_map]; exact hz, acc.toList, c, by rw [hl]; exact kv_vals kv, by rw [Array.toArray_toList]; exact hS⟩), rfl, q _ I2.fresh⟩
end
end Gd

set_option Elab.async false
set_option linter.all false
set_option maxRecDepth 100000
set_option maxHeartbeats 4000000
/-! Playing: the state of the keys, and what each event is. -/
namespace Pl
open PySem PySem.Spec PyProof.Rows L2 Gd Rm La

/-! ### what the keys are bound to -/
abbrev Bd0 := List (Int × Actn)
def putB (bd : Bd0) (k : Int) (x : Actn) : Bd0 := if (bd.any fun p => decide (p.1 = k)) = true then bd.map (fun p => if p.1 = k then (p.1, x) else p) else bd ++ [(k, x)]
def dropB (bd : Bd0) (k : Int) : Bd0 := bd.filter fun p => decide (p.1 ≠ k)
def getB (bd : Bd0) (k : Int) : Option Actn := (bd.find? fun p => decide (p.1 = k)).map (·.2)
abbrev BdR (H : Hp) : (Key × V) → (Int × Actn) → Prop := fun p q => p.1 = Sum.inl q.1 ∧ ActV H q.2 p.2
def Bd (H : Hp) (kvs : List (Key × V)) (bd : Bd0) : Prop := Paired (BdR H) kvs bd
theorem Bd.keep {H H' : Hp} {kvs : List (Key × V)} {bd : Bd0} (h : Bd H kvs bd) (t : Tk H H') : Bd H' kvs bd := by
  unfold Bd at h ⊢
  induction h with
  | nil => exact .nil
  | cons a _ ih => exact .cons ⟨a.1, a.2.keep t⟩ ih
theorem Bd.length {H : Hp} {kvs : List (Key × V)} {bd : Bd0} (h : Bd H kvs bd) : kvs.length = bd.length := by
  unfold Bd at h
  induction h with
  | nil => rfl
  | cons _ _ ih => rw [List.length_cons, List.length_cons, ih]
theorem inl_iff {a b : Int} : ((Sum.inl a : Key) = Sum.inl b) ↔ a = b := ⟨fun h => Sum.inl.inj h, fun h => by rw [h]⟩
theorem Bd.any {H : Hp} {kvs : List (Key × V)} {bd : Bd0} (h : Bd H kvs bd) (k : Int) : (kvs.any fun p => decide (p.1 = (Sum.inl k : Key))) = bd.any fun p => decide (p.1 = k) := by
  unfold Bd at h
  induction h with
  | nil => rfl
  | @cons p q _ _ a _ ih =>
    rw [List.any_cons, List.any_cons, ih, a.1]
    congr 1
    exact decide_eq_decide.mpr inl_iff
theorem Bd.mapP {H : Hp} {kvs : List (Key × V)} {bd : Bd0} (h : Bd H kvs bd) {k : Int} {x : Actn} {v : V} (hx : ActV H x v) :
    Bd H (kvs.map fun p => if p.1 = (Sum.inl k : Key) then (p.1, v) else p) (bd.map fun p => if p.1 = k then (p.1, x) else p) := by
  unfold Bd at h ⊢
  induction h with
  | nil => exact .nil
  | @cons p q _ _ a _ ih =>
    refine .cons ?_ ih
    show BdR H (if p.1 = (Sum.inl k : Key) then (p.1, v) else p) (if q.1 = k then (q.1, x) else q)
    by_cases e : q.1 = k
    · rw [if_pos e, if_pos (by rw [a.1, e])]
      exact ⟨a.1, hx⟩
    · rw [if_neg e, if_neg (fun z => e (inl_iff.mp (a.1.symm.trans z)))]
      exact a
theorem Bd.snoc {H : Hp} {kvs : List (Key × V)} {bd : Bd0} (h : Bd H kvs bd) {p : Key × V} {q : Int × Actn} (a : BdR H p q) : Bd H (kvs ++ [p]) (bd ++ [q]) := by
  unfold Bd at h ⊢
  induction h with
  | nil => exact .cons a .nil
  | cons b _ ih => exact .cons b ih
theorem Bd.put {H : Hp} {kvs : List (Key × V)} {bd : Bd0} (h : Bd H kvs bd) {k : Int} {x : Actn} {v : V} (hx : ActV H x v) : Bd H (putK kvs (Sum.inl k) v) (putB bd k x) := by
  unfold putK putB
  rw [h.any k]
  split
  · exact h.mapP hx
  · exact h.snoc ⟨rfl, hx⟩
theorem Bd.drop {H : Hp} {kvs : List (Key × V)} {bd : Bd0} (h : Bd H kvs bd) (k : Int) : Bd H (dropK kvs (Sum.inl k)) (dropB bd k) := by
  unfold Bd dropK dropB at *
  induction h with
  | nil => exact .nil
  | @cons p q _ _ a _ ih =>
    by_cases e : q.1 = k
    · rw [List.filter_cons_of_neg (by simp [a.1, e]), List.filter_cons_of_neg (by simp [e])]
      exact ih
    · have e' : ¬ p.1 = (Sum.inl k : Key) := fun z => e (inl_iff.mp (a.1.symm.trans z))
      rw [List.filter_cons_of_pos (by simp [e']), List.filter_cons_of_pos (by simp [e])]
      exact .cons a ih
theorem Bd.get {H : Hp} {kvs : List (Key × V)} {bd : Bd0} (h : Bd H kvs bd) (k : Int) : (valV kvs (Sum.inl k) = none ∧ getB bd k = none) ∨ ∃ v x, valV kvs (Sum.inl k) = some v ∧ getB bd k = some x ∧ ActV H x v := by
  unfold Bd at h
  induction h with
  | nil => exact .inl ⟨rfl, rfl⟩
  | @cons p q _ _ a _ ih =>
    by_cases e : q.1 = k
    · refine .inr ⟨p.2, q.2, valV_pos (by rw [a.1, e]), ?_, a.2⟩
      unfold getB
      rw [List.find?_cons_of_pos (by simp [e])]
      rfl
    · have e' : ¬ p.1 = (Sum.inl k : Key) := fun z => e (inl_iff.mp (a.1.symm.trans z))
      rw [valV_neg e']
      have g : ∀ r : Bd0, getB (q :: r) k = getB r k := fun r => by
        unfold getB
        rw [List.find?_cons_of_neg (by simp [e])]
      rw [g]
      exact ih
theorem Bd.dp {K : PySem.W.Frag} {H : Hp} {kvs : List (Key × V)} {bd : Bd0} (h : Bd H kvs bd) : DpAll K H (kvs.map (·.2)) (bd.map fun q => actD q.2) := by
  unfold Bd at h
  induction h with
  | nil => exact .nil
  | cons a _ ih => exact .cons a.2.dp ih
theorem putB_len (bd : Bd0) (k : Int) (x : Actn) : (putB bd k x).length ≤ bd.length + 1 := by
  unfold putB
  split
  · rw [List.length_map]; omega
  · rw [List.length_append]; exact Nat.le_refl _
theorem dropB_len (bd : Bd0) (k : Int) : (dropB bd k).length ≤ bd.length := List.length_filter_le ..
theorem putB_mem {bd : Bd0} {k : Int} {x : Actn} {p : Int × Actn} (h : p ∈ putB bd k x) : p ∈ bd ∨ p = (k, x) := by
  unfold putB at h
  split at h
  · obtain ⟨q, hq, e⟩ := List.mem_map.mp h
    by_cases z : q.1 = k
    · rw [if_pos z] at e; rw [← e, z]; exact .inr rfl
    · rw [if_neg z] at e; rw [← e]; exact .inl hq
  · rcases List.mem_append.mp h with q | q
    · exact .inl q
    · exact .inr (List.mem_singleton.mp q)
theorem dropB_mem {bd : Bd0} {k : Int} {p : Int × Actn} (h : p ∈ dropB bd k) : p ∈ bd := (List.mem_filter.mp h).1
theorem getB_mem {bd : Bd0} {k : Int} {x : Actn} (h : getB bd k = some x) : ∃ p ∈ bd, p.1 = k ∧ p.2 = x := by
  unfold getB at h
  cases e : bd.find? fun p => decide (p.1 = k) with
  | none => rw [e] at h; cases h
  | some p =>
    rw [e] at h
    exact ⟨p, List.mem_of_find?_eq_some e, of_decide_eq_true (List.find?_some (p := fun p : Int × Actn => decide (p.1 = k)) e), Option.some.inj h⟩
/-- what a key may be bound to -/
def BdOk (n : Int) : Actn → Prop
  | .code c => CodeOk c
  | .lay w j => w = ("layer" : String) ∧ 1 ≤ j ∧ j ≤ n - 1
  | _ => False
theorem BdOk.act {n : Int} {x : Actn} (h : BdOk n x) (i : Int) : ActOk n i x := by
  cases x with
  | code c => exact h
  | lay w j => exact ⟨by rw [h.1]; decide +kernel, h.2.1, h.2.2⟩
  | none => exact h.elim
  | thr => exact h.elim
  | dualC _ _ _ _ => exact h.elim
  | dualL _ _ _ _ => exact h.elim
def BdsOk (n : Int) (bd : Bd0) : Prop := ∀ p ∈ bd, BdOk n p.2

/-! ### the state -/
structure Sm where
  lk : List Bool
  on : Int
  bd : Bd0
def isLay (i : Int) : Actn → Bool
  | .lay w j => decide (w = (("layer" : String) : Str)) && decide (j = i)
  | _ => false
def onL (s : Sm) (i : Nat) : Bool := decide (i = 0) || s.lk.getD i false || decide (s.on = i) || s.bd.any fun p => isLay i p.2
def isThr : Actn → Bool
  | .thr => true
  | _ => false
def actAt (L : List (List Actn)) (i k : Nat) : Actn := ((L.getD i []).getD k .none)
def filt (L : List (List Actn)) (s : Sm) (k : Nat) : List Nat := (List.range L.length).filter fun i => !isThr (actAt L i k) && onL s i
def takenL (L : List (List Actn)) (s : Sm) (k : Nat) : Nat := (filt L s k).getLast?.getD 0
def isDl : Actn → Bool
  | .dualC .. => true
  | .dualL .. => true
  | _ => false
def timeOf : Actn → Int
  | .dualC _ _ t _ => t
  | .dualL _ _ t _ => t
  | _ => 0
def ruleOf : Actn → Str
  | .dualC _ _ _ r => r
  | .dualL _ _ _ r => r
  | _ => Str.empty
def tapOf : Actn → Actn
  | .dualC c _ _ _ => .code c
  | .dualL c _ _ _ => .code c
  | x => x
def holdOf : Actn → Actn
  | .dualC _ d _ _ => .code d
  | .dualL _ j _ _ => .lay "layer" j
  | x => x
def press (s : Sm) (k : Int) (x : Actn) : Sm :=
  match x with
  | .code c => { s with on := 0, bd := putB s.bd k (.code c) }
  | .lay w j => if w = ("layer" : String) then { s with on := 0, bd := putB s.bd k (.lay w j) } else if w = ("lock" : String) then { s with on := 0, lk := s.lk.set j.toNat (!s.lk.getD j.toNat false) } else { s with on := j }
  | _ => { s with on := 0 }
def release (s : Sm) (k : Int) : Sm := { s with bd := dropB s.bd k }
def init (n : Nat) : Sm := ⟨List.replicate n false, 0, []⟩

/-! ### deciding events -/
def decEv (own : Int) (rule : Str) : List Int → List Ev → Option Nat
  | _, [] => none
  | inner, e :: r =>
    if e.k = own ∨ (rule = ("other" : String) ∧ e.d = true) then some 0
    else if e.d = true then (decEv own rule (inner ++ [e.k]) r).map (· + 1)
    else if rule = ("within" : String) ∧ e.k ∈ inner then some 0
    else (decEv own rule inner r).map (· + 1)
def decM (es : List Ev) (at_ : Nat) (rule : Str) : Option Nat := (decEv ((es.getD at_ ⟨0, 0, false⟩).k) rule [] (es.drop (at_ + 1))).map (· + (at_ + 1))
def evAt (es : List Ev) (i : Nat) : Ev := es.getD i ⟨0, 0, false⟩
def sureM (es : List Ev) (at_ : Nat) (x : Actn) : Option Nat :=
  match decM es at_ (ruleOf x) with
  | none => none
  | some n => if (evAt es at_).t + timeOf x ≤ (evAt es n).t then none else some n
def tapM (es : List Ev) (at_ : Nat) (sure : Option Nat) : Bool :=
  match sure with
  | none => false
  | some n => decide ((evAt es n).k = (evAt es at_).k)
def kindM (es : List Ev) (at_ : Nat) (x : Actn) : Str := if isDl x then (if tapM es at_ (sureM es at_ x) then "tap" else "hold") else "plain"
def whatM (x : Actn) (kind : Str) : Actn := if kind = ("plain" : String) then x else if kind = ("tap" : String) then tapOf x else holdOf x
/-- what is told of an event: of an up, or of a down -/
inductive Td where
  | up
  | dn (lay : Nat) (kind : Str) (what : Actn) (sure : Option Nat)
def stepS (L : List (List Actn)) (es : List Ev) (i : Nat) (s : Sm) : Sm :=
  if (evAt es i).d then
    let x := actAt L (takenL L s (evAt es i).k.toNat) (evAt es i).k.toNat
    press s (evAt es i).k (whatM x (kindM es i x))
  else release s (evAt es i).k
def stepT (L : List (List Actn)) (es : List Ev) (i : Nat) (s : Sm) : Td :=
  if (evAt es i).d then
    let l := takenL L s (evAt es i).k.toNat
    let x := actAt L l (evAt es i).k.toNat
    .dn l (kindM es i x) (whatM x (kindM es i x)) (if isDl x then sureM es i x else none)
  else .up
def runS (L : List (List Actn)) (es : List Ev) : Nat → Sm
  | 0 => init L.length
  | n + 1 => stepS L es n (runS L es n)
def runT (L : List (List Actn)) (es : List Ev) (i : Nat) : Td := stepT L es i (runS L es i)
end Pl

set_option Elab.async false
set_option linter.all false
set_option maxRecDepth 100000
set_option maxHeartbeats 4000000
namespace K15
open PySem PySem.Spec PyProof.Rows L2 Gd Rm La Cb
def topS (i : Nat) : Stmt := PySem.Challenge.pw_holdtap_k15_whole_beginnings_of_records.main.body.getD i (.Pass ⟨0, 0, 0, 0⟩)
abbrev s__wall : Stmt := topS 0
abbrev n__wall : List Str := ["k"]
theorem sc__wall : FnScope n__wall ["k"] (defScope s__wall) := ⟨rfl, rfl, rfl, by decide +kernel, rfl, by decide +kernel, by decide +kernel⟩
-- 0 k
abbrev s_is_an_integer : Stmt := topS 6
abbrev n_is_an_integer : List Str := ["value"]
theorem sc_is_an_integer : FnScope n_is_an_integer ["value"] (defScope s_is_an_integer) := ⟨rfl, rfl, rfl, by decide +kernel, rfl, by decide +kernel, by decide +kernel⟩
-- 0 value
abbrev s_is_between : Stmt := topS 7
abbrev n_is_between : List Str := ["value", "low", "high"]
theorem sc_is_between : FnScope n_is_between ["value", "low", "high"] (defScope s_is_between) := ⟨rfl, rfl, rfl, by decide +kernel, rfl, by decide +kernel, by decide +kernel⟩
-- 0 value, 1 low, 2 high
abbrev s_check_layout : Stmt := topS 16
abbrev n_check_layout : List Str := ["value", "layer", "actions", "key", "action"]
theorem sc_check_layout : FnScope n_check_layout ["value"] (defScope s_check_layout) := ⟨rfl, rfl, rfl, by decide +kernel, rfl, by decide +kernel, by decide +kernel⟩
-- 0 value, 1 layer, 2 actions, 3 key, 4 action
abbrev s_has_layout_form : Stmt := topS 17
abbrev n_has_layout_form : List Str := ["value", "many", "actions"]
theorem sc_has_layout_form : FnScope n_has_layout_form ["value"] (defScope s_has_layout_form) := ⟨rfl, rfl, rfl, by decide +kernel, rfl, by decide +kernel, by decide +kernel⟩
-- 0 value, 1 many*, 2 actions*
abbrev s_can_stand : Stmt := topS 18
abbrev n_can_stand : List Str := ["action", "layer", "layer_count"]
theorem sc_can_stand : FnScope n_can_stand ["action", "layer", "layer_count"] (defScope s_can_stand) := ⟨rfl, rfl, rfl, by decide +kernel, rfl, by decide +kernel, by decide +kernel⟩
-- 0 action, 1 layer, 2 layer_count
abbrev s_is_code_action : Stmt := topS 19
abbrev n_is_code_action : List Str := ["action", "word", "code"]
theorem sc_is_code_action : FnScope n_is_code_action ["action"] (defScope s_is_code_action) := ⟨rfl, rfl, rfl, by decide +kernel, rfl, by decide +kernel, by decide +kernel⟩
-- 0 action, 1 word, 2 code
abbrev s_is_layer_action : Stmt := topS 20
abbrev n_is_layer_action : List Str := ["action", "words", "layer_count", "word", "layer"]
theorem sc_is_layer_action : FnScope n_is_layer_action ["action", "words", "layer_count"] (defScope s_is_layer_action) := ⟨rfl, rfl, rfl, by decide +kernel, rfl, by decide +kernel, by decide +kernel⟩
-- 0 action, 1 words, 2 layer_count, 3 word, 4 layer
abbrev s_is_dual_action : Stmt := topS 21
abbrev n_is_dual_action : List Str := ["action", "layer_count", "word", "tap", "hold", "time", "rule"]
theorem sc_is_dual_action : FnScope n_is_dual_action ["action", "layer_count"] (defScope s_is_dual_action) := ⟨rfl, rfl, rfl, by decide +kernel, rfl, by decide +kernel, by decide +kernel⟩
-- 0 action, 1 layer_count, 2 word, 3 tap, 4 hold, 5 time, 6 rule
abbrev s_is_hold : Stmt := topS 22
abbrev n_is_hold : List Str := ["value", "layer_count"]
theorem sc_is_hold : FnScope n_is_hold ["value", "layer_count"] (defScope s_is_hold) := ⟨rfl, rfl, rfl, by decide +kernel, rfl, by decide +kernel, by decide +kernel⟩
-- 0 value, 1 layer_count
abbrev s_is_code : Stmt := topS 23
abbrev n_is_code : List Str := ["value", "sign"]
theorem sc_is_code : FnScope n_is_code ["value"] (defScope s_is_code) := ⟨rfl, rfl, rfl, by decide +kernel, rfl, by decide +kernel, by decide +kernel⟩
-- 0 value, 1 sign*
abbrev s_is_dual : Stmt := topS 24
abbrev n_is_dual : List Str := ["action"]
theorem sc_is_dual : FnScope n_is_dual ["action"] (defScope s_is_dual) := ⟨rfl, rfl, rfl, by decide +kernel, rfl, by decide +kernel, by decide +kernel⟩
-- 0 action
abbrev s_deciding_event : Stmt := topS 28
abbrev n_deciding_event : List Str := ["record", "at", "rule", "own", "inner", "number", "tick", "key", "way"]
theorem sc_deciding_event : FnScope n_deciding_event ["record", "at", "rule"] (defScope s_deciding_event) := ⟨rfl, rfl, rfl, by decide +kernel, rfl, by decide +kernel, by decide +kernel⟩
-- 0 record, 1 at, 2 rule, 3 own, 4 inner, 5 number, 6 tick, 7 key, 8 way
abbrev s_sure_event : Stmt := topS 29
abbrev n_sure_event : List Str := ["record", "at", "dual", "number"]
theorem sc_sure_event : FnScope n_sure_event ["record", "at", "dual"] (defScope s_sure_event) := ⟨rfl, rfl, rfl, by decide +kernel, rfl, by decide +kernel, by decide +kernel⟩
-- 0 record, 1 at, 2 dual, 3 number
abbrev s_dual_kind : Stmt := topS 30
abbrev n_dual_kind : List Str := ["record", "at", "sure"]
theorem sc_dual_kind : FnScope n_dual_kind ["record", "at", "sure"] (defScope s_dual_kind) := ⟨rfl, rfl, rfl, by decide +kernel, rfl, by decide +kernel, by decide +kernel⟩
-- 0 record, 1 at, 2 sure
abbrev s_what_is_done : Stmt := topS 31
abbrev n_what_is_done : List Str := ["action", "kind"]
theorem sc_what_is_done : FnScope n_what_is_done ["action", "kind"] (defScope s_what_is_done) := ⟨rfl, rfl, rfl, by decide +kernel, rfl, by decide +kernel, by decide +kernel⟩
-- 0 action, 1 kind
abbrev s_play : Stmt := topS 32
abbrev n_play : List Str := ["layout", "record", "player", "told", "at", "tick", "key", "way", "layer", "action", "sure", "kind", "what"]
theorem sc_play : FnScope n_play ["layout", "record"] (defScope s_play) := ⟨rfl, rfl, rfl, by decide +kernel, rfl, by decide +kernel, by decide +kernel⟩
-- 0 layout, 1 record, 2 player, 3 told, 4 at, 5 tick, 6 key, 7 way, 8 layer, 9 action, 10 sure, 11 kind, 12 what
abbrev s_is_whole : Stmt := topS 36
abbrev n_is_whole : List Str := ["record"]
theorem sc_is_whole : FnScope n_is_whole ["record"] (defScope s_is_whole) := ⟨rfl, rfl, rfl, by decide +kernel, rfl, by decide +kernel, by decide +kernel⟩
-- 0 record
abbrev s_ended : Stmt := topS 37
abbrev n_ended : List Str := ["record", "keys", "tick", "key"]
theorem sc_ended : FnScope n_ended ["record"] (defScope s_ended) := ⟨rfl, rfl, rfl, by decide +kernel, rfl, by decide +kernel, by decide +kernel⟩
-- 0 record, 1 keys, 2 tick*, 3 key*
abbrev s_held_keys : Stmt := topS 38
abbrev n_held_keys : List Str := ["record", "held", "tick", "key", "way"]
theorem sc_held_keys : FnScope n_held_keys ["record"] (defScope s_held_keys) := ⟨rfl, rfl, rfl, by decide +kernel, rfl, by decide +kernel, by decide +kernel⟩
-- 0 record, 1 held*, 2 tick, 3 key, 4 way
abbrev s_check_record : Stmt := topS 39
abbrev n_check_record : List Str := ["value", "many", "held", "index", "event"]
theorem sc_check_record : FnScope n_check_record ["value", "many"] (defScope s_check_record) := ⟨rfl, rfl, rfl, by decide +kernel, rfl, by decide +kernel, by decide +kernel⟩
-- 0 value, 1 many, 2 held, 3 index, 4 event
abbrev s_is_short_list : Stmt := topS 40
abbrev n_is_short_list : List Str := ["value"]
theorem sc_is_short_list : FnScope n_is_short_list ["value"] (defScope s_is_short_list) := ⟨rfl, rfl, rfl, by decide +kernel, rfl, by decide +kernel, by decide +kernel⟩
-- 0 value
abbrev s_is_event : Stmt := topS 41
abbrev n_is_event : List Str := ["value", "tick", "key", "way"]
theorem sc_is_event : FnScope n_is_event ["value"] (defScope s_is_event) := ⟨rfl, rfl, rfl, by decide +kernel, rfl, by decide +kernel, by decide +kernel⟩
-- 0 value, 1 tick, 2 key, 3 way
abbrev s_is_step : Stmt := topS 42
abbrev n_is_step : List Str := ["value", "key", "way"]
theorem sc_is_step : FnScope n_is_step ["value"] (defScope s_is_step) := ⟨rfl, rfl, rfl, by decide +kernel, rfl, by decide +kernel, by decide +kernel⟩
-- 0 value, 1 key, 2 way
abbrev s_is_below : Stmt := topS 43
abbrev n_is_below : List Str := ["key", "many"]
theorem sc_is_below : FnScope n_is_below ["key", "many"] (defScope s_is_below) := ⟨rfl, rfl, rfl, by decide +kernel, rfl, by decide +kernel, by decide +kernel⟩
-- 0 key, 1 many
abbrev s_can_follow : Stmt := topS 44
abbrev n_can_follow : List Str := ["event", "last", "held"]
theorem sc_can_follow : FnScope n_can_follow ["event", "last", "held"] (defScope s_can_follow) := ⟨rfl, rfl, rfl, by decide +kernel, rfl, by decide +kernel, by decide +kernel⟩
-- 0 event, 1 last, 2 held
abbrev s_takes_turn : Stmt := topS 45
abbrev n_takes_turn : List Str := ["held", "key", "way", "goes_down"]
theorem sc_takes_turn : FnScope n_takes_turn ["held", "key", "way"] (defScope s_takes_turn) := ⟨rfl, rfl, rfl, by decide +kernel, rfl, by decide +kernel, by decide +kernel⟩
-- 0 held, 1 key, 2 way, 3 goes_down
abbrev s_played : Stmt := topS 47
abbrev n_played : List Str := ["layout", "record", "_", "told", "meaning", "sure", "output"]
theorem sc_played : FnScope n_played ["layout", "record"] (defScope s_played) := ⟨rfl, rfl, rfl, by decide +kernel, rfl, by decide +kernel, by decide +kernel⟩
-- 0 layout, 1 record, 2 _, 3 told, 4 meaning*, 5 sure*, 6 output*
abbrev s_meanings : Stmt := topS 48
abbrev n_meanings : List Str := ["layout", "record", "_", "told", "meaning", "sure", "output"]
theorem sc_meanings : FnScope n_meanings ["layout", "record"] (defScope s_meanings) := ⟨rfl, rfl, rfl, by decide +kernel, rfl, by decide +kernel, by decide +kernel⟩
-- 0 layout, 1 record, 2 _, 3 told, 4 meaning*, 5 sure*, 6 output*
abbrev s_sure_by : Stmt := topS 49
abbrev n_sure_by : List Str := ["layout", "record", "_", "told", "meaning", "sure", "output"]
theorem sc_sure_by : FnScope n_sure_by ["layout", "record"] (defScope s_sure_by) := ⟨rfl, rfl, rfl, by decide +kernel, rfl, by decide +kernel, by decide +kernel⟩
-- 0 layout, 1 record, 2 _, 3 told, 4 meaning*, 5 sure*, 6 output*
abbrev s_codes_down : Stmt := topS 50
abbrev n_codes_down : List Str := ["layout", "record", "player", "_"]
theorem sc_codes_down : FnScope n_codes_down ["layout", "record"] (defScope s_codes_down) := ⟨rfl, rfl, rfl, by decide +kernel, rfl, by decide +kernel, by decide +kernel⟩
-- 0 layout, 1 record, 2 player, 3 _
abbrev s_check_playable : Stmt := topS 51
abbrev n_check_playable : List Str := ["layout", "record"]
theorem sc_check_playable : FnScope n_check_playable ["layout", "record"] (defScope s_check_playable) := ⟨rfl, rfl, rfl, by decide +kernel, rfl, by decide +kernel, by decide +kernel⟩
-- 0 layout, 1 record
abbrev s__law_reel : Stmt := topS 53
abbrev n__law_reel : List Str := ["_law_script", "_law_index", "_law_mixed", "_law_cell"]
theorem sc__law_reel : FnScope n__law_reel ["_law_script", "_law_index"] (defScope s__law_reel) := ⟨rfl, rfl, rfl, by decide +kernel, rfl, by decide +kernel, by decide +kernel⟩
-- 0 _law_script, 1 _law_index, 2 _law_mixed, 3 _law_cell
abbrev s__law_spin : Stmt := topS 54
abbrev n__law_spin : List Str := ["_law_reel_here", "_law_size", "_law_digit", "_law_wide"]
theorem sc__law_spin : FnScope n__law_spin ["_law_reel_here", "_law_size"] (defScope s__law_spin) := ⟨rfl, rfl, rfl, by decide +kernel, rfl, by decide +kernel, by decide +kernel⟩
-- 0 _law_reel_here, 1 _law_size, 2 _law_digit, 3 _law_wide
abbrev s__law_code : Stmt := topS 55
abbrev n__law_code : List Str := ["_law_reel_here", "_law_some", "_law_way", "_law_many", "_law_letters", "_law_turn"]
theorem sc__law_code : FnScope n__law_code ["_law_reel_here"] (defScope s__law_code) := ⟨rfl, rfl, rfl, by decide +kernel, rfl, by decide +kernel, by decide +kernel⟩
-- 0 _law_reel_here*, 1 _law_some, 2 _law_way, 3 _law_many, 4 _law_letters*, 5 _law_turn*
abbrev s__law_action : Stmt := topS 56
abbrev n__law_action : List Str := ["_law_reel_here", "_law_layer", "_law_layers", "_law_longest", "_law_way", "_law_hold_here", "_law_time_here"]
theorem sc__law_action : FnScope n__law_action ["_law_reel_here", "_law_layer", "_law_layers", "_law_longest"] (defScope s__law_action) := ⟨rfl, rfl, rfl, by decide +kernel, rfl, by decide +kernel, by decide +kernel⟩
-- 0 _law_reel_here, 1 _law_layer, 2 _law_layers, 3 _law_longest, 4 _law_way, 5 _law_hold_here, 6 _law_time_here
abbrev s__law_layout : Stmt := topS 57
abbrev n__law_layout : List Str := ["_law_reel_here", "_law_layers", "_law_keys", "_law_longest", "_law_found", "_law_layer", "_law_key"]
theorem sc__law_layout : FnScope n__law_layout ["_law_reel_here", "_law_layers", "_law_keys", "_law_longest"] (defScope s__law_layout) := ⟨rfl, rfl, rfl, by decide +kernel, rfl, by decide +kernel, by decide +kernel⟩
-- 0 _law_reel_here*, 1 _law_layers*, 2 _law_keys, 3 _law_longest*, 4 _law_found, 5 _law_layer*, 6 _law_key*
abbrev s__law_record : Stmt := topS 58
abbrev n__law_record : List Str := ["_law_reel_here", "_law_keys", "_law_size", "_law_gaps", "_law_found", "_law_down", "_law_tick", "_law_turn", "_law_key"]
theorem sc__law_record : FnScope n__law_record ["_law_reel_here", "_law_keys", "_law_size", "_law_gaps"] (defScope s__law_record) := ⟨rfl, rfl, rfl, by decide +kernel, rfl, by decide +kernel, by decide +kernel⟩
-- 0 _law_reel_here, 1 _law_keys, 2 _law_size, 3 _law_gaps, 4 _law_found, 5 _law_down, 6 _law_tick, 7 _law_turn, 8 _law_key
abbrev s__law_cut_right : Stmt := topS 59
abbrev n__law_cut_right : List Str := ["_law_layout_here", "_law_record_here", "_law_cut", "_law_beginning", "_law_known", "_law_told", "_law_due", "_law_seen", "_law_sure", "_law_at", "_law_first", "_law_behind", "_law_one"]
theorem sc__law_cut_right : FnScope n__law_cut_right ["_law_layout_here", "_law_record_here", "_law_cut"] (defScope s__law_cut_right) := ⟨rfl, rfl, rfl, by decide +kernel, rfl, by decide +kernel, by decide +kernel⟩
-- 0 _law_layout_here, 1 _law_record_here, 2 _law_cut*, 3 _law_beginning, 4 _law_known*, 5 _law_told, 6 _law_due, 7 _law_seen*, 8 _law_sure, 9 _law_at, 10 _law_first, 11 _law_behind, 12 _law_one*
abbrev s__law_ended_right : Stmt := topS 60
abbrev n__law_ended_right : List Str := ["_law_layout_here", "_law_record_here", "_law_last", "_law_told", "_law_more", "_law_down", "_law_at", "_law_tick", "_law_key", "_law_way", "_law_due", "_law_output", "_law_row"]
theorem sc__law_ended_right : FnScope n__law_ended_right ["_law_layout_here", "_law_record_here"] (defScope s__law_ended_right) := ⟨rfl, rfl, rfl, by decide +kernel, rfl, by decide +kernel, by decide +kernel⟩
-- 0 _law_layout_here, 1 _law_record_here, 2 _law_last, 3 _law_told, 4 _law_more, 5 _law_down, 6 _law_at, 7 _law_tick, 8 _law_key*, 9 _law_way, 10 _law_due, 11 _law_output*, 12 _law_row*
abbrev s_law : Stmt := topS 61
abbrev n_law : List Str := ["_law_script", "_law_index", "_law_reel_here", "_law_turn", "_law_layers", "_law_keys", "_law_is_large", "_law_longest", "_law_layout_here", "_law_size", "_law_record_here", "_law_cuts", "_law_cut", "_law_number"]
theorem sc_law : FnScope n_law ["_law_script"] (defScope s_law) := ⟨rfl, rfl, rfl, by decide +kernel, rfl, by decide +kernel, by decide +kernel⟩
-- 0 _law_script, 1 _law_index, 2 _law_reel_here*, 3 _law_turn, 4 _law_layers, 5 _law_keys, 6 _law_is_large, 7 _law_longest, 8 _law_layout_here, 9 _law_size*, 10 _law_record_here, 11 _law_cuts, 12 _law_cut, 13 _law_number*
abbrev s_Player_init : Stmt := inClass (topS 27) 0
abbrev n_Player_init : List Str := ["self", "layout"]
theorem sc_Player_init : FnScope n_Player_init ["self", "layout"] (defScope s_Player_init) := ⟨rfl, rfl, rfl, by decide +kernel, rfl, by decide +kernel, by decide +kernel⟩
-- 0 self, 1 layout
abbrev s_twin : Stmt := inClass (topS 27) 1
abbrev n_twin : List Str := ["self"]
theorem sc_twin : FnScope n_twin ["self"] (defScope s_twin) := ⟨rfl, rfl, rfl, by decide +kernel, rfl, by decide +kernel, by decide +kernel⟩
-- 0 self
abbrev s_is_on : Stmt := inClass (topS 27) 2
abbrev n_is_on : List Str := ["self", "layer"]
theorem sc_is_on : FnScope n_is_on ["self", "layer"] (defScope s_is_on) := ⟨rfl, rfl, rfl, by decide +kernel, rfl, by decide +kernel, by decide +kernel⟩
-- 0 self, 1 layer
abbrev s_on_layers : Stmt := inClass (topS 27) 3
abbrev n_on_layers : List Str := ["self"]
theorem sc_on_layers : FnScope n_on_layers ["self"] (defScope s_on_layers) := ⟨rfl, rfl, rfl, by decide +kernel, rfl, by decide +kernel, by decide +kernel⟩
-- 0 self
abbrev s_down_codes : Stmt := inClass (topS 27) 4
abbrev n_down_codes : List Str := ["self", "code", "many"]
theorem sc_down_codes : FnScope n_down_codes ["self"] (defScope s_down_codes) := ⟨rfl, rfl, rfl, by decide +kernel, rfl, by decide +kernel, by decide +kernel⟩
-- 0 self, 1 code*, 2 many*
abbrev s_taken : Stmt := inClass (topS 27) 5
abbrev n_taken : List Str := ["self", "key", "layer", "at", "actions"]
theorem sc_taken : FnScope n_taken ["self", "key"] (defScope s_taken) := ⟨rfl, rfl, rfl, by decide +kernel, rfl, by decide +kernel, by decide +kernel⟩
-- 0 self*, 1 key*, 2 layer, 3 at*, 4 actions*
abbrev s_press : Stmt := inClass (topS 27) 6
abbrev n_press : List Str := ["self", "key", "what", "word", "about"]
theorem sc_press : FnScope n_press ["self", "key", "what"] (defScope s_press) := ⟨rfl, rfl, rfl, by decide +kernel, rfl, by decide +kernel, by decide +kernel⟩
-- 0 self, 1 key, 2 what, 3 word, 4 about
abbrev s_release : Stmt := inClass (topS 27) 7
abbrev n_release : List Str := ["self", "key", "word", "about"]
theorem sc_release : FnScope n_release ["self", "key"] (defScope s_release) := ⟨rfl, rfl, rfl, by decide +kernel, rfl, by decide +kernel, by decide +kernel⟩
-- 0 self, 1 key, 2 word, 3 about

/-! ### the reel -/
def Reel (H : Hp) (r : Addr) (n : Nat) : Prop := ∃ x y z : Int, H r = some (.lst [.int x, .int y, .int z]) ∧ 0 ≤ x ∧ 0 ≤ y ∧ y < 10 ^ 42 ∧ 0 ≤ z ∧ z ≤ (n : Int)
theorem Reel.mono {H : Hp} {r : Addr} {n m : Nat} (h : Reel H r n) (l : n ≤ m) : Reel H r m := by
  obtain ⟨x, y, z, a, b, c, d, e, f⟩ := h
  exact ⟨x, y, z, a, b, c, d, e, by omega⟩
theorem Reel.same {H H' : Hp} {r : Addr} {n : Nat} (h : Reel H r n) (l : Same H H') : Reel H' r n := by
  obtain ⟨x, y, z, a, b⟩ := h
  exact ⟨x, y, z, l _ _ a, b⟩
theorem Reel.upd {H : Hp} {r b : Addr} {n : Nat} {o : HO} (h : Reel H r n) (ne : b ≠ r) : Reel (upd H b o) r n := by
  obtain ⟨x, y, z, g, g'⟩ := h
  exact ⟨x, y, z, by rw [upd_ne ne.symm]; exact g, g'⟩
theorem Reel.new {H : Hp} {r b : Addr} {n : Nat} (h : Reel H r n) (nb : H b = none) : b ≠ r := by
  obtain ⟨_, _, _, hr, _⟩ := h
  exact (ne_of_none hr nb).symm
theorem Reel.free {H H1 : Hp} {r b : Addr} {n : Nat} (o : Off r H H1) (h : Reel H1 r n) (nb : H1 b = none) : H b = none := by
  obtain ⟨_, _, _, hr, _⟩ := h
  exact o.free hr nb
theorem Reel.lst {α : Type} {f : α → List V} {H H' : Hp} {r c : Addr} {n : Nat} {es : List α} (h : Reel H r n) (hl : Lst f H c es) (ne : c ≠ r) (o : Off r H H') : Lst f H' c es := by
  obtain ⟨_, _, _, hr, _⟩ := h
  exact hl.off hr ne o
theorem Reel.tk {H H' : Hp} {r : Addr} {n : Nat} (h : Reel H r n) (o : Off r H H') : Tk H H' := fun b xs e => o _ _ e (by
  obtain ⟨x, y, z, hr, _⟩ := h
  exact ne_of e hr (by intro q; cases q))
/-- the draws so far are fewer than this -/
abbrev most : Nat := 1000000000
def spSpin : Sp := fun vs H Q _ => ∃ (r : Addr) (m : Int) (n : Nat), vs = [.ref r, .int m] ∧ 0 < m ∧ m < 10 ^ 40 ∧ n < most ∧ Reel H r n ∧
  ∀ d H', 0 ≤ d → d < m → Reel H' r (n + 1) → Off r H H' → Q (.int d) H'
structure Bt (mg : Str → Option Value) : Prop where
  m_len : mg "len" = none
  m_abs : mg "abs" = none
  m_max : mg "max" = none
  m_min : mg "min" = none
  m_sum : mg "sum" = none
  m_repr : mg "repr" = none
  m_isinstance : mg "isinstance" = none
  m_all : mg "all" = none
  m_list : mg "list" = none
  m_tuple : mg "tuple" = none
  m_int : mg "int" = none
  m_bool : mg "bool" = none
  m_str : mg "str" = none
  m_range : mg "range" = none
  m_enumerate : mg "enumerate" = none
  m_sorted : mg "sorted" = none
  m_zip : mg "zip" = none
  m_set : mg "set" = none
section
variable {P : Program} {w : World} {K : PySem.W.Frag} {mg : Str → Option Value} {base : Heap}
theorem p43 : (10 : Int) ^ (43 : Int).toNat + 57 = 10 ^ 43 + 57 := rfl
theorem ok__law_spin (a : At K mg "_law_spin" s__law_spin ["_law_reel_here", "_law_size"]) : Cl P w K mg base 1 "_law_spin" spSpin := by
  refine clG a sc__law_spin (fun vs H Q E h => ?_) (fun f cdv A outer s H vs Q hg hr h => ?_)
  · obtain ⟨r, m, n, rfl, _⟩ := h
    rfl
  · obtain ⟨r, m, n, rfl, hm, hm2, hn0, ⟨x, y, z, hR, hx, hy, hy2, hz, hz2⟩, q⟩ := h
    have hn : n < 1000000000 := hn0
    refine ⟨_, (pss_cons (ps_if (pt_cmpR op_gt (pe_ix ix_list (pv 0) pe_int (fun _ _ => rfl)) pe_int (nomark _)) (pss_cons (ps_set (i := 2) sc__law_spin.nd rfl (Or.inl rfl) (pe_op op_mod (pe_ix ix_list (pv 0) pe_int (fun _ _ => rfl)) (pv 1)))
      (pss_cons (ps_asg (pe_op op_fdivW (pe_ix ix_list (pv 0) pe_int (fun _ _ => rfl)) (pv 1)) (pg_sub (pv 0) pe_int set_list))
      (pss_one (ps_ret (pv 2))))) pss_nil)
      (pss_cons (ps_asg (pe_op op_add (pe_ix ix_list (pv 0) pe_int (fun _ _ => rfl)) pe_int) (pg_sub (pv 0) pe_int set_list))
      (pss_cons (ps_set (i := 3) sc__law_spin.nd rfl (Or.inl rfl) (pe_op op_mod (pe_op op_powW (pe_op op_add (pe_ix ix_list (pv 0) pe_int (fun _ _ => rfl)) (pe_op op_mulW pe_int (pe_ix ix_list (pv 0) pe_int (fun _ _ => rfl)))) pe_int) (pe_op op_add (pe_op op_powW pe_int pe_int) pe_int)))
      (pss_cons (ps_set (i := 3) sc__law_spin.nd rfl (Or.inl rfl) (pe_op op_mod (pe_op op_powW (pe_op op_add (pv 3) (pe_op op_mulW pe_int (pe_ix ix_list (pv 0) pe_int (fun _ _ => rfl)))) pe_int) (pe_op op_add (pe_op op_powW pe_int pe_int) pe_int)))
      (pss_one (ps_ret (pe_op op_mod (pe_op op_fdivW (pv 3) pe_int) (pv 1)))))))), ?_⟩
    refine ⟨_, rfl, r, _, 0, _, rfl, rfl, SqL.of hR, atI_nat (j := 0) rfl, ?_⟩
    refine ⟨_, _, rfl, rfl, _, rfl, ite2 (fun e => ?_) (fun e => ?_)⟩
    · -- a digit of the great number
      have e0 : 0 < x := of_decide_eq_true e
      refine ⟨_, rfl, r, _, 0, _, rfl, rfl, SqL.of hR, atI_nat (j := 0) rfl, _, rfl, _, _, rfl, rfl, hm, ?_⟩
      refine ⟨_, rfl, r, _, 0, _, rfl, rfl, SqL.of hR, atI_nat (j := 0) rfl, _, rfl, _, _, rfl, rfl, wide_div (b := 140) hm (by omega) (by decide) (by decide), ?_⟩
      refine ⟨_, rfl, r, _, 0, 0, rfl, rfl, hR, rfl, ?_⟩
      refine ⟨_, rfl, q _ _ (Int.emod_nonneg _ (by omega)) (Int.emod_lt_of_pos _ hm) ⟨x / m, y, z, upd_same, Int.ediv_nonneg hx (by omega), hy, hy2, hz, by omega⟩ off_upd⟩
    · refine ⟨_, rfl, r, _, 2, _, rfl, rfl, SqL.of hR, atI_nat (j := 2) rfl, _, _, rfl, rfl, ?_⟩
      refine ⟨_, rfl, r, _, 2, 2, rfl, rfl, hR, rfl, ?_⟩
      have hR1 : upd H r (.lst [.int x, .int y, .int (z + 1)]) r = some (.lst [.int x, .int y, .int (z + 1)]) := upd_same
      refine ⟨_, rfl, r, _, 1, _, rfl, rfl, SqL.of hR1, atI_nat (j := 1) rfl, ?_⟩
      refine ⟨_, rfl, r, _, 2, _, rfl, rfl, SqL.of hR1, atI_nat (j := 2) rfl, ?_⟩
      have b1 : (z + 1).natAbs < 2 ^ 40 := by omega
      have b2 : (49979687 * (z + 1)).natAbs < 2 ^ 80 := by omega
      refine ⟨_, _, rfl, rfl, wide_mul (a := 40) (b := 40) (by decide) b1 (by decide) (by decide) (by decide), ?_⟩
      refine ⟨_, _, rfl, rfl, ?_⟩
      have b3 : (y + 49979687 * (z + 1)).natAbs < 2 ^ 150 := by omega
      refine ⟨_, _, rfl, rfl, powW (n := 150) (k := 3) b3 (by decide), ?_⟩
      refine ⟨_, _, rfl, rfl, powW (n := 40) (k := 43) (by decide) (by decide), ?_⟩
      refine ⟨_, _, rfl, rfl, _, _, rfl, rfl, (show (0 : Int) < 10 ^ 43 + 57 by decide), ?_⟩
      have c1 : 0 ≤ (y + 49979687 * (z + 1)) ^ 3 % (10 ^ 43 + 57) := Int.emod_nonneg _ (by decide)
      have c2 : (y + 49979687 * (z + 1)) ^ 3 % (10 ^ 43 + 57) < 10 ^ 43 + 57 := Int.emod_lt_of_pos _ (by decide)
      generalize hu : (y + 49979687 * (z + 1)) ^ 3 % (10 ^ 43 + 57) = u at c1 c2
      refine ⟨.int u, congrArg (fun v => some (some (V.int v))) hu, ?_⟩
      refine ⟨_, rfl, r, _, 2, _, rfl, rfl, SqL.of hR1, atI_nat (j := 2) rfl, ?_⟩
      have b4 : (22801763 * (z + 1)).natAbs < 2 ^ 80 := by omega
      refine ⟨_, _, rfl, rfl, wide_mul (a := 40) (b := 40) (by decide) b1 (by decide) (by decide) (by decide), ?_⟩
      have b5 : (u + 22801763 * (z + 1)).natAbs < 2 ^ 150 := by omega
      refine ⟨_, _, rfl, rfl, _, _, rfl, rfl, powW (n := 150) (k := 5) b5 (by decide), ?_⟩
      refine ⟨_, _, rfl, rfl, powW (n := 40) (k := 40) (by decide) (by decide), ?_⟩
      refine ⟨_, _, rfl, rfl, _, _, rfl, rfl, (show (0 : Int) < 10 ^ 40 + 121 by decide), ?_⟩
      refine ⟨_, rfl, _, _, rfl, rfl, wide_div (b := 40) (by decide) (by decide) (by decide) (by decide), ?_⟩
      refine ⟨_, rfl, _, _, rfl, rfl, hm, ?_⟩
      exact q _ _ (Int.emod_nonneg _ (by omega)) (Int.emod_lt_of_pos _ hm) ⟨x, y, z + 1, upd_same, hx, hy, hy2, by omega, by omega⟩ off_upd
def spReel (K : PySem.W.Frag) : Sp := fun vs H Q _ => ∃ (s : Addr) (ns : List Int) (i : Nat), vs = [.ref s, .int (i : Int)] ∧ SqL K H s (ns.map V.int) ∧ ns.length ≤ 63 ∧ i < 100 ∧
  ∀ r H', Same H H' → H r = none → Reel H' r 0 → Q (.ref r) H'
theorem ok__law_reel (bt : Bt mg) (a : At K mg "_law_reel" s__law_reel ["_law_script", "_law_index"]) : Cl P w K mg base 1 "_law_reel" (spReel K) := by
  refine clG a sc__law_reel (fun vs H Q E h => ?_) (fun f cdv A outer s H vs Q hg hr h => ?_)
  · obtain ⟨r, m, n, rfl, _⟩ := h
    rfl
  · obtain ⟨sc, ns, i, rfl, hS, hl, hi, q⟩ := h
    refine ⟨_, (pss_cons (ps_set (i := 2) sc__law_reel.nd rfl (Or.inl rfl) (pe_op op_add pe_int (pe_op op_mulW pe_int (pv 1))))
      (pss_cons (ps_for PassesOwn.never rfl (pi_list (pv 0)) (pg_name (i := 3) sc__law_reel.nd rfl (Or.inl rfl)) (pss_one (ps_set (i := 2) sc__law_reel.nd rfl (Or.inl rfl) (pe_op op_mod (pe_op op_add (pe_op op_mulW (pv 2) pe_int) (pe_op op_mod (pv 3) (pe_op op_add (pe_op op_powW pe_int pe_int) pe_int))) (pe_op op_add (pe_op op_powW pe_int pe_int) pe_int)))))
      (pss_cons (ps_set (i := 3) sc__law_reel.nd rfl (Or.inl rfl) (pe_ifExp (pt_cmpR op_lt (pv 1) (pe_callB call_len_seq (by rfl) bt.m_len (by decide +kernel) (pa_cons (pv 0) pa_nil)) (nomark _)) (pe_callB call_abs (by rfl) bt.m_abs (by decide +kernel) (pa_cons (pe_ix ix_list (pv 0) (pv 1) (fun _ _ => rfl)) pa_nil)) pe_int))
      (pss_one (ps_ret (pe_lst (pa_cons (pe_callB (call_max2 rfl) (by rfl) bt.m_max (by decide +kernel) (pa_cons pe_int (pa_cons (pe_op op_sub (pv 3) (pe_op op_powW pe_int pe_int)) pa_nil))) (pa_cons (pv 2) (pa_cons pe_int pa_nil))))))))), ?_⟩
    -- mixed = 60013 + 53 * index
    refine ⟨_, rfl, _, _, rfl, rfl, wide_mul (a := 40) (b := 40) (by decide) (by omega) (by decide) (by decide) (by decide), _, _, rfl, rfl, ?_⟩
    refine ⟨_, rfl, sc, rfl, ⟨_, hS⟩, for_it (walk_list (xs := ns.map V.int)) (fun _ σ H' => H' = H ∧ ∃ m y3, σ = [some (.ref sc), some (.int (i : Int)), some (.int m), y3] ∧ 0 ≤ m ∧ m < 10 ^ 42)
      ⟨rfl, _, _, rfl, by omega, by omega⟩ (fun _ _ H' _ p => by obtain ⟨rfl, _⟩ := p; exact hS) (fun j x σ H1 H2 hj p y => ?_) (fun σ H1 p => ?_)⟩
    · obtain ⟨rfl, m, y3, rfl, m0, m1⟩ := p
      obtain ⟨rfl, hx⟩ := y
      obtain ⟨c, hc, rfl⟩ : ∃ c, ns[j]? = some c ∧ V.int c = x := by
        rw [List.getElem?_map] at hx
        cases e : ns[j]? with
        | none => rw [e] at hx; cases hx
        | some c => rw [e] at hx; exact ⟨c, rfl, Option.some.inj hx⟩
      have b1 : m.natAbs < 2 ^ 140 := by omega
      refine ⟨_, rfl, _, _, rfl, rfl, wide_mul (a := 140) (b := 40) b1 (by decide) (by decide) (by decide) (by decide), ?_⟩
      refine ⟨_, rfl, _, _, rfl, rfl, powW (n := 40) (k := 43) (by decide) (by decide), _, _, rfl, rfl, ?_⟩
      refine ⟨_, _, rfl, rfl, (show (0 : Int) < 10 ^ 43 + 57 by decide), _, _, rfl, rfl, _, _, rfl, rfl, powW (n := 40) (k := 41) (by decide) (by decide), ?_⟩
      refine ⟨_, _, rfl, rfl, _, _, rfl, rfl, (show (0 : Int) < 10 ^ 41 + 37 by decide), ?_⟩
      have c1 := Int.emod_nonneg (m * 8675311 + c % (10 ^ 43 + 57)) (b := 10 ^ 41 + 37) (by decide)
      have c2 := Int.emod_lt_of_pos (m * 8675311 + c % (10 ^ 43 + 57)) (b := 10 ^ 41 + 37) (by decide)
      refine ⟨rfl, _, _, rfl, c1, ?_⟩
      exact Int.lt_trans c2 (by decide)
    · obtain ⟨rfl, m, y3, rfl, m0, m1⟩ := p
      refine ⟨_, rfl, .ref sc, rfl, sc, _, rfl, .inl hS, _, _, rfl, rfl, _, rfl, ite2 (fun e => ?_) (fun e => ?_)⟩
      · have e0 : (i : Int) < ((ns.map V.int).length : Nat) := of_decide_eq_true e
        rw [List.length_map] at e0
        have hlt : i < ns.length := by omega
        have g : (ns.map V.int)[i]? = some (.int ns[i]) := by
          rw [List.getElem?_map, List.getElem?_eq_getElem hlt]; rfl
        refine ⟨_, rfl, _, rfl, sc, _, (i : Int), _, rfl, rfl, hS, atI_nat g, _, rfl, ?_⟩
        refine ⟨_, rfl, _, _, rfl, rfl, powW (n := 40) (k := 18) (by decide) (by decide), _, _, rfl, rfl, _, _, rfl, .int m, rfl, (by show 3 ≤ sizeLine; decide), fun p np => ?_⟩
        exact q p _ (same_upd np) np ⟨_, m, 0, upd_same, by split <;> omega, m0, m1, by decide, by decide⟩
      · refine ⟨_, rfl, _, _, rfl, rfl, powW (n := 40) (k := 18) (by decide) (by decide), _, _, rfl, rfl, _, _, rfl, .int m, rfl, (by show 3 ≤ sizeLine; decide), fun p np => ?_⟩
        exact q p _ (same_upd np) np ⟨_, m, 0, upd_same, by split <;> omega, m0, m1, by decide, by decide⟩
end
end K15

set_option Elab.async false
set_option linter.all false
set_option maxRecDepth 100000
set_option maxHeartbeats 4000000
namespace K15
open PySem PySem.Spec PyProof.Rows L2 Gd Rm La Cb
def rLenB (K : PySem.W.Frag) : List V → Hp → VK → Prop := fun xs H Q => ∃ p ys, xs = [.ref p] ∧ (SqL K H p ys ∨ SqT K H p ys) ∧ Q (.int ys.length) H
def rListOf (K : PySem.W.Frag) : List V → Hp → VK → Prop := fun xs H Q => ∃ p ys, xs = [.ref p] ∧ (SqL K H p ys ∨ SqT K H p ys) ∧ ∀ l, H l = none → Q (.ref l) (upd H l (.lst ys))
theorem ixN_nat {n j : Nat} (hj : j < n) : ixN n (j : Int) = some j := by unfold ixN; rw [if_pos (by omega), if_pos (by omega), Int.toNat_natCast]
theorem get_map_ref {as : List Addr} {i : Nat} {b : Addr} (h : as[i]? = some b) : (as.map V.ref)[i]? = some (.ref b) := by rw [List.getElem?_map, h]; rfl
theorem get_map_int {ns : List Int} {i : Nat} {b : Int} (h : ns[i]? = some b) : (ns.map V.int)[i]? = some (.int b) := by rw [List.getElem?_map, h]; rfl
theorem cutTake {xs : List V} {k : Nat} : cutV xs none (some (k : Int)) = xs.take k := by
  unfold cutV
  rw [HT.sIx_none, HT.sIx_nat, List.drop_zero, Nat.sub_zero]
  rcases Nat.le_total k xs.length with h | h
  · rw [Nat.min_eq_left h]
  · rw [Nat.min_eq_right h, List.take_of_length_le (Nat.le_refl _), List.take_of_length_le h]
theorem cutDrop {xs : List V} {k : Nat} (h1 : k ≤ xs.length) : cutV xs (some (k : Int)) none = xs.drop k := by
  unfold cutV
  rw [HT.sIx_none, HT.sIx_nat, Nat.min_eq_left h1]
  exact List.take_of_length_le (by rw [List.length_drop]; omega)
theorem allTrue (n : Nat) : (List.replicate n true).all id = true := by simp
theorem small400 {n : Nat} (h : n ≤ 1000) : n ≤ sizeLine := Nat.le_of_lt (small1000 h)
section
variable {P : Program} {w : World} {K : PySem.W.Frag} {mg : Str → Option Value} {base : Heap}
def spInt : Sp := fun vs H Q _ => ∃ i : Int, vs = [.int i] ∧ Q (.bl true) H
theorem ok_is_an_integer (bt : Bt mg) (a : At K mg "is_an_integer" s_is_an_integer ["value"]) : Cl P w K mg base 1 "is_an_integer" spInt := by
  refine clG a sc_is_an_integer (fun vs H Q E h => ?_) (fun f cdv A outer s H vs Q hg hr h => ?_)
  · obtain ⟨i, rfl, _⟩ := h
    rfl
  · obtain ⟨i, rfl, q⟩ := h
    refine ⟨_, (pss_one (ps_ret (pe_and (pe_callB call_isi (by rfl) bt.m_isinstance (by decide +kernel) (pa_cons (pv 0) (pa_cons (pe_bltn (v := .ty "int") (by rfl) bt.m_int (by decide +kernel) rfl) pa_nil))) (pe_one (pe_not (pe_callB call_isi (by rfl) bt.m_isinstance (by decide +kernel) (pa_cons (pv 0) (pa_cons (pe_bltn (v := .ty "bool") (by rfl) bt.m_bool (by decide +kernel) rfl) pa_nil)))))))), ?_⟩
    refine ⟨_, rfl, _, _, _, _, true, rfl, .ty "int", .base (.int i), kit_ty (by decide +kernel), _, rfl, iteT ?_⟩
    exact ⟨_, rfl, _, _, _, _, false, rfl, .ty "bool", .base (.int i), kit_ty (by decide +kernel), _, rfl, q⟩
def spBet : Sp := fun vs H Q _ => ∃ i l u : Int, vs = [.int i, .int l, .int u] ∧ l ≤ i ∧ i ≤ u ∧ Q (.bl true) H
theorem ok_is_between (bt : Bt mg) (a : At K mg "is_between" s_is_between ["value", "low", "high"]) (c_is_an_integer : Cl P w K mg base 1 "is_an_integer" spInt) : Cl P w K mg base 2 "is_between" spBet := by
  refine clG a sc_is_between (fun vs H Q E h => ?_) (fun f cdv A outer s H vs Q hg hr h => ?_)
  · obtain ⟨i, l, u, rfl, _⟩ := h
    rfl
  · obtain ⟨i, l, u, rfl, h1, h2, q⟩ := h
    refine ⟨_, (pss_one (ps_ret (pe_and (pe_cl c_is_an_integer hg hr (by decide) (by rfl) (pa_cons (pv 0) pa_nil)) (pe_one (pe_chain op_le op_le (pv 1) (pv 0) (pv 2)))))), ?_⟩
    refine ⟨_, rfl, _, rfl, _, rfl, iteT ?_⟩
    refine ⟨_, rfl, _, rfl, _, _, rfl, rfl, true, congrArg V.bl (decide_eq_true h1), iteT ⟨_, rfl, _, _, rfl, rfl, ?_⟩⟩
    show Q (.bl (decide (i ≤ u))) H
    rw [decide_eq_true h2]
    exact q
def spCode : Sp := fun vs H Q _ => ∃ c : Str, vs = [.str c] ∧ CodeOk c ∧ ∀ H', Same H H' → Q (.bl true) H'
theorem ok_is_code (bt : Bt mg) {tk1 tk2 : Tok} (m_MOST_SIGNS : mg "MOST_SIGNS" = some (.int 8 tk1)) (m_CODE_SIGNS : mg "CODE_SIGNS" = some (.str "abcdefghijklmnopqrstuvwxyz0123456789" tk2)) (a : At K mg "is_code" s_is_code ["value"]) : Cl P w K mg base 1 "is_code" spCode := by
  refine clG a sc_is_code (fun vs H Q E h => ?_) (fun f cdv A outer s H vs Q hg hr h => ?_)
  · obtain ⟨i, rfl, _⟩ := h
    rfl
  · obtain ⟨c, rfl, hc, q⟩ := h
    refine ⟨_, (pss_cons (ps_if (PW.pt (pw_or (pt_not (pt_val (pe_callB call_isi (by rfl) bt.m_isinstance (by decide +kernel) (pa_cons (pv 0) (pa_cons (pe_bltn (v := .ty "str") (by rfl) bt.m_str (by decide +kernel) rfl) pa_nil))))) (pw_or1 (pt_not (pt_chain op_le op_le pe_int (pe_callB call_len_str (by rfl) bt.m_len (by decide +kernel) (pa_cons (pv 0) pa_nil)) (pe_glob (v := .int 8) (by rfl) m_MOST_SIGNS ⟨_, rfl⟩)))))) (pss_one (ps_ret pe_bl)) pss_nil)
      (pss_one (ps_ret (pe_callB (cr_all rfl) (by rfl) bt.m_all (by decide +kernel) (pa_cons (pe_lc (own := [("sign", 1)]) (g := (gName 1)) (by rfl) sc_is_code.nd (pi_str (pv 0)) (blkOk_by (N := n_is_code) (sc := defScope s_is_code) (by decide +kernel)) (fun _ _ _ _ _ => (pg_name (i := 1) sc_is_code.nd rfl (Or.inl rfl))) (fun _ _ _ _ _ => pts_nil) (fun _ _ _ _ _ => (pe_cmpR op_in_sign (pv 1) (pe_glob (v := .str "abcdefghijklmnopqrstuvwxyz0123456789") (by rfl) m_CODE_SIGNS ⟨_, rfl⟩) rfl))) pa_nil))))), ?_⟩
    have e1 : (c.length : Int) = (c.cps.size : Int) := rfl
    have h1 := hc.1
    have h8 := hc.2.1
    refine ⟨_, rfl, _, _, _, _, true, rfl, .ty "str", .base (.str _), kit_ty (by decide +kernel), _, rfl, iteF ?_⟩
    refine ⟨_, rfl, c, rfl, (by rw [sizeLine_eq]; have : c.length = c.cps.size := rfl; omega), _, _, rfl, rfl, true, congrArg V.bl (decide_eq_true (by omega)), iteT ⟨_, _, rfl, rfl, true, congrArg V.bl (decide_eq_true (by omega)), ?_⟩⟩
    refine iteF ⟨_, rfl, c, rfl, fun L nL => lc_it (walk_str (z := c)) (fun i H' => H' = upd H L (.lst ((List.replicate i true).map V.bl))) rfl (fun _ _ _ _ => True.intro) (fun i x H2 H3 hi p y => ?_) (fun H2 p => ?_)⟩
    · obtain ⟨rfl, d, hd, rfl⟩ := y
      subst p
      have hm : d ∈ signs.cps.toList := hc.2.2 d (by rw [Array.mem_toList_iff]; exact Array.mem_of_getElem? hd)
      refine ⟨rfl, ⟨_, rfl, d, signs, rfl, rfl, _, upd_same, ?_, ?_⟩⟩
      · rw [List.length_map, List.length_replicate]; exact small1000 (by omega)
      · show upd (upd H L _) L (.lst (_ ++ [V.bl (decide (d ∈ signs.cps.toList))])) = _
        rw [decide_eq_true hm, upd_upd, List.replicate_succ', List.map_append]; rfl
    · subst p
      refine ⟨L, _, rfl, SqL.of upd_same, ?_⟩
      rw [allTrue]
      exact q _ (same_upd nL)
def spCA : Sp := fun vs H Q _ => ∃ (a : Addr) (w : Str) (y : V), vs = [.ref a] ∧ H a = some (.tup [.str w, y]) ∧ ((w = ("code" : String) ∧ ∃ c, y = .str c ∧ CodeOk c ∧ ∀ H', Same H H' → Q (.bl true) H') ∨ (w ≠ (("code" : String) : Str) ∧ Q (.bl false) H))
theorem ok_is_code_action (bt : Bt mg) (a : At K mg "is_code_action" s_is_code_action ["action"]) (c_is_code : Cl P w K mg base 1 "is_code" spCode) : Cl P w K mg base 2 "is_code_action" spCA := by
  refine clG a sc_is_code_action (fun vs H Q E h => ?_) (fun f cdv A outer s H vs Q hg hr h => ?_)
  · obtain ⟨a, w, y, rfl, _⟩ := h
    rfl
  · obtain ⟨a, w, y, rfl, ha, h⟩ := h
    refine ⟨_, (pss_cons (ps_asg (pv 0) (pg_tup rfl (pgs_cons (pg_name (i := 1) sc_is_code_action.nd rfl (Or.inl rfl)) (pgs_cons (pg_name (i := 2) sc_is_code_action.nd rfl (Or.inl rfl)) pgs_nil))))
      (pss_one (ps_ret (pe_and (pe_callB call_isi (by rfl) bt.m_isinstance (by decide +kernel) (pa_cons (pv 1) (pa_cons (pe_bltn (v := .ty "str") (by rfl) bt.m_str (by decide +kernel) rfl) pa_nil))) (pe_and (pe_cmpR op_eq (pv 1) pe_str (nomark _)) (pe_one (pe_cl c_is_code hg hr (by decide) (by rfl) (pa_cons (pv 2) pa_nil)))))))), ?_⟩
    refine ⟨_, rfl, a, _, rfl, SqT.of ha, rfl, _, _, rfl, _, _, rfl, rfl, ?_⟩
    refine ⟨_, rfl, _, _, _, _, true, rfl, .ty "str", .base (.str _), kit_ty (by decide +kernel), _, rfl, iteT ?_⟩
    rcases h with ⟨rfl, c, rfl, hc, q⟩ | ⟨hn, q⟩
    · exact ⟨_, rfl, rfl, true, rfl, iteT ⟨_, rfl, c, rfl, hc, q⟩⟩
    · refine ⟨_, rfl, rfl, false, ?_, iteF q⟩
      exact congrArg V.bl (decide_eq_false fun z => hn (V.str.inj z))
def spLA (K : PySem.W.Frag) : Sp := fun vs H Q _ => ∃ (a g : Addr) (w : Str) (ws : List Str) (j n : Int), vs = [.ref a, .ref g, .int n] ∧ H a = some (.tup [.str w, .int j]) ∧ SqT K H g (ws.map V.str) ∧ w ∈ ws ∧ 1 ≤ j ∧ j ≤ n - 1 ∧ Q (.bl true) H
theorem flat_strs : ∀ ns : List Str, (ns.map V.str).all flatV = true
  | [] => rfl
  | n :: ns => by
    show (flatV (.str n) && (ns.map V.str).all flatV) = true
    rw [flat_strs ns]
    rfl
theorem ok_is_layer_action (bt : Bt mg) (a : At K mg "is_layer_action" s_is_layer_action ["action", "words", "layer_count"]) (c_is_between : Cl P w K mg base 2 "is_between" spBet) : Cl P w K mg base 3 "is_layer_action" (spLA K) := by
  refine clG a sc_is_layer_action (fun vs H Q E h => ?_) (fun f cdv A outer s H vs Q hg hr h => ?_)
  · obtain ⟨a, g, w, ws, j, n, rfl, _⟩ := h
    rfl
  · obtain ⟨a, g, w, ws, j, n, rfl, ha, hw, hm, h1, h2, q⟩ := h
    refine ⟨_, (pss_cons (ps_asg (pv 0) (pg_tup rfl (pgs_cons (pg_name (i := 3) sc_is_layer_action.nd rfl (Or.inl rfl)) (pgs_cons (pg_name (i := 4) sc_is_layer_action.nd rfl (Or.inl rfl)) pgs_nil))))
      (pss_one (ps_ret (pe_and (pe_callB call_isi (by rfl) bt.m_isinstance (by decide +kernel) (pa_cons (pv 3) (pa_cons (pe_bltn (v := .ty "str") (by rfl) bt.m_str (by decide +kernel) rfl) pa_nil))) (pe_and (pe_cmpR op_in_seq (pv 3) (pv 1) (by rfl)) (pe_one (pe_cl c_is_between hg hr (by decide) (by rfl) (pa_cons (pv 4) (pa_cons pe_int (pa_cons (pe_op op_sub (pv 2) pe_int) pa_nil)))))))))), ?_⟩
    refine ⟨_, rfl, a, _, rfl, SqT.of ha, rfl, _, _, rfl, _, _, rfl, rfl, ?_⟩
    refine ⟨_, rfl, _, _, _, _, true, rfl, .ty "str", .base (.str _), kit_ty (by decide +kernel), _, rfl, iteT ?_⟩
    refine ⟨_, rfl, _, rfl, g, _, rfl, .inr hw, rfl, flat_strs ws, true, ?_, iteT ?_⟩
    · show V.bl (inV (.str w) (ws.map V.str)) = _
      rw [inv_str, decide_eq_true hm]
    · exact ⟨_, rfl, _, rfl, _, _, rfl, rfl, j, 1, n - 1, rfl, h1, h2, q⟩
def spHold : Sp := fun vs H Q _ => ∃ (a : Addr) (n : Int), vs = [.ref a, .int n] ∧ ((∃ c, H a = some (.tup [.str "code", .str c]) ∧ CodeOk c) ∨ (∃ j, H a = some (.tup [.str "layer", .int j]) ∧ 1 ≤ j ∧ j ≤ n - 1)) ∧ ∀ H', Same H H' → Q (.bl true) H'
theorem ok_is_hold (bt : Bt mg) (a : At K mg "is_hold" s_is_hold ["value", "layer_count"]) (c_is_code_action : Cl P w K mg base 2 "is_code_action" spCA) (c_is_layer_action : Cl P w K mg base 3 "is_layer_action" (spLA K)) : Cl P w K mg base 4 "is_hold" spHold := by
  refine clG a sc_is_hold (fun vs H Q E h => ?_) (fun f cdv A outer s H vs Q hg hr h => ?_)
  · obtain ⟨a, n, rfl, _⟩ := h
    rfl
  · obtain ⟨a, n, rfl, h, q⟩ := h
    refine ⟨_, (pss_cons (ps_if (PW.pt (pw_or (pt_not (pt_val (pe_callB call_isi (by rfl) bt.m_isinstance (by decide +kernel) (pa_cons (pv 0) (pa_cons (pe_bltn (v := .ty "tuple") (by rfl) bt.m_tuple (by decide +kernel) rfl) pa_nil))))) (pw_or1 (pt_cmpR op_ne (pe_callB call_len_seq (by rfl) bt.m_len (by decide +kernel) (pa_cons (pv 0) pa_nil)) pe_int (nomark _))))) (pss_one (ps_ret pe_bl)) pss_nil)
      (pss_one (ps_ret (pe_or (pe_cl c_is_code_action hg hr (by decide) (by rfl) (pa_cons (pv 0) pa_nil)) (pe_one (pe_cl c_is_layer_action hg hr (by decide) (by rfl) (pa_cons (pv 0) (pa_cons (pe_tup (pa_cons pe_str pa_nil)) (pa_cons (pv 1) pa_nil))))))))), ?_⟩
    rcases h with ⟨c, ha, hc⟩ | ⟨j, ha, h1, h2⟩
    · refine ⟨_, rfl, _, _, _, _, true, rfl, .ty "tuple", .base (.tup ha), kit_ty (by decide +kernel), _, rfl, iteF ?_⟩
      refine ⟨_, rfl, a, _, rfl, .inr (SqT.of ha), rfl, _, rfl, iteF ?_⟩
      exact ⟨_, rfl, a, _, _, rfl, ha, .inl ⟨rfl, c, rfl, hc, fun H' s' => ⟨true, rfl, iteT (q H' s')⟩⟩⟩
    · refine ⟨_, rfl, _, _, _, _, true, rfl, .ty "tuple", .base (.tup ha), kit_ty (by decide +kernel), _, rfl, iteF ?_⟩
      refine ⟨_, rfl, a, _, rfl, .inr (SqT.of ha), rfl, _, rfl, iteF ?_⟩
      refine ⟨_, rfl, a, _, _, rfl, ha, .inr ⟨by decide +kernel, false, rfl, iteF ?_⟩⟩
      refine ⟨_, rfl, (by show 1 ≤ sizeLine; decide), fun p np => ?_⟩
      exact ⟨_, rfl, a, p, _, ["layer"], j, n, rfl, (same_upd np) _ _ ha, SqT.of upd_same, List.mem_singleton.mpr rfl, h1, h2, q _ (same_upd np)⟩
end
end K15

set_option Elab.async false
set_option linter.all false
set_option maxRecDepth 100000
set_option maxHeartbeats 4000000
namespace K15
open PySem PySem.Spec PyProof.Rows L2 Gd Rm La Cb
section
variable {P : Program} {w : World} {K : PySem.W.Frag} {mg : Str → Option Value} {base : Heap}
def spDA : Sp := fun vs H Q _ => ∃ (a b : Addr) (c r : Str) (t n : Int), vs = [.ref a, .int n] ∧ H a = some (.tup [.str "dual", .str c, .ref b, .int t, .str r]) ∧ CodeOk c ∧ ((∃ d, H b = some (.tup [.str "code", .str d]) ∧ CodeOk d) ∨ (∃ j, H b = some (.tup [.str "layer", .int j]) ∧ 1 ≤ j ∧ j ≤ n - 1)) ∧
  1 ≤ t ∧ t ≤ 1000000000 ∧ r ∈ rules ∧ ∀ H', Same H H' → Q (.bl true) H'
theorem ok_is_dual_action (bt : Bt mg) {tk : Tok} {g_RULES : Addr} (m_GREATEST_TIME : mg "GREATEST_TIME" = some (.int 1000000000 tk)) (m_RULES : mg "RULES" = some (.ref g_RULES)) (t_RULES : ∀ H, SqT K H g_RULES (rules.map V.str)) (a : At K mg "is_dual_action" s_is_dual_action ["action", "layer_count"])
    (c_is_code : Cl P w K mg base 1 "is_code" spCode) (c_is_hold : Cl P w K mg base 4 "is_hold" spHold) (c_is_between : Cl P w K mg base 2 "is_between" spBet) : Cl P w K mg base 5 "is_dual_action" spDA := by
  refine clG a sc_is_dual_action (fun vs H Q E h => ?_) (fun f cdv A outer s H vs Q hg hr h => ?_)
  · obtain ⟨a, b, c, r, t, n, rfl, _⟩ := h
    rfl
  · obtain ⟨a, b, c, r, t, n, rfl, ha, hc, hb, h1, h2, hr', q⟩ := h
    refine ⟨_, (pss_cons (ps_asg (pv 0) (pg_tup rfl (pgs_cons (pg_name (i := 2) sc_is_dual_action.nd rfl (Or.inl rfl)) (pgs_cons (pg_name (i := 3) sc_is_dual_action.nd rfl (Or.inl rfl)) (pgs_cons (pg_name (i := 4) sc_is_dual_action.nd rfl (Or.inl rfl)) (pgs_cons (pg_name (i := 5) sc_is_dual_action.nd rfl (Or.inl rfl)) (pgs_cons (pg_name (i := 6) sc_is_dual_action.nd rfl (Or.inl rfl)) pgs_nil)))))))
      (pss_cons (ps_if (PW.pt (pw_or (pt_not (pt_val (pe_callB call_isi (by rfl) bt.m_isinstance (by decide +kernel) (pa_cons (pv 2) (pa_cons (pe_bltn (v := .ty "str") (by rfl) bt.m_str (by decide +kernel) rfl) pa_nil))))) (pw_or1 (pt_cmpR op_ne (pv 2) pe_str (nomark _))))) (pss_one (ps_ret pe_bl)) pss_nil)
      (pss_cons (ps_if (PW.pt (pw_or (pt_not (pt_val (pe_cl c_is_code hg hr (by decide) (by rfl) (pa_cons (pv 3) pa_nil)))) (pw_or1 (pt_not (pt_val (pe_cl c_is_hold hg hr (by decide) (by rfl) (pa_cons (pv 4) (pa_cons (pv 1) pa_nil)))))))) (pss_one (ps_ret pe_bl)) pss_nil)
      (pss_one (ps_ret (pe_and (pe_cl c_is_between hg hr (by decide) (by rfl) (pa_cons (pv 5) (pa_cons pe_int (pa_cons (pe_glob (v := .int 1000000000) (by rfl) m_GREATEST_TIME ⟨_, rfl⟩) pa_nil)))) (pe_and (pe_callB call_isi (by rfl) bt.m_isinstance (by decide +kernel) (pa_cons (pv 6) (pa_cons (pe_bltn (v := .ty "str") (by rfl) bt.m_str (by decide +kernel) rfl) pa_nil))) (pe_one (pe_cmpR op_in_seq (pv 6) (pe_glob (v := .ref g_RULES) (by rfl) m_RULES rfl) (by rfl)))))))))), ?_⟩
    refine ⟨_, rfl, a, _, rfl, SqT.of ha, rfl, _, _, rfl, _, _, rfl, _, _, rfl, _, _, rfl, _, _, rfl, rfl, ?_⟩
    refine ⟨_, rfl, _, _, _, _, true, rfl, .ty "str", .base (.str _), kit_ty (by decide +kernel), _, rfl, iteF ?_⟩
    refine ⟨_, rfl, rfl, _, rfl, iteF ?_⟩
    refine ⟨_, rfl, c, rfl, hc, fun H1 s1 => ⟨_, rfl, iteF ?_⟩⟩
    refine ⟨_, rfl, _, rfl, b, n, rfl, ?_, fun H2 s2 => ⟨_, rfl, iteF ?_⟩⟩
    · rcases hb with ⟨d, e, k⟩ | ⟨j, e, k⟩
      · exact .inl ⟨d, s1 _ _ e, k⟩
      · exact .inr ⟨j, s1 _ _ e, k⟩
    · refine ⟨_, rfl, t, 1, 1000000000, rfl, h1, h2, true, rfl, iteT ?_⟩
      refine ⟨_, rfl, _, _, _, _, true, rfl, .ty "str", .base (.str _), kit_ty (by decide +kernel), _, rfl, iteT ?_⟩
      refine ⟨_, rfl, g_RULES, _, rfl, .inr (t_RULES _), rfl, flat_strs _, ?_⟩
      show Q (.bl (inV (.str r) (rules.map V.str))) H2
      rw [inv_str, decide_eq_true hr']
      exact q _ (s1.trans s2)
def spStand : Sp := fun vs H Q _ => ∃ (v : V) (i n : Int) (x : Actn), vs = [v, .int i, .int n] ∧ ActV H x v ∧ ActOk n i x ∧ ∀ H', Same H H' → Q (.bl true) H'
theorem ok_can_stand (bt : Bt mg) {g_LAYER_WORDS : Addr} (m_LAYER_WORDS : mg "LAYER_WORDS" = some (.ref g_LAYER_WORDS)) (t_LAYER_WORDS : ∀ H, SqT K H g_LAYER_WORDS (layWords.map V.str)) (a : At K mg "can_stand" s_can_stand ["action", "layer", "layer_count"])
    (c_is_code_action : Cl P w K mg base 2 "is_code_action" spCA) (c_is_layer_action : Cl P w K mg base 3 "is_layer_action" (spLA K)) (c_is_dual_action : Cl P w K mg base 5 "is_dual_action" spDA) : Cl P w K mg base 6 "can_stand" spStand := by
  refine clG a sc_can_stand (fun vs H Q E h => ?_) (fun f cdv A outer s H vs Q hg hr h => ?_)
  · obtain ⟨v, i, n, x, rfl, _⟩ := h
    rfl
  · obtain ⟨v, i, n, x, rfl, hv, hx, q⟩ := h
    refine ⟨_, (pss_cons (ps_if (pt_val (pe_callB call_isi (by rfl) bt.m_isinstance (by decide +kernel) (pa_cons (pv 0) (pa_cons (pe_bltn (v := .ty "str") (by rfl) bt.m_str (by decide +kernel) rfl) pa_nil)))) (pss_one (ps_ret (pe_or (pe_cmpR (op_eqD hr.units) (pv 0) pe_str (nomark _)) (pe_one (pe_and (pe_cmpR (op_eqD hr.units) (pv 0) pe_str (nomark _)) (pe_one (pe_cmpR op_gt (pv 1) pe_int (nomark _)))))))) pss_nil)
      (pss_cons (ps_if (pt_not (pt_val (pe_callB call_isi (by rfl) bt.m_isinstance (by decide +kernel) (pa_cons (pv 0) (pa_cons (pe_bltn (v := .ty "tuple") (by rfl) bt.m_tuple (by decide +kernel) rfl) pa_nil))))) (pss_one (ps_ret pe_bl)) pss_nil)
      (pss_cons (ps_if (pt_cmpR op_eq (pe_callB call_len_seq (by rfl) bt.m_len (by decide +kernel) (pa_cons (pv 0) pa_nil)) pe_int (nomark _)) (pss_one (ps_ret (pe_or (pe_cl c_is_code_action hg hr (by decide) (by rfl) (pa_cons (pv 0) pa_nil)) (pe_one (pe_cl c_is_layer_action hg hr (by decide) (by rfl) (pa_cons (pv 0) (pa_cons (pe_glob (v := .ref g_LAYER_WORDS) (by rfl) m_LAYER_WORDS rfl) (pa_cons (pv 2) pa_nil)))))))) pss_nil)
      (pss_one (ps_ret (pe_and (pe_cmpR op_eq (pe_callB call_len_seq (by rfl) bt.m_len (by decide +kernel) (pa_cons (pv 0) pa_nil)) pe_int (nomark _)) (pe_one (pe_cl c_is_dual_action hg hr (by decide) (by rfl) (pa_cons (pv 0) (pa_cons (pv 2) pa_nil)))))))))), ?_⟩
    cases x with
    | none =>
      cases hv
      refine ⟨_, rfl, _, _, _, _, true, rfl, .ty "str", .base (.str _), kit_ty (by decide +kernel), _, rfl, iteT ?_⟩
      exact ⟨_, rfl, _, _, .str _, .str _, by decide +kernel, by decide +kernel, true, congrArg V.bl (by decide +kernel), iteT (q _ (Same.refl _))⟩
    | thr =>
      cases hv
      have h0 : 0 < i := hx
      refine ⟨_, rfl, _, _, _, _, true, rfl, .ty "str", .base (.str _), kit_ty (by decide +kernel), _, rfl, iteT ?_⟩
      refine ⟨_, rfl, _, _, .str _, .str _, by decide +kernel, by decide +kernel, false, congrArg V.bl (by decide +kernel), iteF ?_⟩
      refine ⟨_, rfl, _, _, .str _, .str _, by decide +kernel, by decide +kernel, true, congrArg V.bl (by decide +kernel), iteT ⟨_, rfl, _, _, rfl, rfl, ?_⟩⟩
      show Q (.bl (decide (0 < i))) H
      rw [decide_eq_true h0]
      exact q _ (Same.refl _)
    | code c =>
      obtain ⟨a, rfl, ha⟩ := hv
      refine ⟨_, rfl, _, _, _, _, false, rfl, .ty "str", .base (.tup ha), kit_ty (by decide +kernel), _, rfl, iteF ?_⟩
      refine ⟨_, rfl, _, _, _, _, true, rfl, .ty "tuple", .base (.tup ha), kit_ty (by decide +kernel), _, rfl, iteF ?_⟩
      refine ⟨_, rfl, a, _, rfl, .inr (SqT.of ha), rfl, _, rfl, iteT ?_⟩
      exact ⟨_, rfl, a, _, _, rfl, ha, .inl ⟨rfl, c, rfl, hx, fun H' s' => ⟨true, rfl, iteT (q H' s')⟩⟩⟩
    | lay w j =>
      obtain ⟨a, rfl, ha⟩ := hv
      obtain ⟨x1, x2, x3⟩ := hx
      refine ⟨_, rfl, _, _, _, _, false, rfl, .ty "str", .base (.tup ha), kit_ty (by decide +kernel), _, rfl, iteF ?_⟩
      refine ⟨_, rfl, _, _, _, _, true, rfl, .ty "tuple", .base (.tup ha), kit_ty (by decide +kernel), _, rfl, iteF ?_⟩
      refine ⟨_, rfl, a, _, rfl, .inr (SqT.of ha), rfl, _, rfl, iteT ?_⟩
      have hn : w ≠ (("code" : String) : Str) := by
        rintro rfl
        revert x1
        decide +kernel
      exact ⟨_, rfl, a, _, _, rfl, ha, .inr ⟨hn, false, rfl, iteF ⟨_, rfl, _, rfl, a, g_LAYER_WORDS, w, layWords, j, n, rfl, ha, t_LAYER_WORDS _, x1, x2, x3, q _ (Same.refl _)⟩⟩⟩
    | dualC c d t r =>
      obtain ⟨a, b, rfl, ha, hb⟩ := hv
      obtain ⟨x1, x2, ⟨x3, x4⟩, x5⟩ := hx
      refine ⟨_, rfl, _, _, _, _, false, rfl, .ty "str", .base (.tup ha), kit_ty (by decide +kernel), _, rfl, iteF ?_⟩
      refine ⟨_, rfl, _, _, _, _, true, rfl, .ty "tuple", .base (.tup ha), kit_ty (by decide +kernel), _, rfl, iteF ?_⟩
      refine ⟨_, rfl, a, _, rfl, .inr (SqT.of ha), rfl, _, rfl, iteF ?_⟩
      refine ⟨_, rfl, a, _, rfl, .inr (SqT.of ha), rfl, true, rfl, iteT ?_⟩
      exact ⟨_, rfl, _, rfl, a, b, c, r, t, n, rfl, ha, x1, .inl ⟨d, hb, x2⟩, x3, x4, x5, q⟩
    | dualL c j t r =>
      obtain ⟨a, b, rfl, ha, hb⟩ := hv
      obtain ⟨x1, ⟨x2, x2'⟩, ⟨x3, x4⟩, x5⟩ := hx
      refine ⟨_, rfl, _, _, _, _, false, rfl, .ty "str", .base (.tup ha), kit_ty (by decide +kernel), _, rfl, iteF ?_⟩
      refine ⟨_, rfl, _, _, _, _, true, rfl, .ty "tuple", .base (.tup ha), kit_ty (by decide +kernel), _, rfl, iteF ?_⟩
      refine ⟨_, rfl, a, _, rfl, .inr (SqT.of ha), rfl, _, rfl, iteF ?_⟩
      refine ⟨_, rfl, a, _, rfl, .inr (SqT.of ha), rfl, true, rfl, iteT ?_⟩
      exact ⟨_, rfl, _, rfl, a, b, c, r, t, n, rfl, ha, x1, .inr ⟨j, hb, x2, x2'⟩, x3, x4, x5, q⟩
def spForm : Sp := fun vs H Q _ => ∃ (c : Addr) (L : List (List Actn)) (m : Nat), vs = [.ref c] ∧ Lay H c L ∧ LayOk L m ∧ ∀ H', Same H H' → Q (.bl true) H'
theorem ok_has_layout_form (bt : Bt mg) {tk1 tk2 : Tok} (m_MOST_LAYERS : mg "MOST_LAYERS" = some (.int 6 tk1)) (m_MOST_KEYS : mg "MOST_KEYS" = some (.int 16 tk2)) (a : At K mg "has_layout_form" s_has_layout_form ["value"]) : Cl P w K mg base 1 "has_layout_form" spForm := by
  refine clG a sc_has_layout_form (fun vs H Q E h => ?_) (fun f cdv A outer s H vs Q hg hr h => ?_)
  · obtain ⟨c, L, m, rfl, _⟩ := h
    rfl
  · obtain ⟨c, L, m, rfl, hL, hO, q⟩ := h
    refine ⟨_, (pss_cons (ps_if (PW.pt (pw_or (pt_not (pt_val (pe_callB call_isi (by rfl) bt.m_isinstance (by decide +kernel) (pa_cons (pv 0) (pa_cons (pe_bltn (v := .ty "list") (by rfl) bt.m_list (by decide +kernel) rfl) pa_nil))))) (pw_or1 (pt_not (pt_chain op_le op_le pe_int (pe_callB call_len_seq (by rfl) bt.m_len (by decide +kernel) (pa_cons (pv 0) pa_nil)) (pe_glob (v := .int 6) (by rfl) m_MOST_LAYERS ⟨_, rfl⟩)))))) (pss_one (ps_ret pe_bl)) pss_nil)
      (pss_cons (ps_if (pt_not (pt_val (pe_callB (cr_all rfl) (by rfl) bt.m_all (by decide +kernel) (pa_cons (pe_lc (own := [("actions", 2)]) (g := (gName 2)) (by rfl) sc_has_layout_form.nd (pi_list (pv 0)) (blkOk_by (N := n_has_layout_form) (sc := defScope s_has_layout_form) (by decide +kernel)) (fun _ _ _ _ _ => (pg_name (i := 2) sc_has_layout_form.nd rfl (Or.inl rfl))) (fun _ _ _ _ _ => pts_nil) (fun _ _ _ _ _ => (pe_callB (r := rIsi K) call_isi (by rfl) bt.m_isinstance (by decide +kernel) (pa_cons (pv 2) (pa_cons (pe_bltn (v := .ty "list") (by rfl) bt.m_list (by decide +kernel) rfl) pa_nil))))) pa_nil)))) (pss_one (ps_ret pe_bl)) pss_nil)
      (pss_cons (ps_set (i := 1) sc_has_layout_form.nd rfl (Or.inr rfl) (pe_callB call_len_seq (by rfl) bt.m_len (by decide +kernel) (pa_cons (pe_ix ix_list (pv 0) pe_int (fun _ _ => rfl)) pa_nil)))
      (pss_one (ps_ret (pe_and (pe_chain op_le op_le pe_int (pv 1) (pe_glob (v := .int 16) (by rfl) m_MOST_KEYS ⟨_, rfl⟩)) (pe_one (pe_callB (cr_all rfl) (by rfl) bt.m_all (by decide +kernel) (pa_cons (pe_lc (own := [("actions", 2)]) (g := (gName 2)) (by rfl) sc_has_layout_form.nd (pi_list (pv 0)) (blkOk_by (N := n_has_layout_form) (sc := defScope s_has_layout_form) (by decide +kernel)) (fun _ _ _ _ _ => (pg_name (i := 2) sc_has_layout_form.nd rfl (Or.inl rfl))) (fun _ _ _ _ _ => pts_nil) (fun _ _ _ _ _ => (pe_cmpR op_eq (pe_callB (r := rLenB K) call_len_seq (by rfl) bt.m_len (by decide +kernel) (pa_cons (pv 2) pa_nil)) (pv 1) (nomark _)))) pa_nil))))))))), ?_⟩
    obtain ⟨rs, hc, hR⟩ := hL
    have hlen : (rs.map V.ref).length = L.length := by rw [List.length_map]; exact hR.1
    have n1 := hO.n1
    have n6 := hO.n6
    refine ⟨_, rfl, _, _, _, _, true, rfl, .ty "list", .base (.lst hc), kit_ty (by decide +kernel), _, rfl, iteF ?_⟩
    refine ⟨_, rfl, c, _, rfl, .inl (SqL.of hc), _, _, rfl, rfl, true, congrArg V.bl (decide_eq_true (by omega)), iteT ⟨_, _, rfl, rfl, true, congrArg V.bl (decide_eq_true (by omega)), iteF ?_⟩⟩
    refine ⟨_, rfl, c, rfl, ⟨_, SqL.of hc⟩, fun M nM => lc_it (walk_list (xs := rs.map V.ref)) (fun i H' => H' = upd H M (.lst ((List.replicate i true).map V.bl))) rfl
      (fun i H' _ p => by subst p; exact SqL.of ((same_upd nM) _ _ hc)) (fun i x H2 H3 hi p y => ?_) (fun H2 p => ?_)⟩
    · obtain ⟨rfl, hx⟩ := y
      subst p
      have hi' : i < L.length := by omega
      obtain ⟨r, hr1, hr2⟩ := hR.at_ hi'
      have ex : V.ref r = x := Option.some.inj ((get_map_ref hr1).symm.trans hx)
      subst ex
      obtain ⟨vs, hv, _⟩ := hr2
      refine ⟨rfl, ⟨_, rfl, _, _, _, _, true, rfl, .ty "list", .base (.lst ((same_upd nM) _ _ hv)), kit_ty (by decide +kernel), _, upd_same, ?_, ?_⟩⟩
      · rw [List.length_map, List.length_replicate]; exact small1000 (by omega)
      · rw [upd_upd, List.replicate_succ', List.map_append]; rfl
    · subst p
      refine ⟨M, _, rfl, SqL.of upd_same, _, rfl, ?_⟩
      rw [allTrue]
      have s1 : Same H (upd H M (.lst ((List.replicate (rs.map V.ref).length true).map V.bl))) := same_upd nM
      generalize upd H M (.lst ((List.replicate (rs.map V.ref).length true).map V.bl)) = H1 at s1
      have hc1 := s1 _ _ hc
      have hR1 := hR.same s1
      obtain ⟨r0, e0, vs0, hv0, ha0⟩ := hR1.at_ (i := 0) (by omega)
      have hm0 : vs0.length = m := by rw [ha0.1]; exact hO.len _ (List.getElem_mem _)
      have m1 := hO.m1
      have m16 := hO.m16
      refine iteF ⟨_, rfl, c, _, 0, .ref r0, rfl, rfl, SqL.of hc1, atI_nat (j := 0) (get_map_ref e0), ?_⟩
      refine ⟨r0, _, rfl, .inl (SqL.of hv0), ?_⟩
      rw [hm0]
      refine ⟨_, rfl, _, _, rfl, rfl, true, congrArg V.bl (decide_eq_true (by omega)), iteT ⟨_, _, rfl, rfl, true, congrArg V.bl (decide_eq_true (by omega)), iteT ?_⟩⟩
      refine ⟨_, rfl, c, rfl, ⟨_, SqL.of hc1⟩, fun N nN => lc_it (walk_list (xs := rs.map V.ref)) (fun i H' => H' = upd H1 N (.lst ((List.replicate i true).map V.bl))) rfl
        (fun i H' _ p => by subst p; exact SqL.of ((same_upd nN) _ _ hc1)) (fun i x H2 H3 hi p y => ?_) (fun H2 p => ?_)⟩
      · obtain ⟨rfl, hx⟩ := y
        subst p
        have hi' : i < L.length := by omega
        obtain ⟨r, hr1, vs, hv, ha⟩ := hR1.at_ hi'
        have ex : V.ref r = x := Option.some.inj ((get_map_ref hr1).symm.trans hx)
        subst ex
        have hm : vs.length = m := by rw [ha.1]; exact hO.len _ (List.getElem_mem _)
        refine ⟨rfl, ⟨_, rfl, r, _, rfl, .inl (SqL.of ((same_upd nN) _ _ hv)), _, rfl, rfl, _, upd_same, ?_, ?_⟩⟩
        · rw [List.length_map, List.length_replicate]; exact small1000 (by omega)
        · rw [hm, decide_eq_true rfl, upd_upd, List.replicate_succ', List.map_append]; rfl
      · subst p
        refine ⟨N, _, rfl, SqL.of upd_same, ?_⟩
        rw [allTrue]
        exact q _ (s1.trans (same_upd nN))
def spCheckL : Sp := fun vs H Q _ => ∃ (c : Addr) (L : List (List Actn)) (m : Nat), vs = [.ref c] ∧ Lay H c L ∧ LayOk L m ∧ ∀ H', Same H H' → Q .non H'
theorem ok_check_layout (bt : Bt mg) (a : At K mg "check_layout" s_check_layout ["value"]) (c_has_layout_form : Cl P w K mg base 1 "has_layout_form" spForm) (c_can_stand : Cl P w K mg base 6 "can_stand" spStand) : Cl P w K mg base 7 "check_layout" spCheckL := by
  refine clG a sc_check_layout (fun vs H Q E h => ?_) (fun f cdv A outer s H vs Q hg hr h => ?_)
  · obtain ⟨c, L, m, rfl, _⟩ := h
    rfl
  · obtain ⟨c, L, m, rfl, hL, hO, q⟩ := h
    refine ⟨_, (pss_cons (ps_if (pt_not (pt_val (pe_cl c_has_layout_form hg hr (by decide) (by rfl) (pa_cons (pv 0) pa_nil)))) pss_never pss_nil)
      (pss_one (ps_for PassesOwn.never rfl (pi_enum (by rfl) bt.m_enumerate (pa_cons (pv 0) pa_nil)) (pg_tup rfl (pgs_cons (pg_name (i := 1) sc_check_layout.nd rfl (Or.inl rfl)) (pgs_cons (pg_name (i := 2) sc_check_layout.nd rfl (Or.inl rfl)) pgs_nil))) (pss_one (ps_for PassesOwn.never rfl (pi_enum (by rfl) bt.m_enumerate (pa_cons (pv 2) pa_nil)) (pg_tup rfl (pgs_cons (pg_name (i := 3) sc_check_layout.nd rfl (Or.inl rfl)) (pgs_cons (pg_name (i := 4) sc_check_layout.nd rfl (Or.inl rfl)) pgs_nil))) (pss_one (ps_if (pt_not (pt_val (pe_cl c_can_stand hg hr (by decide) (by rfl) (pa_cons (pv 4) (pa_cons (pv 1) (pa_cons (pe_callB call_len_seq (by rfl) bt.m_len (by decide +kernel) (pa_cons (pv 0) pa_nil)) pa_nil)))))) pss_never pss_nil))))))), ?_⟩
    refine ⟨_, rfl, c, L, m, rfl, hL, hO, fun H1 s1 => ⟨_, rfl, iteF ?_⟩⟩
    obtain ⟨rs, hc, hR⟩ := hL.same s1
    have hlen : (rs.map V.ref).length = L.length := by rw [List.length_map]; exact hR.1
    refine ⟨_, rfl, c, _, rfl, SqL.of hc, for_it (walk_enum (xs := rs.map V.ref)) (fun i σ H' => Same H1 H' ∧ ∃ y1 y2 y3 y4, σ = [some (.ref c), y1, y2, y3, y4]) ⟨Same.refl _, _, _, _, _, rfl⟩ (fun _ _ H' _ p => SqL.of (p.1 _ _ hc)) (fun i x σ H2 H3 hi p y => ?_) (fun σ H2 p => ?_)⟩
    · obtain ⟨s2, y1, y2, y3, y4, rfl⟩ := p
      obtain ⟨T, u, v, rfl, nT, rfl, e1, e2⟩ := y
      have hi' : i < L.length := by omega
      obtain ⟨r, hr1, vs, hv, ha⟩ := hR.at_ hi'
      have e2' : v = .ref r := Option.some.inj ((show (rs.map V.ref)[i]? = some v from e2).symm.trans (get_map_ref hr1))
      subst e2'
      have e1' : u = .int (i : Nat) := (Option.some.inj e1).symm
      subst e1'
      have s3 : Same H1 (upd H2 T (.tup [.int (i : Nat), .ref r])) := s2.trans (same_upd nT)
      refine ⟨T, _, rfl, SqT.of upd_same, rfl, _, _, rfl, _, _, rfl, rfl, ?_⟩
      have hv3 := s3 _ _ hv
      have hvl := ha.1
      generalize upd H2 T (.tup [.int (i : Nat), .ref r]) = H4 at s3 hv3
      refine ⟨_, rfl, r, _, rfl, SqL.of hv3, for_it (walk_enum (xs := vs)) (fun j σ H' => Same H4 H' ∧ ∃ y3 y4, σ = [some (.ref c), some (.int (i : Nat)), some (.ref r), y3, y4]) ⟨Same.refl _, _, _, rfl⟩ (fun _ _ H' _ p => SqL.of (p.1 _ _ hv3)) (fun j x σ H5 H6 hj p y => ?_) (fun σ H5 p => ?_)⟩
      · obtain ⟨s5, y3, y4, rfl⟩ := p
        obtain ⟨T2, u2, v2, rfl, nT2, rfl, e3, e4⟩ := y
        have hj' : j < L[i].length := by omega
        obtain ⟨v', hv', hav⟩ := ha.at_ hj'
        have e4' : v2 = v' := Option.some.inj ((show vs[j]? = some v2 from e4).symm.trans hv')
        subst e4'
        have e3' : u2 = .int (j : Nat) := (Option.some.inj e3).symm
        subst e3'
        have s6 : Same H1 (upd H5 T2 (.tup [.int (j : Nat), v2])) := (s3.trans s5).trans (same_upd nT2)
        refine ⟨T2, _, rfl, SqT.of upd_same, rfl, _, _, rfl, _, _, rfl, rfl, ?_⟩
        refine ⟨_, rfl, _, rfl, _, rfl, c, _, rfl, .inl (SqL.of (s6 _ _ hc)), v2, i, L.length, L[i][j], ?_, hav.keep (Tk.of s6), hO.ok i _ (List.getElem?_eq_getElem hi') _ (List.getElem_mem _), fun H7 s7 => ⟨_, rfl, iteF ⟨(s5.trans (same_upd nT2)).trans s7, _, _, rfl⟩⟩⟩
        rw [hlen]
        rfl
      · obtain ⟨s5, y3, y4, rfl⟩ := p
        exact ⟨s3.trans s5, _, _, _, _, rfl⟩
    · exact q _ (s1.trans p.1)
end
end K15

set_option Elab.async false
set_option linter.all false
set_option maxRecDepth 100000
set_option maxHeartbeats 4000000
namespace K15
open PySem PySem.Spec PyProof.Rows L2 Gd Rm La Cb
section
variable {P : Program} {w : World} {K : PySem.W.Frag} {mg : Str → Option Value} {base : Heap}
theorem down_or_up (d : Bool) : inV (.str (wayS d)) [.str "down", .str "up"] = true := by cases d <;> decide +kernel
def spStep : Sp := fun vs H Q _ => ∃ (a : Addr) (e : Ev), vs = [.ref a] ∧ H a = some (.tup (stV e)) ∧ 0 ≤ e.k ∧ ∀ H', Same H H' → Q (.bl true) H'
theorem ok_is_step (bt : Bt mg) (a : At K mg "is_step" s_is_step ["value"]) (c_is_an_integer : Cl P w K mg base 1 "is_an_integer" spInt) : Cl P w K mg base 2 "is_step" spStep := by
  refine clG a sc_is_step (fun vs H Q E h => ?_) (fun f cdv A outer s H vs Q hg hr h => ?_)
  · obtain ⟨a, e, rfl, _⟩ := h
    rfl
  · obtain ⟨a, e, rfl, ha, h0, q⟩ := h
    refine ⟨_, (pss_cons (ps_if (PW.pt (pw_or (pt_not (pt_val (pe_callB call_isi (by rfl) bt.m_isinstance (by decide +kernel) (pa_cons (pv 0) (pa_cons (pe_bltn (v := .ty "tuple") (by rfl) bt.m_tuple (by decide +kernel) rfl) pa_nil))))) (pw_or1 (pt_cmpR op_ne (pe_callB call_len_seq (by rfl) bt.m_len (by decide +kernel) (pa_cons (pv 0) pa_nil)) pe_int (nomark _))))) (pss_one (ps_ret pe_bl)) pss_nil)
      (pss_cons (ps_asg (pv 0) (pg_tup rfl (pgs_cons (pg_name (i := 1) sc_is_step.nd rfl (Or.inl rfl)) (pgs_cons (pg_name (i := 2) sc_is_step.nd rfl (Or.inl rfl)) pgs_nil))))
      (pss_one (ps_ret (pe_and (pe_cl c_is_an_integer hg hr (by decide) (by rfl) (pa_cons (pv 1) pa_nil)) (pe_and (pe_cmpR op_ge (pv 1) pe_int (nomark _)) (pe_and (pe_callB call_isi (by rfl) bt.m_isinstance (by decide +kernel) (pa_cons (pv 2) (pa_cons (pe_bltn (v := .ty "str") (by rfl) bt.m_str (by decide +kernel) rfl) pa_nil))) (pe_one (pe_cmpR op_in_seq (pv 2) (pe_tup (pa_cons pe_str (pa_cons pe_str pa_nil))) (by rfl)))))))))), ?_⟩
    refine ⟨_, rfl, _, _, _, _, true, rfl, .ty "tuple", .base (.tup ha), kit_ty (by decide +kernel), _, rfl, iteF ?_⟩
    refine ⟨_, rfl, a, _, rfl, .inr (SqT.of ha), rfl, _, rfl, iteF ?_⟩
    refine ⟨_, rfl, a, _, rfl, SqT.of ha, rfl, _, _, rfl, _, _, rfl, rfl, ?_⟩
    refine ⟨_, rfl, _, rfl, _, rfl, iteT ?_⟩
    refine ⟨_, rfl, _, _, rfl, rfl, true, congrArg V.bl (decide_eq_true h0), iteT ?_⟩
    refine ⟨_, rfl, _, _, _, _, true, rfl, .ty "str", .base (.str _), kit_ty (by decide +kernel), _, rfl, iteT ?_⟩
    refine ⟨_, rfl, (by show 2 ≤ sizeLine; decide), fun p np => ?_⟩
    refine ⟨p, _, rfl, .inr (SqT.of upd_same), rfl, rfl, ?_⟩
    have hd := down_or_up e.d
    show Q (.bl (inV (.str (wayS e.d)) [.str "down", .str "up"])) _
    rw [hd]
    exact q _ (same_upd np)
def spEvent : Sp := fun vs H Q _ => ∃ (a : Addr) (e : Ev), vs = [.ref a] ∧ H a = some (.tup (evV e)) ∧ 0 ≤ e.k ∧ ∀ H', Same H H' → Q (.bl true) H'
theorem ok_is_event (bt : Bt mg) (a : At K mg "is_event" s_is_event ["value"]) (c_is_an_integer : Cl P w K mg base 1 "is_an_integer" spInt) (c_is_step : Cl P w K mg base 2 "is_step" spStep) : Cl P w K mg base 3 "is_event" spEvent := by
  refine clG a sc_is_event (fun vs H Q E h => ?_) (fun f cdv A outer s H vs Q hg hr h => ?_)
  · obtain ⟨a, e, rfl, _⟩ := h
    rfl
  · obtain ⟨a, e, rfl, ha, h0, q⟩ := h
    refine ⟨_, (pss_cons (ps_if (PW.pt (pw_or (pt_not (pt_val (pe_callB call_isi (by rfl) bt.m_isinstance (by decide +kernel) (pa_cons (pv 0) (pa_cons (pe_bltn (v := .ty "tuple") (by rfl) bt.m_tuple (by decide +kernel) rfl) pa_nil))))) (pw_or1 (pt_cmpR op_ne (pe_callB call_len_seq (by rfl) bt.m_len (by decide +kernel) (pa_cons (pv 0) pa_nil)) pe_int (nomark _))))) (pss_one (ps_ret pe_bl)) pss_nil)
      (pss_cons (ps_asg (pv 0) (pg_tup rfl (pgs_cons (pg_name (i := 1) sc_is_event.nd rfl (Or.inl rfl)) (pgs_cons (pg_name (i := 2) sc_is_event.nd rfl (Or.inl rfl)) (pgs_cons (pg_name (i := 3) sc_is_event.nd rfl (Or.inl rfl)) pgs_nil)))))
      (pss_one (ps_ret (pe_and (pe_cl c_is_an_integer hg hr (by decide) (by rfl) (pa_cons (pv 1) pa_nil)) (pe_one (pe_cl c_is_step hg hr (by decide) (by rfl) (pa_cons (pe_tup (pa_cons (pv 2) (pa_cons (pv 3) pa_nil))) pa_nil)))))))), ?_⟩
    refine ⟨_, rfl, _, _, _, _, true, rfl, .ty "tuple", .base (.tup ha), kit_ty (by decide +kernel), _, rfl, iteF ?_⟩
    refine ⟨_, rfl, a, _, rfl, .inr (SqT.of ha), rfl, _, rfl, iteF ?_⟩
    refine ⟨_, rfl, a, _, rfl, SqT.of ha, rfl, _, _, rfl, _, _, rfl, _, _, rfl, rfl, ?_⟩
    refine ⟨_, rfl, _, rfl, _, rfl, iteT ?_⟩
    refine ⟨_, rfl, _, rfl, (by show 2 ≤ sizeLine; decide), fun p np => ?_⟩
    exact ⟨p, e, rfl, upd_same, h0, fun H' s' => q H' ((same_upd np).trans s')⟩
def spShort : Sp := fun vs H Q _ => ∃ (a : Addr) (xs : List V), vs = [.ref a] ∧ H a = some (.lst xs) ∧ xs.length ≤ 400 ∧ Q (.bl true) H
theorem ok_is_short_list (bt : Bt mg) (tk : Tok) (m_MOST_EVENTS : mg "MOST_EVENTS" = some (.int 400 tk)) (a : At K mg "is_short_list" s_is_short_list ["value"]) : Cl P w K mg base 1 "is_short_list" spShort := by
  refine clG a sc_is_short_list (fun vs H Q E h => ?_) (fun f cdv A outer s H vs Q hg hr h => ?_)
  · obtain ⟨a, xs, rfl, _⟩ := h
    rfl
  · obtain ⟨a, xs, rfl, ha, hl, q⟩ := h
    refine ⟨_, (pss_one (ps_ret (pe_and (pe_callB call_isi (by rfl) bt.m_isinstance (by decide +kernel) (pa_cons (pv 0) (pa_cons (pe_bltn (v := .ty "list") (by rfl) bt.m_list (by decide +kernel) rfl) pa_nil))) (pe_one (pe_cmpR op_le (pe_callB call_len_seq (by rfl) bt.m_len (by decide +kernel) (pa_cons (pv 0) pa_nil)) (pe_glob (v := .int 400) (by rfl) m_MOST_EVENTS ⟨_, rfl⟩) (nomark _)))))), ?_⟩
    refine ⟨_, rfl, _, _, _, _, true, rfl, .ty "list", .base (.lst ha), kit_ty (by decide +kernel), _, rfl, iteT ?_⟩
    refine ⟨_, rfl, a, _, rfl, .inl (SqL.of ha), _, _, rfl, rfl, ?_⟩
    show Q (.bl (decide ((xs.length : Int) ≤ 400))) H
    rw [decide_eq_true (show (xs.length : Int) ≤ 400 by omega)]
    exact q
def spTurn : Sp := fun vs H Q _ => ∃ (d : Addr) (kvs : List (Key × V)) (k : Int) (b : Bool), vs = [.ref d, .int k, .str (wayS b)] ∧ H d = some (.dK kvs) ∧ kvs.length < sizeLine ∧
  (valV kvs (Sum.inl k)).getD (.bl false) = .bl (!b) ∧ Q (.bl true) (upd H d (.dK (putK kvs (Sum.inl k) (.bl b))))
theorem ok_takes_turn (a : At K mg "takes_turn" s_takes_turn ["held", "key", "way"]) : Cl P w K mg base 1 "takes_turn" spTurn := by
  refine clG a sc_takes_turn (fun vs H Q E h => ?_) (fun f cdv A outer s H vs Q hg hr h => ?_)
  · obtain ⟨d, kvs, k, b, rfl, _⟩ := h
    rfl
  · obtain ⟨d, kvs, k, b, rfl, hd, hl, hv, q⟩ := h
    refine ⟨_, (pss_cons (ps_set (i := 3) sc_takes_turn.nd rfl (Or.inl rfl) (pe_cmpR op_eq (pv 2) pe_str (nomark _)))
      (pss_cons (ps_if (pt_cmpR op_eq (pe_dget2 (hu_of hr) (pv 0) (pv 1) pe_bl ⟨rfl, rfl, rfl, rfl⟩) (pv 3) (nomark _)) (pss_one (ps_ret pe_bl)) pss_nil)
      (pss_cons (ps_dput (hu_of hr) (pv 0) (pv 1) (pv 3) rfl)
      (pss_one (ps_ret pe_bl))))), ?_⟩
    refine ⟨_, rfl, rfl, ?_⟩
    refine ⟨_, rfl, d, rfl, .inl ⟨kvs, .inl hd⟩, _, rfl, _, DGet.k (k := Sum.inl k) hd, ?_⟩
    rw [wayS_down, hv]
    refine ⟨_, rfl, rfl, _, rfl, ?_⟩
    rw [decide_eq_false (fun z => by have := V.bl.inj z; cases b <;> cases this)]
    refine iteF ?_
    exact ⟨_, rfl, _, rfl, _, rfl, d, _, rfl, DPut.k (k := Sum.inl k) hd hl, q⟩
def spBelow : Sp := fun vs H Q _ => ∃ k m : Int, vs = [.int k, .int m] ∧ k < m ∧ Q (.bl true) H
theorem ok_is_below (a : At K mg "is_below" s_is_below ["key", "many"]) : Cl P w K mg base 1 "is_below" spBelow := by
  refine clG a sc_is_below (fun vs H Q E h => ?_) (fun f cdv A outer s H vs Q hg hr h => ?_)
  · obtain ⟨k, m, rfl, _⟩ := h
    rfl
  · obtain ⟨k, m, rfl, hk, q⟩ := h
    refine ⟨_, (pss_one (ps_ret (pe_or (pe_cmpR op_isN (pv 1) pe_non (nomark _)) (pe_one (pe_cmpR op_lt (pv 0) (pv 1) (nomark _)))))), ?_⟩
    refine ⟨_, rfl, rfl, _, rfl, iteF ⟨_, rfl, _, rfl, _, _, rfl, rfl, ?_⟩⟩
    show Q (.bl (decide (k < m))) H
    rw [decide_eq_true hk]
    exact q
def spFollow : Sp := fun vs H Q _ => ∃ (b d : Addr) (e : Ev) (l : V) (kvs : List (Key × V)), vs = [.ref b, l, .ref d] ∧ H b = some (.tup (evV e)) ∧
  (l = .non ∨ ∃ (b' : Addr) (e' : Ev), l = .ref b' ∧ H b' = some (.tup (evV e')) ∧ e'.t ≤ e.t) ∧ H d = some (.dK kvs) ∧ kvs.length < sizeLine ∧
  (valV kvs (Sum.inl e.k)).getD (.bl false) = .bl (!e.d) ∧ Q (.bl true) (upd H d (.dK (putK kvs (Sum.inl e.k) (.bl e.d))))
theorem ok_can_follow (a : At K mg "can_follow" s_can_follow ["event", "last", "held"]) (c_takes_turn : Cl P w K mg base 1 "takes_turn" spTurn) : Cl P w K mg base 2 "can_follow" spFollow := by
  refine clG a sc_can_follow (fun vs H Q E h => ?_) (fun f cdv A outer s H vs Q hg hr h => ?_)
  · obtain ⟨b, d, e, l, kvs, rfl, _⟩ := h
    rfl
  · obtain ⟨b, d, e, l, kvs, rfl, hb, hl, hd, hz, hv, q⟩ := h
    refine ⟨_, (pss_cons (ps_if (PW.pt (pw_and (pt_cmpR op_notN (pv 1) pe_non (nomark _)) (pw_and1 (pt_cmpR op_lt (pe_ix ix_tup (pv 0) pe_int (fun _ _ => rfl)) (pe_ix ix_tup (pv 1) pe_int (fun _ _ => rfl)) (nomark _))))) (pss_one (ps_ret pe_bl)) pss_nil)
      (pss_one (ps_ret (pe_cl c_takes_turn hg hr (by decide) (by rfl) (pa_cons (pv 2) (pa_cons (pe_ix ix_tup (pv 0) pe_int (fun _ _ => rfl)) (pa_cons (pe_ix ix_tup (pv 0) pe_int (fun _ _ => rfl)) pa_nil))))))), ?_⟩
    rcases hl with rfl | ⟨b', e', rfl, hb', hle⟩
    · refine ⟨_, rfl, rfl, _, rfl, iteF ?_⟩
      refine ⟨_, rfl, _, rfl, b, _, _, _, rfl, rfl, SqT.of hb, atI_nat (j := 1) rfl, _, rfl, b, _, _, _, rfl, rfl, SqT.of hb, atI_nat (j := 2) rfl, ?_⟩
      exact ⟨d, kvs, e.k, e.d, rfl, hd, hz, hv, q⟩
    · refine ⟨_, rfl, rfl, _, rfl, iteT ?_⟩
      refine ⟨_, rfl, b, _, _, _, rfl, rfl, SqT.of hb, atI_nat (j := 0) rfl, _, rfl, b', _, _, _, rfl, rfl, SqT.of hb', atI_nat (j := 0) rfl, _, _, rfl, rfl, _, rfl, ite2 (fun z => ?_) (fun z => ?_)⟩
      · have z0 : e.t < e'.t := of_decide_eq_true z
        omega
      · refine ⟨_, rfl, _, rfl, b, _, _, _, rfl, rfl, SqT.of hb, atI_nat (j := 1) rfl, _, rfl, b, _, _, _, rfl, rfl, SqT.of hb, atI_nat (j := 2) rfl, ?_⟩
        exact ⟨d, kvs, e.k, e.d, rfl, hd, hz, hv, q⟩
def spCheck : Sp := fun vs H Q _ => ∃ (c : Addr) (m : Int) (es : List Ev), vs = [.ref c, .int m] ∧ Lst evV H c es ∧ Valid es ∧ es.length ≤ 400 ∧ (∀ e ∈ es, e.k < m) ∧ ∀ H', Same H H' → Q .non H'
theorem ok_check_record (bt : Bt mg) (a : AtX K mg "check_record" s_check_record ["value", "many"] []) (c_is_short_list : Cl P w K mg base 1 "is_short_list" spShort) (c_is_event : Cl P w K mg base 3 "is_event" spEvent) (c_can_follow : Cl P w K mg base 2 "can_follow" spFollow) (c_is_below : Cl P w K mg base 1 "is_below" spBelow) :
    Cl P w K mg base 4 "check_record" spCheck := by
  refine clX a sc_check_record (fun vs H Q E h => ?_) (fun f cdv A outer s H vs Q hg hr h => ?_)
  · obtain ⟨a, m, e, rfl, _⟩ := h
    rfl
  · obtain ⟨c, m, es, rfl, hL, hV, hl, hkm, q⟩ := h
    refine ⟨_, (pss_cons (ps_if (pt_not (pt_val (pe_cl c_is_short_list hg hr (by decide) (by rfl) (pa_cons (pv 0) pa_nil)))) pss_never pss_nil)
      (pss_cons (ps_set (i := 2) sc_check_record.nd rfl (Or.inl rfl) pe_dnewK)
      (pss_one (ps_for PassesOwn.never rfl (pi_enum (by rfl) bt.m_enumerate (pa_cons (pv 0) pa_nil)) (pg_tup rfl (pgs_cons (pg_name (i := 3) sc_check_record.nd rfl (Or.inl rfl)) (pgs_cons (pg_name (i := 4) sc_check_record.nd rfl (Or.inl rfl)) pgs_nil))) (pss_cons (ps_if (PW.pt (pw_or (pt_not (pt_val (pe_cl c_is_event hg hr (by decide) (by rfl) (pa_cons (pv 4) pa_nil)))) (pw_or1 (pt_not (pt_val (pe_cl c_is_below hg hr (by decide) (by rfl) (pa_cons (pe_ix ix_tup (pv 4) pe_int (fun _ _ => rfl)) (pa_cons (pv 1) pa_nil)))))))) pss_never pss_nil)
      (pss_one (ps_if (pt_not (pt_val (pe_cl c_can_follow hg hr (by decide) (by rfl) (pa_cons (pv 4) (pa_cons (pe_ifExp (pt_cmpR op_gt (pv 3) pe_int (nomark _)) (pe_ix ix_list (pv 0) (pe_op op_sub (pv 3) pe_int) (fun _ _ => rfl)) pe_non) (pa_cons (pv 2) pa_nil)))))) pss_never pss_nil))))))), ?_⟩
    obtain ⟨as, hc, hT⟩ := hL
    have hlen : (as.map V.ref).length = es.length := by rw [List.length_map]; exact hT.1
    refine ⟨_, rfl, c, _, rfl, hc, by omega, _, rfl, iteF ?_⟩
    intro d nd
    refine ⟨_, rfl, c, _, rfl, SqL.of ((same_upd nd) _ _ hc), for_it (walk_enum (xs := as.map V.ref))
      (fun i σ H' => Same H H' ∧ ∃ kvs y2 y3, σ = [some (.ref c), some (.int m), some (.ref d), y2, y3] ∧ H' d = some (.dK kvs) ∧ kvs.length ≤ i ∧ HeldK kvs (heldB (es.take i)))
      ⟨same_upd nd, _, _, _, rfl, upd_same, Nat.le_refl _, HeldK.nil⟩ (fun _ _ H' _ p => SqL.of (p.1 _ _ hc)) (fun i x σ H1 H2 hi p y => ?_) (fun σ H1 p => ?_)⟩
    · obtain ⟨s1, kvs, y2, y3, rfl, hd, hkl, hk⟩ := p
      obtain ⟨T, u, v, rfl, nT, rfl, e1, e2⟩ := y
      have hi' : i < es.length := by omega
      obtain ⟨b, hb, hbt⟩ := hT.at_ hi'
      have he : es[i]? = some es[i] := List.getElem?_eq_getElem hi'
      obtain ⟨v1, v2, v3⟩ := hV i _ he
      have e2' : v = .ref b := by
        have e2 : (as.map V.ref)[i]? = some v := e2
        rw [List.getElem?_map, hb] at e2
        exact (Option.some.inj e2).symm
      subst e2'
      have e1' : u = .int (i : Nat) := (Option.some.inj e1).symm
      subst e1'
      have s2 : Same H (upd H1 T (.tup [.int (i : Nat), .ref b])) := s1.trans (same_upd nT)
      have hb2 := s2 _ _ hbt
      refine ⟨T, _, rfl, SqT.of upd_same, rfl, _, _, rfl, _, _, rfl, rfl, ?_⟩
      refine ⟨_, rfl, b, _, rfl, hb2, v1, fun H3 s3 => ?_⟩
      have s4 := s2.trans s3
      have hb4 := s4 _ _ hbt
      refine ⟨_, rfl, iteF ?_⟩
      have hkk := hkm _ (List.getElem_mem hi')
      refine ⟨_, rfl, b, _, _, _, rfl, rfl, SqT.of hb4, atI_nat (j := 1) rfl, _, rfl, es[i].k, m, rfl, hkk, _, rfl, iteF ?_⟩
      have hd4 : H3 d = some (.dK kvs) := s3 _ _ ((same_upd nT) _ _ hd)
      have fin : Same H (upd H3 d (.dK (putK kvs (Sum.inl es[i].k) (.bl es[i].d)))) ∧ ∃ kvs' y2 y3, [some (V.ref c), some (V.int m), some (V.ref d), some (V.int (i : Nat)), some (V.ref b)] = [some (V.ref c), some (V.int m), some (V.ref d), y2, y3] ∧
          upd H3 d (.dK (putK kvs (Sum.inl es[i].k) (.bl es[i].d))) d = some (.dK kvs') ∧ kvs'.length ≤ i + 1 ∧ HeldK kvs' (heldB (es.take (i + 1))) := by
        refine ⟨Same.off s4 nd off_upd, _, _, _, rfl, upd_same, ?_, ?_⟩
        · have := put_len kvs (Sum.inl es[i].k) (.bl es[i].d); omega
        · rw [List.take_add_one, he]
          exact hk.put
      have hv : (valV kvs (Sum.inl es[i].k)).getD (.bl false) = .bl (!es[i].d) := by rw [hk.at_, v2]
      have hz : kvs.length < sizeLine := small1000 (by omega)
      refine ⟨_, rfl, _, rfl, _, _, rfl, rfl, _, rfl, ite2 (fun e => ?_) (fun e => ?_)⟩
      · have e0 : (0 : Int) < (i : Nat) := of_decide_eq_true e
        obtain ⟨b', hb', hbt'⟩ := hT.at_ (i := i - 1) (by omega)
        have hle := v3 (i - 1) _ (by omega) (List.getElem?_eq_getElem (by omega))
        have g : (as.map V.ref)[i - 1]? = some (.ref b') := by rw [List.getElem?_map, hb']; rfl
        refine ⟨_, rfl, _, rfl, _, _, rfl, rfl, c, _, _, .ref b', rfl, rfl, SqL.of (s4 _ _ hc), at_of (j := i - 1) (by omega) g, _, rfl, ?_⟩
        exact ⟨b, d, es[i], .ref b', kvs, rfl, hb4, .inr ⟨b', _, rfl, s4 _ _ hbt', hle⟩, hd4, hz, hv, _, rfl, iteF fin⟩
      · exact ⟨_, rfl, b, d, es[i], .non, kvs, rfl, hb4, .inl rfl, hd4, hz, hv, _, rfl, iteF fin⟩
    · exact q _ p.1
end
end K15

set_option Elab.async false
set_option linter.all false
set_option maxRecDepth 100000
set_option maxHeartbeats 8000000
namespace K15
open PySem PySem.Spec PyProof.Rows L2 Gd Rm La Cb
theorem signs_len : signs.cps.toList.length = 36 := by decide +kernel
theorem getS {d : Int} (h0 : 0 ≤ d) (h1 : d < 36) : ∃ c, atI signs.cps.toList d = some c ∧ c ∈ signs.cps.toList := by
  have hl := signs_len
  obtain ⟨k, rfl⟩ : ∃ k : Nat, d = (k : Int) := ⟨d.toNat, by omega⟩
  have hd : k < signs.cps.toList.length := by omega
  exact ⟨signs.cps.toList[k], atI_nat (List.getElem?_eq_getElem hd), List.getElem_mem hd⟩
def codes14 : List Str := ["a", "b", "x", "1", "esc", "none", "through", "press", "tap", "hold", "code", "layer", "q9", "zzzzzzzz"]
def codes8 : List Str := ["00000000", "0", "lock", "once", "dual", "release", "down", "up"]
theorem codes_ok : ∀ c ∈ codes14 ++ codes8, CodeOk c := by decide +kernel
theorem codes_len : (codes14 ++ codes8).length = 22 := rfl
theorem getC {d : Int} (h0 : 0 ≤ d) (h1 : d < 22) : ∃ c, atI (codes14.map V.str ++ codes8.map V.str) d = some (.str c) ∧ CodeOk c := by
  have hl := codes_len
  have hd : d.toNat < (codes14 ++ codes8).length := by omega
  refine ⟨(codes14 ++ codes8)[d.toNat], ?_, codes_ok _ (List.getElem_mem hd)⟩
  rw [← List.map_append]
  refine at_of (j := d.toNat) (by omega) ?_
  rw [List.getElem?_map, List.getElem?_eq_getElem hd]
  rfl
theorem getW {ws : List Str} {d : Int} (h0 : 0 ≤ d) (h1 : d < (ws.length : Int)) : ∃ c, atI (ws.map V.str) d = some (.str c) ∧ c ∈ ws := by
  have hd : d.toNat < ws.length := by omega
  refine ⟨ws[d.toNat], ?_, List.getElem_mem hd⟩
  refine at_of (j := d.toNat) (by omega) ?_
  rw [List.getElem?_map, List.getElem?_eq_getElem hd]
  rfl
theorem sum_one : ∀ cs : List Nat, ((cs.map fun c => (⟨#[c]⟩ : Str)).map fun x => x.length).sum = cs.length
  | [] => rfl
  | c :: r => by
    have ih := sum_one r
    rw [List.map_cons, List.map_cons, List.sum_cons, ih, List.length_cons]
    show 1 + r.length = _
    omega
section
variable {P : Program} {w : World} {K : PySem.W.Frag} {mg : Str → Option Value} {base : Heap}
def spLCode : Sp := fun vs H Q _ => ∃ (r : Addr) (n : Nat), vs = [.ref r] ∧ Reel H r n ∧ n + 100 < most ∧
  ∀ (H' : Hp) (c : Str), Off r H H' → Reel H' r (n + 20) → CodeOk c → Q (.str c) H'
theorem ok__law_code (bt : Bt mg) (a : At K mg "_law_code" s__law_code ["_law_reel_here"]) (c__law_spin : Cl P w K mg base 1 "_law_spin" spSpin) : Cl P w K mg base 2 "_law_code" spLCode := by
  refine clG a sc__law_code (fun vs H Q E h => ?_) (fun f cdv A outer s H vs Q hg hr h => ?_)
  · obtain ⟨r, n, rfl, _⟩ := h
    rfl
  · obtain ⟨r, n, rfl, hR, hn, q⟩ := h
    have hn : n + 100 < 1000000000 := hn
    refine ⟨_, (pss_cons (ps_set (i := 1) sc__law_code.nd rfl (Or.inl rfl) (pe_lst (pa_cons pe_str (pa_cons pe_str (pa_cons pe_str (pa_cons pe_str (pa_cons pe_str (pa_cons pe_str (pa_cons pe_str (pa_cons pe_str (pa_cons pe_str (pa_cons pe_str (pa_cons pe_str (pa_cons pe_str (pa_cons pe_str (pa_cons pe_str pa_nil))))))))))))))))
      (pss_cons (ps_set (i := 1) sc__law_code.nd rfl (Or.inl rfl) (pe_op op_cat (pv 1) (pe_lst (pa_cons pe_str (pa_cons pe_str (pa_cons pe_str (pa_cons pe_str (pa_cons pe_str (pa_cons pe_str (pa_cons pe_str (pa_cons pe_str pa_nil)))))))))))
      (pss_cons (ps_set (i := 2) sc__law_code.nd rfl (Or.inl rfl) (pe_cl c__law_spin hg hr (by decide) (by rfl) (pa_cons (pv 0) (pa_cons pe_int pa_nil))))
      (pss_cons (ps_if (pt_cmpR op_lt (pv 2) pe_int (nomark _)) (pss_one (ps_ret (pe_ix ix_list (pv 1) (pv 2) (fun _ _ => rfl)))) pss_nil)
      (pss_cons (ps_asg (pe_tup (pa_cons (pe_op op_add pe_int (pe_cl c__law_spin hg hr (by decide) (by rfl) (pa_cons (pv 0) (pa_cons pe_int pa_nil)))) (pa_cons pe_str pa_nil))) (pg_tup rfl (pgs_cons (pg_name (i := 3) sc__law_code.nd rfl (Or.inl rfl)) (pgs_cons (pg_name (i := 4) sc__law_code.nd rfl (Or.inr rfl)) pgs_nil))))
      (pss_one (ps_ret (pe_bm PySem.F.plainAttrs_str PySem.F.slot_str_join PySem.F.type_str_join mt_join pe_str (pa_cons (pe_lc (own := [("_law_turn", 5)]) (g := (gName 5)) (by rfl) sc__law_code.nd (pi_range1 (by rfl) bt.m_range (pa_cons (pv 3) pa_nil)) (blkOk_by (N := n__law_code) (sc := defScope s__law_code) (by decide +kernel)) (fun _ _ _ _ _ => (pg_name (i := 5) sc__law_code.nd rfl (Or.inl rfl))) (fun _ _ _ _ _ => pts_nil) (fun _ _ _ _ _ => (pe_ix ix_str (pv 4) (pe_cl c__law_spin hg hr (by decide) (by rfl) (pa_cons (pv 0) (pa_cons pe_int pa_nil))) (fun _ _ => rfl)))) pa_nil))))))))), ?_⟩
    refine ⟨(by show 14 ≤ sizeLine; decide), fun S nS => ⟨_, rfl, (by show 8 ≤ sizeLine; decide), fun T nT => ⟨S, T, _, _, rfl, rfl, (same_upd nT) _ _ upd_same, upd_same, (by show 14 + 8 ≤ sizeLine; decide), fun U nU => ?_⟩⟩⟩
    have s1 : Same H (upd (upd (upd H S (.lst (codes14.map V.str))) T (.lst (codes8.map V.str))) U (.lst (codes14.map V.str ++ codes8.map V.str))) := ((same_upd nS).trans (same_upd nT)).trans (same_upd nU)
    have hU : upd (upd (upd H S (.lst (codes14.map V.str))) T (.lst (codes8.map V.str))) U (.lst (codes14.map V.str ++ codes8.map V.str)) U = some (.lst (codes14.map V.str ++ codes8.map V.str)) := upd_same
    have hN : H U = none := ((same_upd nS).trans (same_upd nT)).free nU
    refine (fun (G : ∀ H1, Same H H1 → H1 U = some (.lst (codes14.map V.str ++ codes8.map V.str)) → _) => G _ s1 hU) (fun H1 s1 hU => ?_)
    have R1 := hR.same s1
    have Ur : U ≠ r := by
      obtain ⟨_, _, _, hr2, _⟩ := id hR
      exact (ne_of_none hr2 hN).symm
    refine ⟨_, rfl, r, 27, n, rfl, by decide, by decide, by show _ < 1000000000; omega, R1, fun d H2 d0 d1 R2 o2 => ?_⟩
    have hU2 := o2 _ _ hU Ur
    have oH2 : Off r H H2 := (Off.of s1).trans o2
    refine ⟨_, rfl, _, _, rfl, rfl, _, rfl, ite2 (fun e => ?_) (fun e => ?_)⟩
    · have e0 : d < 22 := of_decide_eq_true e
      obtain ⟨c, hc, ok⟩ := getC d0 e0
      exact ⟨_, rfl, _, rfl, U, _, d, .str c, rfl, rfl, SqL.of hU2, hc, q _ c oH2 (R2.mono (by omega)) ok⟩
    · refine ⟨_, rfl, r, 8, n + 1, rfl, by decide, by decide, by show _ < 1000000000; omega, R2, fun m H3 m0 m1 R3 o3 => ⟨_, _, rfl, rfl, (by show 2 ≤ sizeLine; decide), fun p np => ⟨p, _, rfl, SqT.of upd_same, rfl, _, _, rfl, _, _, rfl, rfl, ?_⟩⟩⟩
      have R4 : Reel (upd H3 p (.tup [.int (1 + m), .str signs])) r (n + 2) := R3.same (same_upd np)
      have o4 : Off r H (upd H3 p (.tup [.int (1 + m), .str signs])) := (oH2.trans o3).sameTrans (same_upd np)
      refine (fun (G : ∀ H4, Reel H4 r (n + 2) → Off r H H4 → _) => G _ R4 o4) (fun H4 R4 o4 => ?_)
      refine ⟨rfl, _, rfl, 1 + m, rfl, by omega, by omega, fun M nM => lc_it walk_range (fun i H' => Off r H4 H' ∧ Reel H' r (n + 2 + i) ∧ ∃ cs : List Nat, H' M = some (.lst ((cs.map fun c => (⟨#[c]⟩ : Str)).map V.str)) ∧ cs.length = i ∧ ∀ c ∈ cs, c ∈ signs.cps.toList) ?_ (fun _ _ _ _ => True.intro) (fun i x H5 H6 hi p y => ?_) (fun H5 p => ?_)⟩
      · exact ⟨Off.of (same_upd nM), R4.same (same_upd nM), [], upd_same, rfl, fun c h => by simp at h⟩
      · obtain ⟨rfl, rfl⟩ := y
        obtain ⟨o5, R5, cs, hM, hl, hcs⟩ := p
        have Mr : M ≠ r := by
          obtain ⟨_, _, _, hr2, _⟩ := id R4
          exact (ne_of_none hr2 nM).symm
        have hi8 : i < 8 := by omega
        refine ⟨rfl, ⟨_, rfl, _, rfl, r, 36, n + 2 + i, rfl, by decide, by decide, by show _ < 1000000000; omega, R5, fun d' H7 d0' d1' R7 o7 => ?_⟩⟩
        obtain ⟨c, hc, hm⟩ := getS d0' d1'
        refine ⟨signs, d', c, rfl, rfl, (by decide +kernel), hc, _, o7 _ _ hM Mr, ?_, ?_⟩
        · rw [List.length_map, List.length_map]; exact small1000 (by omega)
        · refine ⟨(o5.trans o7).new nM, ?_, cs ++ [c], ?_, by rw [List.length_append, hl]; rfl, fun x hx => ?_⟩
          · obtain ⟨x, y, z, g, g'⟩ := R7
            exact ⟨x, y, z, by rw [upd_ne Mr.symm]; exact g, g'⟩
          · rw [upd_same, List.map_append, List.map_append]; rfl
          · rcases List.mem_append.mp hx with z | z
            · exact hcs x z
            · rw [List.mem_singleton.mp z]; exact hm
      · obtain ⟨o5, R5, cs, hM, hl, hcs⟩ := p
        refine ⟨"", M, cs.map fun c => ⟨#[c]⟩, rfl, rfl, .inl (SqL.of hM), ?_, ?_⟩
        · rw [sum_one, List.length_map]
          show _ + _ * 0 ≤ 16777216
          omega
        · refine q _ _ (o4.trans o5) (R5.mono (by omega)) (code_join (by omega) (by omega) hcs)
end
def holdOk (H : Hp) (n : Int) (b : Addr) : Prop := (∃ d, H b = some (.tup [.str "code", .str d]) ∧ CodeOk d) ∨ (∃ j, H b = some (.tup [.str "layer", .int j]) ∧ 1 ≤ j ∧ j ≤ n - 1)
theorem holdOk.keep {H H' : Hp} {n : Int} {b : Addr} (h : holdOk H n b) (t : Tk H H') : holdOk H' n b := by
  rcases h with ⟨d, a, c⟩ | ⟨j, a, c⟩
  · exact .inl ⟨d, t _ _ a, c⟩
  · exact .inr ⟨j, t _ _ a, c⟩
theorem small40 {n : Int} (h : n ≤ 1000000000) : n < 10 ^ 40 := Int.lt_of_le_of_lt h (by decide)
section
variable {P : Program} {w : World} {K : PySem.W.Frag} {mg : Str → Option Value} {base : Heap}
def spLAct : Sp := fun vs H Q _ => ∃ (r : Addr) (k : Nat) (i n g : Int), vs = [.ref r, .int i, .int n, .int g] ∧ Reel H r k ∧ k + 1000 < most ∧ 0 ≤ i ∧ 1 ≤ n ∧ n ≤ 1000 ∧ 1 ≤ g ∧ g ≤ 1000000000 ∧
  ∀ (H' : Hp) (v : V) (x : Actn), Off r H H' → Reel H' r (k + 100) → ActV H' x v → ActOk n i x → Q v H'
theorem ok__law_action (bt : Bt mg) (a : At K mg "_law_action" s__law_action ["_law_reel_here", "_law_layer", "_law_layers", "_law_longest"]) (c__law_spin : Cl P w K mg base 1 "_law_spin" spSpin) (c__law_code : Cl P w K mg base 2 "_law_code" spLCode) : Cl P w K mg base 3 "_law_action" spLAct := by
  refine clG a sc__law_action (fun vs H Q E h => ?_) (fun f cdv A outer s H vs Q hg hr h => ?_)
  · obtain ⟨r, k, i, n, g, rfl, _⟩ := h
    rfl
  · obtain ⟨r, k, i, n, g, rfl, hR, hk, hi, hn, hn2, hg1, hg2, q⟩ := h
    have hk : k + 1000 < 1000000000 := hk
    refine ⟨_, (pss_cons (ps_set (i := 4) sc__law_action.nd rfl (Or.inl rfl) (pe_cl c__law_spin hg hr (by decide) (by rfl) (pa_cons (pv 0) (pa_cons pe_int pa_nil))))
      (pss_cons (ps_if (pt_cmpR op_lt (pv 4) pe_int (nomark _)) (pss_one (ps_ret (pe_tup (pa_cons pe_str (pa_cons (pe_cl c__law_code hg hr (by decide) (by rfl) (pa_cons (pv 0) pa_nil)) pa_nil))))) pss_nil)
      (pss_cons (ps_if (pt_cmpR op_eq (pv 4) pe_int (nomark _)) (pss_one (ps_ret pe_str)) pss_nil)
      (C8.pss_cut (ps_if (PW.pt (pw_and (pt_cmpR op_lt (pv 4) pe_int (nomark _)) (pw_and1 (pt_cmpR op_gt (pv 1) pe_int (nomark _))))) (pss_one (ps_ret pe_str)) pss_nil)
      (C8.pss_cut (ps_if (PW.pt (pw_and (pt_cmpR op_lt (pv 4) pe_int (nomark _)) (pw_and1 (pt_cmpR op_gt (pv 2) pe_int (nomark _))))) (pss_one (ps_ret (pe_tup (pa_cons (pe_ix ix_list (pe_lst (pa_cons pe_str (pa_cons pe_str (pa_cons pe_str pa_nil)))) (pe_cl c__law_spin hg hr (by decide) (by rfl) (pa_cons (pv 0) (pa_cons pe_int pa_nil))) (fun _ _ => rfl)) (pa_cons (pe_op op_add pe_int (pe_cl c__law_spin hg hr (by decide) (by rfl) (pa_cons (pv 0) (pa_cons (pe_op op_sub (pv 2) pe_int) pa_nil)))) pa_nil))))) pss_nil)
      (pss_cons (ps_set (i := 5) sc__law_action.nd rfl (Or.inl rfl) (pe_tup (pa_cons pe_str (pa_cons (pe_cl c__law_code hg hr (by decide) (by rfl) (pa_cons (pv 0) pa_nil)) pa_nil))))
      (C8.pss_cut (ps_if (PW.pt (pw_and (pt_cmpR op_gt (pv 2) pe_int (nomark _)) (pw_and1 (pt_cmpR op_gt (pe_cl c__law_spin hg hr (by decide) (by rfl) (pa_cons (pv 0) (pa_cons pe_int pa_nil))) pe_int (nomark _))))) (pss_one (ps_set (i := 5) sc__law_action.nd rfl (Or.inl rfl) (pe_tup (pa_cons pe_str (pa_cons (pe_op op_add pe_int (pe_cl c__law_spin hg hr (by decide) (by rfl) (pa_cons (pv 0) (pa_cons (pe_op op_sub (pv 2) pe_int) pa_nil)))) pa_nil))))) pss_nil)
      (pss_cons (ps_set (i := 6) sc__law_action.nd rfl (Or.inl rfl) (pe_ix ix_list (pe_lst (pa_cons (pe_op op_add pe_int (pe_cl c__law_spin hg hr (by decide) (by rfl) (pa_cons (pv 0) (pa_cons (pe_callB (call_min2 rfl) (by rfl) bt.m_min (by decide +kernel) (pa_cons pe_int (pa_cons (pv 3) pa_nil))) pa_nil)))) (pa_cons (pe_op op_add pe_int (pe_cl c__law_spin hg hr (by decide) (by rfl) (pa_cons (pv 0) (pa_cons (pv 3) pa_nil)))) (pa_cons (pv 3) pa_nil)))) (pe_cl c__law_spin hg hr (by decide) (by rfl) (pa_cons (pv 0) (pa_cons pe_int pa_nil))) (fun _ _ => rfl)))
      (pss_one (ps_ret (pe_tup (pa_cons pe_str (pa_cons (pe_cl c__law_code hg hr (by decide) (by rfl) (pa_cons (pv 0) pa_nil)) (pa_cons (pv 5) (pa_cons (pv 6) (pa_cons (pe_ix ix_list (pe_lst (pa_cons pe_str (pa_cons pe_str (pa_cons pe_str pa_nil)))) (pe_cl c__law_spin hg hr (by decide) (by rfl) (pa_cons (pv 0) (pa_cons pe_int pa_nil))) (fun _ _ => rfl)) pa_nil)))))))))))))))), ?_⟩
    refine ⟨_, rfl, r, 12, k, rfl, by decide, by decide, by show _ < 1000000000; omega, hR, fun way H1 w0 w1 R1 o1 => ?_⟩
    refine ⟨_, rfl, _, _, rfl, rfl, _, rfl, ite2 (fun e => ?_) (fun e => ?_)⟩
    · refine ⟨_, rfl, r, k + 1, rfl, R1, by show _ < 1000000000; omega, fun H2 c o2 R2 ok => ⟨(by show 2 ≤ sizeLine; decide), fun p np => ?_⟩⟩
      exact q _ _ (.code c) ((o1.trans o2).sameTrans (same_upd np)) ((R2.same (same_upd np)).mono (by omega)) ⟨p, rfl, upd_same⟩ ok
    clear e
    refine ⟨_, rfl, rfl, _, rfl, ite2 (fun e => q _ _ .none o1 (R1.mono (by omega)) rfl True.intro) (fun e => ?_)⟩
    clear e
    refine ⟨fun σ' H' => σ' = [some (.ref r), some (.int i), some (.int n), some (.int g), some (.int way), none, none] ∧ H' = H1, ?_, ?_⟩
    · refine ⟨_, rfl, _, _, rfl, rfl, _, rfl, ite2 (fun e => ?_) (fun e => iteF ⟨rfl, rfl⟩)⟩
      refine ⟨_, rfl, _, _, rfl, rfl, _, rfl, ite2 (fun e => ?_) (fun e => ⟨rfl, rfl⟩)⟩
      have e0 : 0 < i := of_decide_eq_true e
      exact q _ _ .thr o1 (R1.mono (by omega)) rfl e0
    rintro σ' H1 ⟨rfl, rfl⟩
    refine ⟨fun σ' H' => σ' = [some (.ref r), some (.int i), some (.int n), some (.int g), some (.int way), none, none] ∧ H' = H1, ?_, ?_⟩
    · refine ⟨_, rfl, _, _, rfl, rfl, _, rfl, ite2 (fun e => ?_) (fun e => iteF ⟨rfl, rfl⟩)⟩
      refine ⟨_, rfl, _, _, rfl, rfl, _, rfl, ite2 (fun e => ?_) (fun e => ⟨rfl, rfl⟩)⟩
      have e0 : 1 < n := of_decide_eq_true e
      refine ⟨(by show 3 ≤ sizeLine; decide), fun M nM => ⟨_, rfl, r, 3, k + 1, rfl, by decide, by decide, by show _ < 1000000000; omega, R1.same (same_upd nM), fun d H2 d0 d1 R2 o2 => ?_⟩⟩
      have Mr : M ≠ r := by
        obtain ⟨_, _, _, hr2, _⟩ := id R1
        exact (ne_of_none hr2 nM).symm
      have hM := o2 _ _ (upd_same (H := H1) (a := M) (o := .lst (layWords.map V.str))) Mr
      obtain ⟨c, hc, hm⟩ := getW (ws := layWords) d0 d1
      refine ⟨M, _, d, .str c, rfl, rfl, SqL.of hM, hc, _, rfl, _, rfl, _, _, rfl, rfl, r, n - 1, k + 2, rfl, by omega, small40 (by omega), by show _ < 1000000000; omega, R2, fun j H3 j0 j1 R3 o3 => ⟨_, _, rfl, rfl, (by show 2 ≤ sizeLine; decide), fun p np => ?_⟩⟩
      exact q _ _ (.lay c (1 + j)) (((((o1.sameTrans (same_upd nM)).trans o2).trans o3)).sameTrans (same_upd np)) ((R3.same (same_upd np)).mono (by omega)) ⟨p, rfl, upd_same⟩ ⟨hm, by omega, by omega⟩
    rintro σ' H1 ⟨rfl, rfl⟩
    refine ⟨_, rfl, r, k + 1, rfl, R1, by show _ < 1000000000; omega, fun H2 c o2 R2 ok => ⟨(by show 2 ≤ sizeLine; decide), fun p np => ?_⟩⟩
    have h3 : holdOk (upd H2 p (.tup [.str "code", .str c])) n p := .inl ⟨c, upd_same, ok⟩
    have o3 : Off r H (upd H2 p (.tup [.str "code", .str c])) := (o1.trans o2).sameTrans (same_upd np)
    have R3 : Reel (upd H2 p (.tup [.str "code", .str c])) r (k + 1 + 20) := R2.same (same_upd np)
    refine (fun (G : ∀ H3, holdOk H3 n p → Off r H H3 → Reel H3 r (k + 1 + 20) → _) => G _ h3 o3 R3) (fun H3 h3 o3 R3 => ?_)
    refine ⟨fun σ' H' => ∃ b, σ' = [some (.ref r), some (.int i), some (.int n), some (.int g), some (.int way), some (.ref b), none] ∧ Off r H H' ∧ Reel H' r (k + 30) ∧ holdOk H' n b, ?_, ?_⟩
    · refine ⟨_, rfl, _, _, rfl, rfl, _, rfl, ite2 (fun e => ?_) (fun e => iteF ⟨p, rfl, o3, R3.mono (by omega), h3⟩)⟩
      have e0 : 1 < n := of_decide_eq_true e
      refine ⟨_, rfl, r, 3, k + 1 + 20, rfl, by decide, by decide, by show _ < 1000000000; omega, R3, fun d H4 d0 d1 R4 o4 => ⟨_, _, rfl, rfl, _, rfl, ite2 (fun e => ?_) (fun e => ⟨p, rfl, o3.trans o4, R4.mono (by omega), h3.keep (R3.tk o4)⟩)⟩⟩
      refine ⟨_, rfl, _, rfl, _, _, rfl, rfl, r, n - 1, k + 1 + 20 + 1, rfl, by omega, small40 (by omega), by show _ < 1000000000; omega, R4, fun j H5 j0 j1 R5 o5 => ⟨_, _, rfl, rfl, (by show 2 ≤ sizeLine; decide), fun p2 np2 => ?_⟩⟩
      exact ⟨p2, rfl, ((o3.trans o4).trans o5).sameTrans (same_upd np2), (R5.same (same_upd np2)).mono (by omega), .inr ⟨1 + j, upd_same, by omega, by omega⟩⟩
    rintro σ' H4 ⟨b, rfl, o4, R4, h4⟩
    have gm : ∀ x : Int, 0 < (if g < x then g else x) ∨ x ≤ 0 := fun x => by split <;> omega
    refine ⟨_, rfl, _, rfl, _, _, rfl, r, (if g < 4 then g else 4), k + 30, rfl, by split <;> omega, small40 (by split <;> omega), by show _ < 1000000000; omega, R4, fun t1 H5 a0 a1 R5 o5 => ⟨_, _, rfl, rfl, ?_⟩⟩
    refine ⟨_, rfl, _, rfl, r, g, k + 30 + 1, rfl, by omega, small40 hg2, by show _ < 1000000000; omega, R5, fun t2 H6 b0 b1 R6 o6 => ⟨_, _, rfl, rfl, _, rfl, (by show 3 ≤ sizeLine; decide), fun M nM => ?_⟩⟩
    refine ⟨_, rfl, r, 3, k + 30 + 1 + 1, rfl, by decide, by decide, by show _ < 1000000000; omega, R6.same (same_upd nM), fun d H7 d0 d1 R7 o7 => ?_⟩
    have Mr : M ≠ r := by
      obtain ⟨_, _, _, hr2, _⟩ := id R6
      exact (ne_of_none hr2 nM).symm
    have hM := o7 _ _ (upd_same (H := H6) (a := M) (o := .lst ([1 + t1, 1 + t2, g].map V.int))) Mr
    obtain ⟨t, ht, hm⟩ := getI (ns := [1 + t1, 1 + t2, g]) d0 d1
    have tb : 1 ≤ t ∧ t ≤ 1000000000 := by
      have hm' := List.mem_of_getElem? hm
      simp only [List.mem_cons, List.mem_nil_iff, or_false] at hm'
      have a1' : t1 < 4 := by
        revert a1
        split <;> omega
      have a2' : t1 < g := by
        revert a1
        split <;> omega
      omega
    refine ⟨M, _, d, .int t, rfl, rfl, SqL.of hM, ht, ?_⟩
    have o07 : Off r H H7 := (((o4.trans o5).trans o6).sameTrans (same_upd nM)).trans o7
    have h7 : holdOk H7 n b := (((h4.keep (R4.tk o5)).keep (R5.tk o6)).keep (Tk.of (same_upd nM))).keep ((R6.same (same_upd nM)).tk o7)
    refine ⟨_, rfl, r, k + 40, rfl, R7.mono (by omega), by show _ < 1000000000; omega, fun H8 c2 o8 R8 ok2 => ⟨_, rfl, _, rfl, (by show 3 ≤ sizeLine; decide), fun W nW => ?_⟩⟩
    refine ⟨_, rfl, r, 3, k + 40 + 20, rfl, by decide, by decide, by show _ < 1000000000; omega, R8.same (same_upd nW), fun d' H9 d0' d1' R9 o9 => ?_⟩
    have Wr : W ≠ r := by
      obtain ⟨_, _, _, hr2, _⟩ := id R8
      exact (ne_of_none hr2 nW).symm
    have hW := o9 _ _ (upd_same (H := H8) (a := W) (o := .lst (rules.map V.str))) Wr
    obtain ⟨u, hu, hmu⟩ := getW (ws := rules) d0' d1'
    refine ⟨W, _, d', .str u, rfl, rfl, SqL.of hW, hu, (by show 5 ≤ sizeLine; decide), fun z nz => ?_⟩
    have h9 : holdOk (upd H9 z (.tup [.str "dual", .str c2, .ref b, .int t, .str u])) n b := (((h7.keep (R7.tk o8)).keep (Tk.of (same_upd nW))).keep ((R8.same (same_upd nW)).tk o9)).keep (Tk.of (same_upd nz))
    have o10 : Off r H (upd H9 z (.tup [.str "dual", .str c2, .ref b, .int t, .str u])) := ((((o07.trans o8).sameTrans (same_upd nW)).trans o9)).sameTrans (same_upd nz)
    have R10 : Reel (upd H9 z (.tup [.str "dual", .str c2, .ref b, .int t, .str u])) r (k + 100) := (R9.same (same_upd nz)).mono (by omega)
    rcases h9 with ⟨y, hy, oky⟩ | ⟨y, hy, y1, y2⟩
    · exact q _ _ (.dualC c2 y t u) o10 R10 ⟨z, b, rfl, upd_same, hy⟩ ⟨ok2, oky, tb, hmu⟩
    · exact q _ _ (.dualL c2 y t u) o10 R10 ⟨z, b, rfl, upd_same, hy⟩ ⟨ok2, ⟨y1, y2⟩, tb, hmu⟩
end
end K15

set_option Elab.async false
set_option linter.all false
set_option maxRecDepth 100000
set_option maxHeartbeats 8000000
namespace K15
open PySem PySem.Spec PyProof.Rows L2 Gd Rm La Cb
theorem row_upd {H : Hp} {r p : Addr} {xs : List Actn} {ys zs : List V} (h : Row H r xs) (hp : H p = some (.lst ys)) (n : r ≠ p) : Row (upd H p (.lst zs)) r xs := by
  obtain ⟨vs, a, b⟩ := h
  exact ⟨vs, by rw [upd_ne n]; exact a, b.keep (tk_upd hp)⟩
theorem Rows.snoc {H : Hp} {rs : List Addr} {L : List (List Actn)} {r : Addr} {row : List Actn} (h : Rows H rs L) (hr : Row H r row) : Rows H (rs ++ [r]) (L ++ [row]) := by
  refine ⟨by rw [List.length_append, List.length_append, h.1]; rfl, fun i u y a b => ?_⟩
  have hl := h.1
  rcases Nat.lt_or_ge i rs.length with q | q
  · rw [List.getElem?_append_left q] at a
    rw [List.getElem?_append_left (by omega)] at b
    exact h.2 i u y a b
  · have hi : i = rs.length := by
      have := (List.getElem?_eq_some_iff.mp a).1
      rw [List.length_append] at this
      simp at this
      omega
    subst hi
    rw [List.getElem?_append_right (Nat.le_refl _), Nat.sub_self] at a
    rw [List.getElem?_append_right (by omega), show rs.length - L.length = 0 by omega] at b
    have e1 : r = u := Option.some.inj a
    have e2 : row = y := Option.some.inj b
    subst e1 e2
    exact hr
def FL (H0 : Hp) (D : Addr) (L : List (List Actn)) (H : Hp) : Prop := ∃ rs : List Addr, H D = some (.lst (rs.map V.ref)) ∧ Rows H rs L ∧ rs.Nodup ∧ ∀ r ∈ rs, H0 r = none ∧ r ≠ D
theorem FL.lay {H0 H : Hp} {D : Addr} {L : List (List Actn)} (h : FL H0 D L H) : Lay H D L := by
  obtain ⟨rs, a, b, _⟩ := h
  exact ⟨rs, a, b⟩
theorem row_off {H H' : Hp} {r p : Addr} {xs : List Actn} (h : Row H p xs) (n : p ≠ r) (o : Off r H H') (t : Tk H H') : Row H' p xs := by
  obtain ⟨vs, a, b⟩ := h
  exact ⟨vs, o _ _ a n, b.keep t⟩
theorem FL.more {H0 H1 H5 : Hp} {F M r : Addr} {L : List (List Actn)} {row : List Actn} {vs : List V} {oo : HO} (g : FL H0 F L H1) (nF : H0 F = none) (hr0 : H0 r = some oo) (fM : H0 M = none) (nM : H1 M = none) (o : Off r H1 H5) (t : Tk H1 H5)
    (hM : H5 M = some (.lst vs)) (ha : Acts H5 vs row) : ∃ acc : List V, H5 F = some (.lst acc) ∧ acc.length = L.length ∧ FL H0 F (L ++ [row]) (upd H5 F (.lst (acc ++ [.ref M]))) := by
  obtain ⟨rs, h, hR, nd, hn⟩ := g
  have Fr : F ≠ r := (ne_of_none hr0 nF).symm
  have FM : F ≠ M := ne_of_none h nM
  have h5 : H5 F = some (.lst (rs.map V.ref)) := o _ _ h Fr
  refine ⟨rs.map V.ref, h5, by rw [List.length_map]; exact hR.1, rs ++ [M], by rw [upd_same, List.map_append]; rfl, ?_, ?_, fun q hq => ?_⟩
  · refine Rows.snoc ⟨hR.1, fun i r' row' a b => row_upd (row_off (hR.2 i r' row' a b) ?_ o t) h5 (hn r' (List.mem_of_getElem? a)).2⟩ ⟨vs, by rw [upd_ne FM.symm]; exact hM, ha.keep (tk_upd h5)⟩
    exact (ne_of_none hr0 (hn r' (List.mem_of_getElem? a)).1).symm
  · refine List.nodup_append.mpr ⟨nd, List.nodup_cons.mpr ⟨by simp, List.nodup_nil⟩, fun a ha' b hb e => ?_⟩
    have hb : b = M := List.mem_singleton.mp hb
    subst hb
    subst e
    obtain ⟨i, hi⟩ := List.getElem?_of_mem ha'
    have hil := (List.getElem?_eq_some_iff.mp hi).1
    obtain ⟨vs', hv, _⟩ := hR.2 i a _ hi (List.getElem?_eq_getElem (by rw [← hR.1]; exact hil))
    rw [nM] at hv
    cases hv
  · rcases List.mem_append.mp hq with z | z
    · exact hn q z
    · rw [List.mem_singleton.mp z]; exact ⟨fM, FM.symm⟩
section
variable {P : Program} {w : World} {K : PySem.W.Frag} {mg : Str → Option Value} {base : Heap}
def spLLay : Sp := fun vs H Q _ => ∃ (r : Addr) (k n m : Nat) (g : Int), vs = [.ref r, .int (n : Int), .int (m : Int), .int g] ∧ Reel H r k ∧ k + 20000 < most ∧ 1 ≤ n ∧ n ≤ 6 ∧ 1 ≤ m ∧ m ≤ 16 ∧ 1 ≤ g ∧ g ≤ 1000000000 ∧
  ∀ (H' : Hp) (p : Addr) (L : List (List Actn)), Off r H H' → H p = none → Reel H' r (k + 10000) → FL H p L H' → LayOk L m → L.length = n → Q (.ref p) H'
theorem ok__law_layout (bt : Bt mg) (a : At K mg "_law_layout" s__law_layout ["_law_reel_here", "_law_layers", "_law_keys", "_law_longest"]) (c__law_action : Cl P w K mg base 3 "_law_action" spLAct) : Cl P w K mg base 4 "_law_layout" spLLay := by
  refine clG a sc__law_layout (fun vs H Q E h => ?_) (fun f cdv A outer s H vs Q hg hr h => ?_)
  · obtain ⟨r, k, n, m, g, rfl, _⟩ := h
    rfl
  · obtain ⟨r, k, n, m, g, rfl, hR, hk, n1, n6, m1, m16, g1, g2, q⟩ := h
    have hk : k + 20000 < 1000000000 := hk
    obtain ⟨_, _, _, hr0, _⟩ := id hR
    refine ⟨_, (pss_cons (ps_set (i := 4) sc__law_layout.nd rfl (Or.inl rfl) (pe_lst pa_nil))
      (pss_cons (ps_for PassesOwn.never rfl (pi_range1 (by rfl) bt.m_range (pa_cons (pv 1) pa_nil)) (pg_name (i := 5) sc__law_layout.nd rfl (Or.inr rfl)) (pss_one (ps_expr (pe_bm PySem.F.plainAttrs_list PySem.F.slot_list_append PySem.F.type_list_append mt_append (pv 4) (pa_cons (pe_lc (own := [("_law_key", 6)]) (g := (gName 6)) (by rfl) sc__law_layout.nd (pi_range1 (by rfl) bt.m_range (pa_cons (pv 2) pa_nil)) (blkOk_by (N := n__law_layout) (sc := defScope s__law_layout) (by decide +kernel)) (fun _ _ _ _ _ => (pg_name (i := 6) sc__law_layout.nd rfl (Or.inl rfl))) (fun _ _ _ _ _ => pts_nil) (fun _ _ _ _ _ => (pe_cl c__law_action hg hr (by decide) (by rfl) (pa_cons (pv 0) (pa_cons (pv 5) (pa_cons (pv 1) (pa_cons (pv 3) pa_nil))))))) pa_nil)))))
      (pss_one (ps_ret (pv 4))))), ?_⟩
    refine ⟨Nat.zero_le _, fun F nF => ?_⟩
    have fl0 : FL H F [] (upd H F (.lst [])) := ⟨[], upd_same, ⟨rfl, fun i r row h _ => by simp at h⟩, List.nodup_nil, fun r h => by simp at h⟩
    have Fr : F ≠ r := (ne_of_none hr0 nF).symm
    refine ⟨_, rfl, (n : Int), rfl, by omega, by omega, for_it walk_range (fun i σ H' => (∃ y5 y6, σ = [some (.ref r), some (.int (n : Int)), some (.int (m : Int)), some (.int g), some (.ref F), y5, y6]) ∧ Off r H H' ∧ Reel H' r (k + 1600 * i) ∧ ∃ L, FL H F L H' ∧ L.length = i ∧ (∀ row ∈ L, row.length = m) ∧ ∀ (i' : Nat) row, L[i']? = some row → ∀ x ∈ row, ActOk n i' x)
      ⟨⟨_, _, rfl⟩, Off.of (same_upd nF), hR.same (same_upd nF), [], fl0, rfl, fun row h => by simp at h, fun i' row h => by simp at h⟩ (fun _ _ _ _ _ => True.intro) (fun i x σ Hx H1 hi p y => ?_) (fun σ H1 p => ?_)⟩
    · obtain ⟨⟨y5, y6, rfl⟩, o1, R1, L, fl, hL, hlen, hok⟩ := p
      obtain ⟨rfl, hx⟩ := y
      have hx : x = .int (0 + (i : Int)) := hx
      have e0 : (0 : Int) + (i : Int) = (i : Int) := Int.zero_add _
      rw [e0] at hx
      subst hx
      have hi6 : i < 6 := by omega
      obtain ⟨rs, hF, _⟩ := id fl
      refine ⟨_, rfl, .inl ⟨rfl, _, SqL.of hF⟩, _, rfl, (m : Int), rfl, by omega, by omega, fun M nM => lc_it walk_range (fun j H' => Off r H1 H' ∧ Reel H' r (k + 1600 * i + 100 * j) ∧ ∃ vs xs, H' M = some (.lst vs) ∧ Acts H' vs xs ∧ xs.length = j ∧ ∀ x ∈ xs, ActOk n i x) ?_ (fun _ _ _ _ => True.intro) (fun j x Hx H2 hj p y => ?_) (fun H2 p => ?_)⟩
      · exact ⟨Off.of (same_upd nM), R1.same (same_upd nM), [], [], upd_same, Acts.nil, rfl, fun x h => by simp at h⟩
      · obtain ⟨o2, R2, vs, xs, hM, hA, hxl, hxo⟩ := p
        obtain ⟨rfl, rfl⟩ := y
        obtain ⟨_, _, _, hr1, _⟩ := id R1
        have Mr : M ≠ r := (ne_of_none hr1 nM).symm
        have hj16 : j < 16 := by omega
        refine ⟨rfl, ⟨_, rfl, _, rfl, _, rfl, _, rfl, r, k + 1600 * i + 100 * j, i, n, g, rfl, R2, by show _ < 1000000000; omega, by omega, by omega, by omega, g1, g2, fun H3 v x o3 R3 hv ok => ?_⟩⟩
        have hM3 := o3 _ _ hM Mr
        have hvl := hA.1
        refine ⟨vs, hM3, small1000 (by omega), (o2.trans o3).new nM, ?_, vs ++ [v], xs ++ [x], upd_same, ?_, by rw [List.length_append, hxl]; rfl, fun z hz => ?_⟩
        · obtain ⟨x, y, z, g, g'⟩ := R3
          exact ⟨x, y, z, by rw [upd_ne Mr.symm]; exact g, by have := g'; omega⟩
        · exact ((hA.keep (R2.tk o3)).snoc hv).keep (tk_upd hM3)
        · rcases List.mem_append.mp hz with q | q
          · exact hxo z q
          · rw [List.mem_singleton.mp q]; exact ok
      · obtain ⟨o2, R2, vs, xs, hM, hA, hxl, hxo⟩ := p
        obtain ⟨_, _, _, hr1, _⟩ := id R1
        obtain ⟨acc, hF2, hal, fl2⟩ := fl.more nF hr0 (o1.free hr1 nM) nM o2 (R1.tk o2) hM hA
        refine ⟨F, acc, .ref M, rfl, rfl, hF2, small1000 (by omega), ⟨_, _, rfl⟩, (o1.trans o2).new nF, ?_, L ++ [xs], fl2, by rw [List.length_append, hL]; rfl, fun row hrow => ?_, fun i' row hrow => ?_⟩
        · obtain ⟨x, y, z, g, g'⟩ := R2
          exact ⟨x, y, z, by rw [upd_ne Fr.symm]; exact g, by have := g'; omega⟩
        · rcases List.mem_append.mp hrow with z | z
          · exact hlen row z
          · rw [List.mem_singleton.mp z, hxl]; omega
        · rcases Nat.lt_or_ge i' L.length with z | z
          · rw [List.getElem?_append_left z] at hrow
            exact hok i' row hrow
          · have hi' : i' = L.length := by
              have := (List.getElem?_eq_some_iff.mp hrow).1
              rw [List.length_append] at this
              simp at this
              omega
            subst hi'
            rw [List.getElem?_append_right (Nat.le_refl _), Nat.sub_self] at hrow
            have e : xs = row := Option.some.inj hrow
            subst e
            rw [hL]
            exact hxo
    · obtain ⟨⟨y5, y6, rfl⟩, o1, R1, L, fl, hL, hlen, hok⟩ := p
      have hL : L.length = n := by omega
      refine ⟨_, rfl, q _ F L o1 nF (R1.mono (by omega)) fl ⟨by omega, by omega, m1, m16, hlen, ?_⟩ hL⟩
      rw [hL]
      exact hok
end
end K15

set_option Elab.async false
set_option linter.all false
set_option maxRecDepth 100000
set_option maxHeartbeats 8000000
namespace K15
open PySem PySem.Spec PyProof.Rows L2 Gd Rm La Cb Pl
theorem lk_ne {f g : Str} {v : V} {r : List (Str × V)} (h : f ≠ g) : ((g, v) :: r).lookup f = r.lookup f := by
  rw [List.lookup_cons, beq_false_of_ne h]
theorem lk_eq {f : Str} {v : V} {r : List (Str × V)} : ((f, v) :: r).lookup f = some v := by
  rw [List.lookup_cons, beq_self_eq_true]
theorem pf_ne {f g : Str} {x v : V} {r : List (Str × V)} (h : g ≠ f) : putF f v ((g, x) :: r) = (g, x) :: putF f v r := if_neg h
theorem pf_eq {f : Str} {x v : V} {r : List (Str × V)} : putF f v ((f, x) :: r) = (f, v) :: r := if_pos rfl
theorem flat_rep {v : V} (m : Nat) : (List.replicate m [v]).flatten = List.replicate m v := by
  induction m with
  | zero => rfl
  | succ m ih => rw [List.replicate_succ, List.flatten_cons, ih, List.replicate_succ]; rfl
def flds (c l : Addr) (o : Int) (d e : Addr) : List (Str × V) := [("layout", .ref c), ("locked", .ref l), ("once", .int o), ("bound", .ref d), ("pressed", .ref e)]
section
variable {c l d e : Addr} {o y : Int}
theorem f_lay : (flds c l o d e).lookup ("layout" : Str) = some (.ref c) := lk_eq
theorem f_lock : (flds c l o d e).lookup ("locked" : Str) = some (.ref l) := by
  unfold flds
  rw [lk_ne (by decide +kernel), lk_eq]
theorem f_once : (flds c l o d e).lookup ("once" : Str) = some (.int o) := by
  unfold flds
  rw [lk_ne (by decide +kernel), lk_ne (by decide +kernel), lk_eq]
theorem f_bound : (flds c l o d e).lookup ("bound" : Str) = some (.ref d) := by
  unfold flds
  rw [lk_ne (by decide +kernel), lk_ne (by decide +kernel), lk_ne (by decide +kernel), lk_eq]
theorem f_pressed : (flds c l o d e).lookup ("pressed" : Str) = some (.ref e) := by
  unfold flds
  rw [lk_ne (by decide +kernel), lk_ne (by decide +kernel), lk_ne (by decide +kernel), lk_ne (by decide +kernel), lk_eq]
def names5 : List Str := ["layout", "locked", "once", "bound", "pressed"]
theorem f_no {m : Str} (h : m ∉ names5) : (flds c l o d e).lookup m = none := by
  unfold names5 at h
  simp only [List.mem_cons, List.mem_nil_iff, or_false, not_or] at h
  unfold flds
  rw [lk_ne h.1, lk_ne h.2.1, lk_ne h.2.2.1, lk_ne h.2.2.2.1, lk_ne h.2.2.2.2]
  rfl
theorem f_put : putF "once" (.int y) (flds c l o d e) = flds c l y d e := by
  unfold flds
  rw [pf_ne (by decide +kernel), pf_ne (by decide +kernel), pf_eq]
theorem f_new : putF "pressed" (.ref e) (putF "bound" (.ref d) (putF "once" (.int o) (putF "locked" (.ref l) (putF "layout" (.ref c) [])))) = flds c l o d e := by
  show putF "pressed" (.ref e) (putF "bound" (.ref d) (putF "once" (.int o) (putF "locked" (.ref l) [("layout", .ref c)]))) = _
  rw [pf_ne (by decide +kernel)]
  show putF "pressed" (.ref e) (putF "bound" (.ref d) (putF "once" (.int o) [("layout", .ref c), ("locked", .ref l)])) = _
  rw [pf_ne (by decide +kernel), pf_ne (by decide +kernel)]
  show putF "pressed" (.ref e) (putF "bound" (.ref d) [("layout", .ref c), ("locked", .ref l), ("once", .int o)]) = _
  rw [pf_ne (by decide +kernel), pf_ne (by decide +kernel), pf_ne (by decide +kernel)]
  show putF "pressed" (.ref e) [("layout", .ref c), ("locked", .ref l), ("once", .int o), ("bound", .ref d)] = _
  rw [pf_ne (by decide +kernel), pf_ne (by decide +kernel), pf_ne (by decide +kernel), pf_ne (by decide +kernel)]
  rfl
end
/-- a player -/
structure PAt (C : Addr) (H : Hp) (p c l d e : Addr) (n : Nat) (s : Sm) : Prop where
  ob : ∃ dx, H p = some (.ins C dx (flds c l s.on d e))
  lk : H l = some (.lst (s.lk.map V.bl))
  bd : ∃ kvs, H d = some (.dK kvs) ∧ Bd H kvs s.bd
  pr : ∃ pvs : List (Key × V), H e = some (.dK pvs) ∧ pvs.length ≤ n ∧ (∀ q ∈ s.bd, ∀ x, q.2 = Actn.code x → ∃ z, valV pvs (Sum.inr x) = some (.int z)) ∧ (∀ k v, valV pvs k = some v → ∃ z, v = .int z)
  de : d ≠ e
theorem PAt.same {C : Addr} {H H' : Hp} {p c l d e : Addr} {n : Nat} {s : Sm} (h : PAt C H p c l d e n s) (t : Same H H') : PAt C H' p c l d e n s := by
  obtain ⟨⟨dx, a⟩, b, ⟨kvs, c1, c2⟩, ⟨pvs, d1, d2⟩, f⟩ := h
  exact ⟨⟨dx, t _ _ a⟩, t _ _ b, ⟨kvs, t _ _ c1, c2.keep (Tk.of t)⟩, ⟨pvs, t _ _ d1, d2⟩, f⟩
/-- what the walk asks of the class -/
structure Cp (K : PySem.W.Frag) (C : Addr) : Prop where
  cl : Cls K C
  n1 : NoAttr K C "layout"
  n2 : NoAttr K C "locked"
  n3 : NoAttr K C "once"
  n4 : NoAttr K C "bound"
  n5 : NoAttr K C "pressed"
theorem strOk_code {c : Str} (h : CodeOk c) : PyData.strOk c = true := by
  unfold PyData.strOk
  rw [← Array.all_toList, List.all_eq_true]
  have all : ∀ y ∈ signs.cps.toList, decide (y < 0x110000) = true := by decide +kernel
  exact fun y hy => all y (h.2.2 y hy)
theorem bd_lay {n : Int} {x : Actn} (h : BdOk n x) : PyData.canLay0 (actD x) = true ∧ PyData.depth (actD x) = 1 := by
  cases x with
  | code c => exact ⟨by simp [actD, PyData.canLay0, PyData.canLayAll0, strOk_code h, (by decide +kernel : PyData.strOk "code" = true)], rfl⟩
  | lay w j => 
    obtain ⟨rfl, _⟩ := h
    exact ⟨by simp [actD, PyData.canLay0, PyData.canLayAll0, (by decide +kernel : PyData.strOk "layer" = true)], rfl⟩
  | none => exact h.elim
  | thr => exact h.elim
  | dualC _ _ _ _ => exact h.elim
  | dualL _ _ _ _ => exact h.elim
theorem bds_lay {n : Int} : ∀ {bd : Bd0}, BdsOk n bd → PyData.canLayAll0 (bd.map fun q => actD q.2) = true ∧ PyData.depthAll (bd.map fun q => actD q.2) ≤ 1
  | [], _ => ⟨rfl, by decide⟩
  | q :: r, h => by
    obtain ⟨a, b⟩ := bds_lay (bd := r) fun p hp => h p (List.mem_cons_of_mem _ hp)
    obtain ⟨x, y⟩ := bd_lay (h q (List.mem_cons_self ..))
    refine ⟨?_, ?_⟩
    · show (PyData.canLay0 (actD q.2) && PyData.canLayAll0 (r.map fun q => actD q.2)) = true
      rw [x, a]; rfl
    · show max (PyData.depth (actD q.2)) (PyData.depthAll (r.map fun q => actD q.2)) ≤ 1
      omega
theorem shaped_bds {n : Int} {bd : Bd0} (h : BdsOk n bd) : SeqAt.shaped (.list (bd.map fun q => actD q.2)) = true := by
  obtain ⟨a, b⟩ := bds_lay h
  show (PyData.canLayAll0 _ && decide (PyData.depthAll _ + 1 ≤ 64)) = true
  rw [a, decide_eq_true (by omega)]; rfl
theorem shaped_layer (i : Int) : SeqAt.shaped (.tuple [.str "layer", .int i]) = true := by
  simp [SeqAt.shaped, PyData.canLay0, PyData.canLayAll0, PyData.depth, PyData.depthAll, (by decide +kernel : PyData.strOk "layer" = true)]
theorem eqv_layer (i : Int) {n : Int} {x : Actn} (h : BdOk n x) : PyData.eqv (actD x) (.tuple [.str "layer", .int i]) = isLay i x := by
  cases x with
  | code c =>
    have e : ((("code" : String) : Str) == (("layer" : String) : Str)) = false := by decide +kernel
    simp [actD, PyData.eqv, PyData.eqvAll, isLay, e]
  | lay w j =>
    obtain ⟨rfl, _⟩ := h
    simp [actD, PyData.eqv, PyData.eqvAll, isLay]
    by_cases z : j = i <;> simp [z]
  | none => exact h.elim
  | thr => exact h.elim
  | dualC _ _ _ _ => exact h.elim
  | dualL _ _ _ _ => exact h.elim
theorem any_layer (i : Int) {n : Int} : ∀ {bd : Bd0}, BdsOk n bd → ((bd.map fun q => actD q.2).any fun z => PyData.eqv z (.tuple [.str "layer", .int i])) = bd.any fun p => isLay i p.2
  | [], _ => rfl
  | q :: r, h => by
    rw [List.map_cons, List.any_cons, List.any_cons, any_layer i (bd := r) fun p hp => h p (List.mem_cons_of_mem _ hp), eqv_layer i (h q (List.mem_cons_self ..))]
section
variable {P : Program} {w : World} {K : PySem.W.Frag} {mg : Str → Option Value} {base : Heap}
def spPInit (C : Addr) : Sp := fun vs H Q _ => ∃ (p dx c : Addr) (xs : List V), vs = [.ref p, .ref c] ∧ H p = some (.ins C dx []) ∧ H c = some (.lst xs) ∧ xs.length ≤ 6 ∧
  ∀ (H' : Hp) (l d e : Addr), H l = none → H d = none → H e = none → PAt C H' p c l d e 0 (init xs.length) → (∀ b o, H b = some o → b ≠ p → H' b = some o) → Q .non H'
theorem ok_Player_init (bt : Bt mg) {C : Addr} (cp : Cp K C) {tk : Tok} (m_NO_LAYER : mg "NO_LAYER" = some (.int 0 tk)) (a : AtI K mg C "Player" "Player.__init__" s_Player_init ["self", "layout"]) : ClI P w K mg base 1 C "Player" (spPInit C) := by
  refine clIG a sc_Player_init (fun vs H Q E h => ?_) (fun f cdv A outer s H vs Q hg hr h => ?_)
  · obtain ⟨p, dx, c, xs, rfl, _⟩ := h
    rfl
  · obtain ⟨p, dx, c, xs, rfl, hp, hc, hl, q⟩ := h
    refine ⟨_, (pss_cons (ps_fld (pv 0) (pv 1) rfl)
      (pss_cons (ps_fld (pv 0) (pe_op op_rep (pe_lst (pa_cons pe_bl pa_nil)) (pe_callB call_len_seq (by rfl) bt.m_len (by decide +kernel) (pa_cons (pv 1) pa_nil))) rfl)
      (pss_cons (ps_fld (pv 0) (pe_glob (v := .int 0) (by rfl) m_NO_LAYER ⟨_, rfl⟩) rfl)
      (pss_cons (ps_fld (pv 0) pe_dnewK rfl)
      (pss_one (ps_fld (pv 0) pe_dnewK rfl)))))), ?_⟩
    refine ⟨_, rfl, _, rfl, p, C, dx, _, rfl, hp, cp.cl, cp.n1, (by show 0 < 1000; decide), ?_⟩
    have pc : c ≠ p := ne_of hc hp (by intro z; cases z)
    refine (fun (X : ∀ H1 : Hp, Off p H H1 → H1 p = some (.ins C dx (putF "layout" (.ref c) [])) → _) => X _ off_upd upd_same) (fun H1 o1 hp1 => ?_)
    have hc1 := o1 _ _ hc pc
    refine ⟨(by show 1 ≤ sizeLine; decide), fun A0 m0 => ⟨_, rfl, c, xs, rfl, .inl (SqL.of ((same_upd m0) _ _ hc1)), A0, _, _, rfl, rfl, upd_same, by omega, by omega, ?_, fun l m1 => ?_⟩⟩
    · show 1 * _ ≤ sizeLine
      rw [sizeLine_eq]
      omega
    have el : (List.replicate ((xs.length : Int)).toNat [V.bl false]).flatten = (List.replicate xs.length false).map V.bl := by
      rw [flat_rep, Int.toNat_natCast, List.map_replicate]
    rw [el]
    have k0 := same_upd (o := .lst [.bl false]) m0
    have k1 := same_upd (o := .lst ((List.replicate xs.length false).map V.bl)) m1
    have l1 : H1 l = none := k0.free m1
    refine (fun (X : ∀ H2 : Hp, Off p H H2 → H2 p = some (.ins C dx (putF "layout" (.ref c) [])) → H2 l = some (.lst ((List.replicate xs.length false).map V.bl)) → _) => X _ (o1.sameTrans (k0.trans k1)) ((k0.trans k1) _ _ hp1) upd_same) (fun H2 o2 hp2 hl2 => ?_)
    have l0 : H l = none := o1.free hp1 l1
    have lp : l ≠ p := fun z => by rw [z, hp] at l0; cases l0
    refine ⟨_, rfl, p, C, dx, _, rfl, hp2, cp.cl, cp.n2, (by show 1 < 1000; decide), ?_⟩
    refine ⟨_, rfl, p, C, dx, _, rfl, upd_same, cp.cl, cp.n3, ?_, ?_⟩
    · show (putF "locked" _ [(("layout" : Str), _)]).length < 1000
      rw [pf_ne (by decide +kernel)]
      show 2 < 1000
      decide
    refine (fun (X : ∀ H3 : Hp, Off p H H3 → H3 p = some (.ins C dx (putF "once" (.int 0) (putF "locked" (.ref l) (putF "layout" (.ref c) [])))) → H3 l = some (.lst ((List.replicate xs.length false).map V.bl)) → _) => X _ ((o2.trans off_upd).trans off_upd) upd_same (by rw [upd_ne lp, upd_ne lp]; exact hl2)) (fun H3 o3 hp3 hl3 d m2 => ?_)
    have k2 := same_upd (o := .dK []) m2
    have d0 : H d = none := o3.free hp3 m2
    refine ⟨_, rfl, p, C, dx, _, rfl, k2 _ _ hp3, cp.cl, cp.n4, ?_, ?_⟩
    · show (putF "once" _ (putF "locked" _ [(("layout" : Str), _)])).length < 1000
      rw [pf_ne (by decide +kernel)]
      show (putF "once" _ [(("layout" : Str), _), (("locked" : Str), _)]).length < 1000
      rw [pf_ne (by decide +kernel), pf_ne (by decide +kernel)]
      show 3 < 1000
      decide
    have dp : d ≠ p := fun z => by rw [z, hp] at d0; cases d0
    refine (fun (X : ∀ H4 : Hp, Off p H H4 → H4 p = some (.ins C dx (putF "bound" (.ref d) (putF "once" (.int 0) (putF "locked" (.ref l) (putF "layout" (.ref c) []))))) → H4 l = some (.lst ((List.replicate xs.length false).map V.bl)) → H4 d = some (.dK []) → _) => X _ ((o3.sameTrans k2).trans off_upd) upd_same (by rw [upd_ne lp]; exact k2 _ _ hl3) (by rw [upd_ne dp]; exact upd_same)) (fun H4 o4 hp4 hl4 hd4 e m3 => ?_)
    have k3 := same_upd (o := .dK []) m3
    have e0 : H e = none := o4.free hp4 m3
    have ep : e ≠ p := fun z => by rw [z, hp] at e0; cases e0
    have de : d ≠ e := ne_of_none hd4 m3
    refine ⟨_, rfl, p, C, dx, _, rfl, k3 _ _ hp4, cp.cl, cp.n5, ?_, ?_⟩
    · show (putF "bound" _ (putF "once" _ (putF "locked" _ [(("layout" : Str), _)]))).length < 1000
      rw [pf_ne (by decide +kernel)]
      show (putF "bound" _ (putF "once" _ [(("layout" : Str), _), (("locked" : Str), _)])).length < 1000
      rw [pf_ne (by decide +kernel), pf_ne (by decide +kernel)]
      show (putF "bound" _ [(("layout" : Str), _), (("locked" : Str), _), (("once" : Str), _)]).length < 1000
      rw [pf_ne (by decide +kernel), pf_ne (by decide +kernel), pf_ne (by decide +kernel)]
      show 4 < 1000
      decide
    refine q _ l d e l0 d0 e0 ⟨⟨dx, ?_⟩, by rw [upd_ne lp]; exact k3 _ _ hl4, ⟨[], by rw [upd_ne dp]; exact k3 _ _ hd4, .nil⟩, ⟨[], by rw [upd_ne ep]; exact upd_same, Nat.le_refl _, fun q hq => by simp [init] at hq, fun k v h => by cases h⟩, de⟩ ((o4.sameTrans k3).trans off_upd)
    rw [upd_same, f_new]
    rfl
end
end K15

set_option Elab.async false
set_option linter.all false
set_option maxRecDepth 100000
set_option maxHeartbeats 8000000
namespace K15
open PySem PySem.Spec PyProof.Rows L2 Gd Rm La Cb Pl
theorem eqI {a b : Int} {p : Bool} (h : decide (a = b) = p) : V.bl (decide (V.int a = V.int b)) = .bl p := by
  rw [← h]
  exact congrArg V.bl (by by_cases z : a = b <;> simp [z])
theorem eqS {a b : Str} {p : Bool} (h : decide (a = b) = p) : V.bl (decide (V.str a = V.str b)) = .bl p := by
  rw [← h]
  exact congrArg V.bl (by by_cases z : a = b <;> simp [z])
theorem shaped_act {n i : Int} {x : Actn} (h : ActOk n i x) : SeqAt.shaped (actD x) = true := by
  have w : ∀ c ∈ layWords ++ rules ++ (["none", "through", "code", "layer", "dual"].map Str.ofString), PyData.strOk c = true := by decide +kernel
  cases x with
  | none => decide +kernel
  | thr => decide +kernel
  | code c => simp [SeqAt.shaped, actD, PyData.canLay0, PyData.canLayAll0, PyData.depth, PyData.depthAll, w "code" (by decide +kernel), strOk_code h]
  | lay u j => simp [SeqAt.shaped, actD, PyData.canLay0, PyData.canLayAll0, PyData.depth, PyData.depthAll, w u (List.mem_append_left _ (List.mem_append_left _ h.1))]
  | dualC c d t r => simp [SeqAt.shaped, actD, PyData.canLay0, PyData.canLayAll0, PyData.depth, PyData.depthAll, w "code" (by decide +kernel), w "dual" (by decide +kernel), strOk_code h.1, strOk_code h.2.1, w r (List.mem_append_left _ (List.mem_append_right _ h.2.2.2))]
  | dualL c j t r => simp [SeqAt.shaped, actD, PyData.canLay0, PyData.canLayAll0, PyData.depth, PyData.depthAll, w "layer" (by decide +kernel), w "dual" (by decide +kernel), strOk_code h.1, w r (List.mem_append_left _ (List.mem_append_right _ h.2.2.2))]
theorem eqv_thr : ∀ x : Actn, PyData.eqv (actD x) (.str "through") = isThr x
  | .none => by decide +kernel
  | .thr => by decide +kernel
  | .code _ => rfl
  | .lay _ _ => rfl
  | .dualC _ _ _ _ => rfl
  | .dualL _ _ _ _ => rfl
theorem bl_at {bs : List Bool} {i : Nat} (h : i < bs.length) : (bs.map V.bl)[i]? = some (.bl (bs.getD i false)) := by
  rw [List.getElem?_map, List.getElem?_eq_getElem h, List.getD_eq_getElem?_getD, List.getElem?_eq_getElem h]; rfl
section
variable {P : Program} {w : World} {K : PySem.W.Frag} {mg : Str → Option Value} {base : Heap}
def spOn (C : Addr) : Sp := fun vs H Q _ => ∃ (p c l d e : Addr) (n : Nat) (s : Sm) (m : Int) (i : Nat), vs = [.ref p, .int (i : Int)] ∧ PAt C H p c l d e n s ∧ BdsOk m s.bd ∧ i < s.lk.length ∧ s.bd.length ≤ 1000 ∧ ∀ H', Same H H' → Q (.bl (onL s i)) H'
theorem ok_is_on (bt : Bt mg) {C : Addr} (cp : Cp K C) (a : AtM K C "is_on" "Player.is_on" s_is_on ["self", "layer"]) : ClM P w K mg base 1 C "is_on" (spOn C) := by
  refine clMG a sc_is_on (fun vs H Q E h => ?_) (fun f cdv A outer s H vs Q hg hr h => ?_)
  · obtain ⟨p, c, l, d, e, n, s, m, i, rfl, _⟩ := h
    rfl
  · obtain ⟨p, c, l, d, e, n, s, m, i, rfl, hP, hB, hi, hbl, q⟩ := h
    refine ⟨_, (pss_cons (ps_if (PW.pt (pw_or (pt_cmpR op_eq (pv 1) pe_int (nomark _)) (pw_or (pt_truth (pe_ix ix_list (pe_fld (pv 0) rfl) (pv 1) (fun _ _ => rfl)) (by intro _; rfl)) (pw_or1 (pt_cmpR op_eq (pe_fld (pv 0) rfl) (pv 1) (nomark _)))))) (pss_one (ps_ret pe_bl)) pss_nil)
      (pss_one (ps_ret (pe_cmpR (op_inD (room65 hr)) (pe_tup (pa_cons pe_str (pa_cons (pv 1) pa_nil))) (pe_listVals rfl (pe_fld (pv 0) rfl) (by rfl) bt.m_list (by decide +kernel)) (by rfl))))), ?_⟩
    obtain ⟨⟨dx, h1⟩, h2, ⟨kvs, h3, h3b⟩, _, _⟩ := id hP
    have e0 : decide ((i : Int) = 0) = decide (i = 0) := decide_eq_decide.mpr (by omega)
    refine ⟨_, rfl, rfl, _, eqI e0, ?_⟩
    cases hz : decide (i = 0) with
    | true =>
      refine iteT ?_
      have := q H (Same.refl _)
      unfold onL at this
      rw [hz] at this
      exact this
    | false =>
      refine iteF ⟨_, rfl, p, C, dx, _, _, rfl, h1, cp.cl, cp.n2, f_lock, _, rfl, l, _, (i : Int), _, rfl, rfl, SqL.of h2, atI_nat (bl_at hi), _, rfl, ?_⟩
      cases hk : s.lk.getD i false with
      | true =>
        refine iteT ?_
        have := q H (Same.refl _)
        unfold onL at this
        rw [hz, hk] at this
        exact this
      | false =>
        refine iteF ⟨_, rfl, p, C, dx, _, _, rfl, h1, cp.cl, cp.n3, f_once, _, rfl, rfl, _, eqI rfl, ?_⟩
        cases ho : decide (s.on = (i : Int)) with
        | true =>
          refine iteT ?_
          have := q H (Same.refl _)
          unfold onL at this
          rw [hz, hk, ho] at this
          exact this
        | false =>
          refine iteF ⟨_, rfl, (by show 2 ≤ sizeLine; decide), fun T nT => ?_⟩
          have k1 := same_upd (o := .tup [.str "layer", .int (i : Int)]) nT
          refine ⟨_, rfl, p, C, dx, _, _, rfl, k1 _ _ h1, cp.cl, cp.n4, f_bound, d, kvs, rfl, k1 _ _ h3, fun W nW => ?_⟩
          have k2 := same_upd (o := .lst (kvs.map (·.2))) nW
          refine ⟨.tuple [.str "layer", .int (i : Int)], _, .tup (SqT.of (k2 _ _ upd_same)) (.cons (.str _) (.cons (.int _) .nil)), .lst (SqL.of upd_same) (h3b.keep (Tk.of (k1.trans k2))).dp, shaped_layer _, shaped_bds hB, ?_⟩
          rw [any_layer (i : Int) hB]
          have := q _ (k1.trans k2)
          unfold onL at this
          rw [hz, hk, ho] at this
          exact this
def spTaken (C : Addr) : Sp := fun vs H Q _ => ∃ (p c l d e : Addr) (n : Nat) (s : Sm) (L : List (List Actn)) (m k : Nat), vs = [.ref p, .int (k : Int)] ∧ PAt C H p c l d e n s ∧ Lay H c L ∧ LayOk L m ∧ BdsOk L.length s.bd ∧ s.lk.length = L.length ∧ s.bd.length ≤ 1000 ∧ k < m ∧
  ∀ (H' : Hp) (T : Addr) (v : V), Same H H' → H' T = some (.tup [.int ((takenL L s k : Nat) : Int), v]) → ActV H' (actAt L (takenL L s k) k) v → Q (.ref T) H'
theorem actAt_eq {L : List (List Actn)} {i k : Nat} (hi : i < L.length) (hk : k < L[i].length) : actAt L i k = L[i][k] := by
  unfold actAt
  simp [List.getD_eq_getElem?_getD, hi, hk]
theorem filt_zero {L : List (List Actn)} {m : Nat} (hO : LayOk L m) (s : Sm) {k : Nat} (hk : k < m) : 0 ∈ filt L s k := by
  have n1 := hO.n1
  refine List.mem_filter.mpr ⟨List.mem_range.mpr (by omega), ?_⟩
  have ht : isThr (actAt L 0 k) = false := by
    have e : L[0]? = some L[0] := List.getElem?_eq_getElem (by omega)
    have hl : L[0].length = m := hO.len _ (List.getElem_mem _)
    have ok := hO.ok 0 _ e L[0][k] (List.getElem_mem _)
    rw [actAt_eq (by omega) (by omega)]
    cases hx : L[0][k] with
    | thr =>
      rw [hx] at ok
      exact absurd (show (0 : Int) < 0 from ok) (by decide)
    | _ => rfl
  rw [ht]
  simp [onL]
theorem filt_last {L : List (List Actn)} {s : Sm} {k : Nat} (h : filt L s k ≠ []) : takenL L s k ∈ filt L s k ∧ ∀ x ∈ filt L s k, x ≤ takenL L s k := by
  have pw : (filt L s k).Pairwise (· < ·) := List.Pairwise.filter _ List.pairwise_lt_range
  have e : (filt L s k).getLast? = some ((filt L s k).getLast h) := List.getLast?_eq_some_getLast h
  unfold takenL
  rw [e, Option.getD_some]
  refine ⟨List.getLast_mem h, fun x hx => ?_⟩
  have hs := List.dropLast_concat_getLast h
  rw [← hs] at hx pw
  rcases List.mem_append.mp hx with z | z
  · exact Nat.le_of_lt ((List.pairwise_append.mp pw).2.2 x z _ (List.mem_singleton.mpr rfl))
  · rw [List.mem_singleton.mp z]
    exact Nat.le_refl _
def pr (L : List (List Actn)) (s : Sm) (k : Nat) (i : Nat) : Bool := !isThr (actAt L i k) && onL s i
theorem ok_taken (bt : Bt mg) {C : Addr} (cp : Cp K C) (a : AtM K C "taken" "Player.taken" s_taken ["self", "key"]) (c_is_on : ClM P w K mg base 1 C "is_on" (spOn C)) : ClM P w K mg base 2 C "taken" (spTaken C) := by
  have cl_Player := cp.cl
  refine clMG a sc_taken (fun vs H Q E h => ?_) (fun f cdv A outer s H vs Q hg hr h => ?_)
  · obtain ⟨p, c, l, d, e, n, s, L, m, k, rfl, _⟩ := h
    rfl
  · obtain ⟨pp, c, l, d, e, n, s, L, m, k, rfl, hP, hL, hO, hB, hlk, hbl, hk, q⟩ := h
    refine ⟨_, (pss_cons (ps_set (i := 2) sc_taken.nd rfl (Or.inl rfl) (pe_callB (cr_max rfl) (by rfl) bt.m_max (by decide +kernel) (pa_cons (pe_lc (own := [("at", 3), ("actions", 4)]) (g := (gTup K 2 (gCons (gName 3) (gCons (gName 4) gNil)))) (by rfl) sc_taken.nd (pi_enum (by rfl) bt.m_enumerate (pa_cons (pe_fld (pv 0) rfl) pa_nil)) (blkOk_by (N := n_taken) (sc := defScope s_taken) (by decide +kernel)) (fun _ _ _ _ _ => (pg_tup rfl (pgs_cons (pg_name (i := 3) sc_taken.nd rfl (Or.inl rfl)) (pgs_cons (pg_name (i := 4) sc_taken.nd rfl (Or.inl rfl)) pgs_nil)))) (fun _ _ _ _ _ => (pts_one (PW.pt (pw_and (pt_cmpR (r := rNeD K) (op_neD hr.units) (pe_ix (r := rIxL K) ix_list (pv 4) (pv 1) (fun _ _ => rfl)) pe_str (nomark _)) (pw_and1 (pt_val (pe_clM c_is_on cl_Player hg hr (by decide) (pv 0) (pa_cons (pv 3) pa_nil)))))))) (fun _ _ _ _ _ => (pv 3))) pa_nil)))
      (pss_one (ps_ret (pe_tup (pa_cons (pv 2) (pa_cons (pe_ix ix_list (pe_ix ix_list (pe_fld (pv 0) rfl) (pv 2) (fun _ _ => rfl)) (pv 1) (fun _ _ => rfl)) pa_nil)))))), ?_⟩
    obtain ⟨⟨dx, h1⟩, h2, ⟨kvs, h3, h3b⟩, _, _⟩ := id hP
    obtain ⟨rs, hc, hR⟩ := id hL
    have n6 := hO.n6
    have hlen : (rs.map V.ref).length = L.length := by rw [List.length_map]; exact hR.1
    refine ⟨_, rfl, pp, C, dx, _, _, rfl, h1, cp.cl, cp.n1, f_lay, c, _, rfl, SqL.of hc, fun M nM => lc_it (walk_enum (xs := rs.map V.ref)) (fun i H' => Same H H' ∧ H' M = some (.lst ((((List.range i).filter (pr L s k)).map fun j : Nat => (j : Int)).map V.int))) ⟨same_upd nM, upd_same⟩
      (fun i H' _ p => SqL.of (p.1 _ _ hc)) (fun i x Hx H3 hi p y => ?_) (fun H3 p => ?_)⟩
    · obtain ⟨sx, hM⟩ := p
      obtain ⟨T, u, v, rfl, nT, rfl, e1, e2⟩ := y
      have hi' : i < L.length := by omega
      obtain ⟨r, hr1, vs, hvs, ha⟩ := hR.at_ hi'
      have e2' : v = .ref r := Option.some.inj (e2.symm.trans (get_map_ref hr1))
      subst e2'
      have e1' : u = .int (i : Nat) := (Option.some.inj e1).symm
      subst e1'
      have hml : L[i].length = m := hO.len _ (List.getElem_mem _)
      have hk' : k < L[i].length := by omega
      obtain ⟨vk, hvk, hak⟩ := ha.at_ hk'
      have s2 := sx.trans (same_upd (o := .tup [.int (i : Nat), .ref r]) nT)
      have act : ActOk L.length i L[i][k] := hO.ok i _ (List.getElem?_eq_getElem hi') _ (List.getElem_mem hk')
      have eA := actAt_eq hi' hk'
      have hM2 := (same_upd (o := .tup [.int (i : Nat), .ref r]) nT) _ _ hM
      have skip : ∀ H' : Hp, Same (upd Hx T (.tup [.int (i : Nat), .ref r])) H' → pr L s k i = false → Same H H' ∧ H' M = some (.lst ((((List.range (i + 1)).filter (pr L s k)).map fun j : Nat => (j : Int)).map V.int)) := fun H' s' e => ⟨s2.trans s', by
        rw [List.range_succ, List.filter_append, List.filter_cons_of_neg (by rw [e]; decide), List.filter_nil, List.append_nil]; exact s' _ _ hM2⟩
      refine ⟨T, _, rfl, SqT.of upd_same, rfl, _, _, rfl, _, _, rfl, rfl, ?_⟩
      refine ⟨rfl, _, rfl, _, rfl, r, vs, (k : Int), vk, rfl, rfl, SqL.of (s2 _ _ hvs), atI_nat hvk, _, _, (hak.keep (Tk.of s2)).dp, .str _, shaped_act act, by decide +kernel, !isThr L[i][k], by rw [eqv_thr], ?_⟩
      cases ht : isThr L[i][k] with
      | true => exact iteF (iteF (skip _ (Same.refl _) (by unfold pr; rw [eA, ht]; rfl)))
      | false =>
        refine iteT ⟨_, rfl, pp, dx, _, rfl, s2 _ _ h1, f_no (by decide +kernel), _, rfl, pp, c, l, d, e, n, s, (L.length : Int), i, rfl, hP.same s2, hB, by omega, hbl, fun H5 s5 => ⟨_, rfl, ?_⟩⟩
        cases ho : onL s i with
        | false => exact iteF (skip _ s5 (by unfold pr; rw [eA, ht, ho]; rfl))
        | true =>
          have pt : pr L s k i = true := by unfold pr; rw [eA, ht, ho]; rfl
          refine iteT ⟨_, rfl, _, s5 _ _ hM2, ?_, Same.off (s2.trans s5) nM off_upd, ?_⟩
          · rw [List.length_map, List.length_map]
            refine small1000 (Nat.le_trans (List.length_filter_le ..) ?_)
            rw [List.length_range]; omega
          · rw [upd_same, List.range_succ, List.filter_append, List.filter_cons_of_pos (by rw [pt]), List.filter_nil, List.map_append, List.map_append]
            rfl
    · obtain ⟨s3, hM⟩ := p
      rw [hlen] at hM
      have hM : H3 M = some (.lst (((filt L s k).map fun j : Nat => (j : Int)).map V.int)) := hM
      have z0 := filt_zero hO s hk
      have hne : filt L s k ≠ [] := fun z => by rw [z] at z0; cases z0
      obtain ⟨f1, f2⟩ := filt_last hne
      refine ⟨M, (filt L s k).map fun j : Nat => (j : Int), rfl, SqL.of hM, ?_, fun mx hm hmax => ?_⟩
      · rw [List.length_map]
        exact List.length_pos_iff.mpr hne
      have em : mx = ((takenL L s k : Nat) : Int) := by
        obtain ⟨j, hj, rfl⟩ := List.mem_map.mp hm
        have a1 := f2 j hj
        have a2 := hmax _ (List.mem_map.mpr ⟨_, f1, rfl⟩)
        omega
      subst em
      have ht : takenL L s k < L.length := List.mem_range.mp (List.mem_filter.mp f1).1
      obtain ⟨r, hr1, vs, hvs, ha⟩ := hR.at_ ht
      have hml : L[takenL L s k].length = m := hO.len _ (List.getElem_mem _)
      have hk' : k < L[takenL L s k].length := by omega
      obtain ⟨vk, hvk, hak⟩ := ha.at_ hk'
      refine ⟨_, rfl, _, rfl, pp, C, dx, _, _, rfl, s3 _ _ h1, cp.cl, cp.n1, f_lay, _, rfl, c, _, _, .ref r, rfl, rfl, SqL.of (s3 _ _ hc), atI_nat (get_map_ref hr1), _, rfl, r, vs, (k : Int), vk, rfl, rfl, SqL.of (s3 _ _ hvs), atI_nat hvk, (by show 2 ≤ sizeLine; decide), fun T nT => ?_⟩
      refine q _ T vk (s3.trans (same_upd nT)) upd_same ?_
      rw [actAt_eq ht hk']
      exact hak.keep (Tk.of (s3.trans (same_upd nT)))
end
end K15

set_option Elab.async false
set_option linter.all false
set_option maxRecDepth 100000
set_option maxHeartbeats 8000000
namespace K15
open PySem PySem.Spec PyProof.Rows L2 Gd Rm La Cb Pl
/-- only a player's own objects change -/
def Off4 (p l d e : Addr) (H H' : Hp) : Prop := ∀ b o, H b = some o → b ≠ p → b ≠ l → b ≠ d → b ≠ e → H' b = some o
theorem Off4.refl {p l d e : Addr} (H : Hp) : Off4 p l d e H H := fun _ _ h _ _ _ _ => h
theorem Off4.trans {p l d e : Addr} {H H1 H2 : Hp} (a : Off4 p l d e H H1) (b : Off4 p l d e H1 H2) : Off4 p l d e H H2 := fun x o h n1 n2 n3 n4 => b x o (a x o h n1 n2 n3 n4) n1 n2 n3 n4
theorem Off4.of {p l d e : Addr} {H H' : Hp} (s : Same H H') : Off4 p l d e H H' := fun b o h _ _ _ _ => s b o h
theorem Off4.upd {p l d e x : Addr} {H : Hp} {o : HO} (h : x = p ∨ x = l ∨ x = d ∨ x = e) : Off4 p l d e H (upd H x o) := fun b u hb n1 n2 n3 n4 => by
  rw [upd_ne (by rcases h with rfl | rfl | rfl | rfl <;> assumption)]
  exact hb
theorem PAt.tk {C : Addr} {H H' : Hp} {p c l d e : Addr} {n : Nat} {s : Sm} (h : PAt C H p c l d e n s) (o : Off4 p l d e H H') : Tk H H' := fun b xs hb => by
  obtain ⟨⟨dx, a⟩, b1, ⟨kvs, c1, _⟩, ⟨pvs, d1, _⟩, _⟩ := h
  exact o _ _ hb (ne_of hb a (by intro z; cases z)) (ne_of hb b1 (by intro z; cases z)) (ne_of hb c1 (by intro z; cases z)) (ne_of hb d1 (by intro z; cases z))
/-- what comes out of an event: nothing, a press, a release -/
inductive Outp where
  | no
  | pr (c : Str)
  | re (c : Str)
def outL : Outp → List V
  | .no => []
  | .pr c => [.str "press", .str c]
  | .re c => [.str "release", .str c]
def OutV (H : Hp) (o : Outp) (v : V) : Prop := ∃ T, v = .ref T ∧ H T = some (.tup (outL o))
def outP : Actn → Outp
  | .code c => .pr c
  | _ => .no
/-- what a down may do in the end -/
def DoOk (m : Nat) : Actn → Prop
  | .none => True
  | .code c => CodeOk c
  | .lay w j => w ∈ layWords ∧ 1 ≤ j ∧ j < m
  | _ => False
theorem DoOk.act {m : Nat} {x : Actn} (h : DoOk m x) : ActOk m 0 x := by
  cases x with
  | none => trivial
  | code c => exact h
  | lay w j => exact ⟨h.1, h.2.1, by have := h.2.2; omega⟩
  | thr => exact h.elim
  | dualC _ _ _ _ => exact h.elim
  | dualL _ _ _ _ => exact h.elim
def isNo : Actn → Bool
  | .none => true
  | _ => false
theorem eqv_no : ∀ x : Actn, PyData.eqv (actD x) (.str "none") = isNo x
  | .none => by decide +kernel
  | .thr => by decide +kernel
  | .code _ => rfl
  | .lay _ _ => rfl
  | .dualC _ _ _ _ => rfl
  | .dualL _ _ _ _ => rfl
theorem press_lay {s : Sm} {k : Int} {w : Str} {j : Int} : press s k (.lay w j) = if w = ("layer" : String) then { s with on := 0, bd := putB s.bd k (.lay w j) } else if w = ("lock" : String) then { s with on := 0, lk := s.lk.set j.toNat (!s.lk.getD j.toNat false) } else { s with on := j } := rfl
/-- how often the codes are down, by the outputs -/
def bump (cn : Str → Int) (o : Outp) : Str → Int := match o with
  | .no => cn
  | .pr c => fun y => if y = c then cn y + 1 else cn y
  | .re c => fun y => if y = c then cn y - 1 else cn y
def Pc (H : Hp) (e : Addr) (cn : Str → Int) : Prop := ∃ pvs : List (Key × V), H e = some (.dK pvs) ∧ (∀ y, (valV pvs (Sum.inr y)).getD (.int 0) = .int (cn y)) ∧ (∀ k v, valV pvs k = some v → ∃ y, k = Sum.inr y) ∧ (pvs.map (·.1)).Nodup
theorem Pc.to {H H' : Hp} {e : Addr} {cn : Str → Int} (h : Pc H e cn) (k : ∀ o, H e = some o → H' e = some o) : Pc H' e cn := by
  obtain ⟨pvs, a, b⟩ := h
  exact ⟨pvs, k _ a, b⟩
theorem Pc.put {H : Hp} {e : Addr} {cn : Str → Int} {pvs : List (Key × V)} {y : Str} {z z' : Int} (h : Pc H e cn) (he : H e = some (.dK pvs)) (hz : (valV pvs (Sum.inr y)).getD (.int 0) = .int z) (d : Int) (hd : z' = z + d) : Pc (upd H e (.dK (putK pvs (Sum.inr y) (.int z')))) e (fun x => if x = y then cn x + d else cn x) := by
  obtain ⟨pvs', a, b, c, nd⟩ := h
  cases HO.dK.inj (Option.some.inj (he.symm.trans a))
  refine ⟨_, upd_same, fun x => (show _ = V.int (if x = y then cn x + d else cn x) from ?_), fun k v hk => ?_, put_keys _ _ _ nd⟩
  · rw [valV_put]
    by_cases q : x = y
    · rw [if_pos (by rw [q]), if_pos q, q]
      have := hz.symm.trans (b y)
      rw [hd, V.int.inj this]
      rfl
    · rw [if_neg (fun w => q (Sum.inr.inj w)), if_neg q]
      exact b x
  · rw [valV_put] at hk
    by_cases q : k = Sum.inr y
    · exact ⟨y, q⟩
    · rw [if_neg q] at hk
      exact c k v hk
section
variable {P : Program} {w : World} {K : PySem.W.Frag} {mg : Str → Option Value} {base : Heap}
def spPress (C : Addr) : Sp := fun vs H Q _ => ∃ (p c l d e : Addr) (n : Nat) (s : Sm) (key : Int) (v : V) (x : Actn), vs = [.ref p, .int key, v] ∧ PAt C H p c l d e n s ∧ ActV H x v ∧ DoOk s.lk.length x ∧ s.lk.length ≤ 6 ∧ s.bd.length ≤ 500 ∧ n ≤ 500 ∧
  ∀ (H' : Hp) (o : V), PAt C H' p c l d e (n + 1) (press s key x) → Off4 p l d e H H' → OutV H' (outP x) o → (∀ cn, Pc H e cn → Pc H' e (bump cn (outP x))) → Q o H'
theorem ok_press (bt : Bt mg) {C : Addr} (cp : Cp K C) {tk : Tok} (m_NO_LAYER : mg "NO_LAYER" = some (.int 0 tk)) (a : AtM K C "press" "Player.press" s_press ["self", "key", "what"]) : ClM P w K mg base 1 C "press" (spPress C) := by
  refine clMG a sc_press (fun vs H Q E h => ?_) (fun f cdv A outer s H vs Q hg hr h => ?_)
  · obtain ⟨p, c, l, d, e, n, s, key, v, x, rfl, _⟩ := h
    rfl
  · obtain ⟨p, c, l, d, e, n, s, key, v, x, rfl, hP, hv, hx, h6, hbl, hn, q⟩ := h
    refine ⟨_, (pss_cons (ps_fld (pv 0) (pe_glob (v := .int 0) (by rfl) m_NO_LAYER ⟨_, rfl⟩) rfl)
      (pss_cons (ps_if (pt_cmpR (op_eqD hr.units) (pv 2) pe_str (nomark _)) (pss_one (ps_ret (pe_tup pa_nil))) pss_nil)
      (pss_cons (ps_asg (pv 2) (pg_tup rfl (pgs_cons (pg_name (i := 3) sc_press.nd rfl (Or.inl rfl)) (pgs_cons (pg_name (i := 4) sc_press.nd rfl (Or.inl rfl)) pgs_nil))))
      (pss_cons (ps_if (pt_cmpR op_eq (pv 3) pe_str (nomark _)) (pss_cons (ps_dput (hu_of hr) (pe_fld (pv 0) rfl) (pv 1) (pv 2) rfl)
      (pss_cons (ps_dput (hu_of hr) (pe_fld (pv 0) rfl) (pv 4) (pe_op op_add (pe_dget2 (hu_of hr) (pe_fld (pv 0) rfl) (pv 4) pe_int ⟨rfl, rfl, rfl, rfl⟩) pe_int) rfl)
      (pss_one (ps_ret (pe_tup (pa_cons pe_str (pa_cons (pv 4) pa_nil))))))) pss_nil)
      (C8.pss_cut (ps_if (pt_cmpR op_eq (pv 3) pe_str (nomark _)) (pss_one (ps_dput (hu_of hr) (pe_fld (pv 0) rfl) (pv 1) (pv 2) rfl)) (pss_one (ps_if (pt_cmpR op_eq (pv 3) pe_str (nomark _)) (pss_one (ps_asg (pe_not (pe_ix ix_list (pe_fld (pv 0) rfl) (pv 4) (fun _ _ => rfl))) (pg_sub (pe_fld (pv 0) rfl) (pv 4) set_list))) (pss_one (ps_fld (pv 0) (pv 4) rfl)))))
      (pss_one (ps_ret (pe_tup pa_nil)))))))), ?_⟩
    obtain ⟨⟨dx, h1⟩, h2, ⟨kvs, h3, h3b⟩, ⟨pvs, h4, h4n, h4c, h4i⟩, hde⟩ := id hP
    have pl : p ≠ l := ne_of h1 h2 (by intro z; cases z)
    have pd : p ≠ d := ne_of h1 h3 (by intro z; cases z)
    have pe : p ≠ e := ne_of h1 h4 (by intro z; cases z)
    have ld : l ≠ d := ne_of h2 h3 (by intro z; cases z)
    have le : l ≠ e := ne_of h2 h4 (by intro z; cases z)
    refine ⟨_, rfl, p, C, dx, _, rfl, h1, cp.cl, cp.n3, (by show 5 < 1000; decide), ?_⟩
    rw [f_put]
    have oA : Off4 p l d e H (upd H p (.ins C dx (flds c l 0 d e))) := Off4.upd (.inl rfl)
    have PA0 : PAt C (upd H p (.ins C dx (flds c l 0 d e))) p c l d e n { s with on := 0 } := ⟨⟨dx, upd_same⟩, by rw [upd_ne pl.symm]; exact h2, ⟨kvs, by rw [upd_ne pd.symm]; exact h3, h3b.keep (hP.tk oA)⟩, ⟨pvs, by rw [upd_ne pe.symm]; exact h4, h4n, h4c, h4i⟩, hde⟩
    refine (fun (X : ∀ H1 : Hp, Off4 p l d e H H1 → PAt C H1 p c l d e n { s with on := 0 } → (∀ cn, Pc H e cn → Pc H1 e cn) → _) => X _ oA PA0 (fun cn hh => hh.to fun o ho => by rw [upd_ne pe.symm]; exact ho)) (fun H1 oA PA0 pc1 => ?_)
    have hv1 := hv.keep (hP.tk oA)
    clear h1 h2 h3 h3b h4 h4n h4c h4i
    have hbl' : ({ s with on := 0 } : Sm).bd.length ≤ 500 := hbl
    obtain ⟨⟨dx, h1⟩, h2, ⟨kvs, h3, h3b⟩, ⟨pvs, h4, h4n, h4c, h4i⟩, _⟩ := id PA0
    refine ⟨_, rfl, _, _, hv1.dp, .str _, shaped_act hx.act, by decide +kernel, isNo x, congrArg V.bl (eqv_no x), ?_⟩
    have nothing : ∀ (H2 : Hp) (s' : Sm), press s key x = s' → outP x = .no → PAt C H2 p c l d e n s' → Off4 p l d e H H2 → (∀ cn, Pc H e cn → Pc H2 e cn) → ∀ T : Addr, H2 T = none → Q (.ref T) (upd H2 T (.tup [])) := fun H2 s' e1 e2 P2 o2 pc2 T nT => by
      obtain ⟨b1, b2, b3, ⟨b4, b5, b6, b7⟩, b8⟩ := P2.same (same_upd (o := .tup []) nT)
      exact q _ _ (by rw [e1]; exact ⟨b1, b2, b3, ⟨b4, b5, by omega, b7⟩, b8⟩) (o2.trans (Off4.of (same_upd nT))) (by rw [e2]; exact ⟨T, rfl, upd_same⟩) (fun cn hh => by rw [e2]; exact (pc2 cn hh).to fun o ho => (same_upd nT) _ _ ho)
    cases x with
    | none => exact iteT ⟨Nat.zero_le _, fun T nT => nothing H1 _ rfl rfl PA0 oA pc1 T nT⟩
    | thr => exact hx.elim
    | dualC _ _ _ _ => exact hx.elim
    | dualL _ _ _ _ => exact hx.elim
    | code y =>
      refine iteF ?_
      obtain ⟨a, rfl, ha⟩ := hv1
      refine ⟨_, rfl, a, _, rfl, SqT.of ha, rfl, _, _, rfl, _, _, rfl, rfl, ?_⟩
      refine ⟨_, rfl, rfl, true, rfl, iteT ?_⟩
      refine ⟨_, rfl, _, rfl, p, C, dx, _, _, rfl, h1, cp.cl, cp.n4, f_bound, _, rfl, d, _, rfl, DPut.k (k := Sum.inl key) h3 (small1000 (by have := h3b.length; omega)), ?_⟩
      have hkl : (putK kvs (Sum.inl key) (.ref a)).length ≤ 600 := by
        have := put_len kvs (Sum.inl key) (.ref a)
        have := h3b.length
        omega
      have h1' : upd H1 d (.dK (putK kvs (Sum.inl key) (.ref a))) p = some (.ins C dx (flds c l 0 d e)) := by rw [upd_ne pd]; exact h1
      have h4' : upd H1 d (.dK (putK kvs (Sum.inl key) (.ref a))) e = some (.dK pvs) := by rw [upd_ne hde.symm]; exact h4
      obtain ⟨z, hz⟩ : ∃ z, (valV pvs (Sum.inr y)).getD (.int 0) = .int z := by
        cases hh : valV pvs (Sum.inr y) with
        | none => exact ⟨0, rfl⟩
        | some v =>
          obtain ⟨z, rfl⟩ := h4i _ _ hh
          exact ⟨z, rfl⟩
      refine ⟨_, rfl, p, C, dx, _, _, rfl, h1', cp.cl, cp.n5, f_pressed, e, rfl, .inl ⟨pvs, .inl h4'⟩, _, rfl, _, DGet.k (k := Sum.inr y) h4', ?_⟩
      rw [hz]
      refine ⟨_, _, rfl, rfl, _, rfl, p, C, dx, _, _, rfl, h1', cp.cl, cp.n5, f_pressed, _, rfl, e, _, rfl, DPut.k (k := Sum.inr y) h4' (small1000 (by omega)), ?_⟩
      refine ⟨_, rfl, (by show 2 ≤ sizeLine; decide), fun T nT => ?_⟩
      have oB : Off4 p l d e H (upd (upd H1 d (.dK (putK kvs (Sum.inl key) (.ref a)))) e (.dK (putK pvs (Sum.inr y) (.int (z + 1))))) := oA.trans ((Off4.upd (.inr (.inr (.inl rfl)))).trans (Off4.upd (.inr (.inr (.inr rfl)))))
      have tB : Tk H1 (upd (upd H1 d (.dK (putK kvs (Sum.inl key) (.ref a)))) e (.dK (putK pvs (Sum.inr y) (.int (z + 1))))) := PA0.tk ((Off4.upd (.inr (.inr (.inl rfl)))).trans (Off4.upd (.inr (.inr (.inr rfl)))))
      have PB : PAt C (upd (upd H1 d (.dK (putK kvs (Sum.inl key) (.ref a)))) e (.dK (putK pvs (Sum.inr y) (.int (z + 1))))) p c l d e (n + 1) (press s key (.code y)) := by
        refine ⟨⟨dx, by rw [upd_ne pe, upd_ne pd]; exact h1⟩, by rw [upd_ne le, upd_ne ld]; exact h2, ⟨_, by rw [upd_ne hde]; exact upd_same, ?_⟩, ⟨_, upd_same, ?_, ?_, ?_⟩, hde⟩
        · exact (h3b.keep tB).put ⟨a, rfl, tB _ _ ha⟩
        · have := put_len pvs (Sum.inr y) (.int (z + 1)); omega
        · intro q' hq' x' hx'
          rw [valV_put]
          by_cases e1 : x' = y
          · rw [if_pos (by rw [e1])]; exact ⟨_, rfl⟩
          · rw [if_neg (fun zz => e1 (Sum.inr.inj zz))]
            rcases putB_mem hq' with h | h
            · exact h4c q' h x' hx'
            · rw [h] at hx'
              exact absurd (Actn.code.inj hx').symm e1
        · intro k v hk
          rw [valV_put] at hk
          by_cases e1 : k = Sum.inr y
          · rw [if_pos e1] at hk
            exact ⟨_, (Option.some.inj hk).symm⟩
          · rw [if_neg e1] at hk
            exact h4i k v hk
      exact q _ _ (PB.same (same_upd nT)) (oB.trans (Off4.of (same_upd nT))) ⟨T, rfl, upd_same⟩ (fun cn hh => (Pc.put ((pc1 cn hh).to fun o ho => by rw [upd_ne hde.symm]; exact ho) h4' hz 1 rfl).to fun o ho => (same_upd nT) _ _ ho)
    | lay u j =>
      refine iteF ?_
      obtain ⟨a, rfl, ha⟩ := hv1
      obtain ⟨x1, x2, x3⟩ := hx
      have hu : decide (u = (("code" : String) : Str)) = false := by
        refine decide_eq_false ?_
        rintro rfl
        revert x1
        decide +kernel
      refine ⟨_, rfl, a, _, rfl, SqT.of ha, rfl, _, _, rfl, _, _, rfl, rfl, ?_⟩
      refine ⟨_, rfl, rfl, false, eqS hu, iteF ?_⟩
      refine ⟨fun σ' H' => PAt C H' p c l d e n (press s key (.lay u j)) ∧ Off4 p l d e H H' ∧ ∀ cn, Pc H e cn → Pc H' e cn, ?_, ?_⟩
      · by_cases w1 : u = (("layer" : String) : Str)
        · refine ⟨_, rfl, rfl, true, eqS (decide_eq_true w1), iteT ?_⟩
          refine ⟨_, rfl, _, rfl, p, C, dx, _, _, rfl, h1, cp.cl, cp.n4, f_bound, _, rfl, d, _, rfl, DPut.k (k := Sum.inl key) h3 (small1000 (by have := h3b.length; omega)), ?_⟩
          have oB : Off4 p l d e H1 (upd H1 d (.dK (putK kvs (Sum.inl key) (.ref a)))) := Off4.upd (.inr (.inr (.inl rfl)))
          have tB := PA0.tk oB
          refine ⟨?_, oA.trans oB, fun cn hh => (pc1 cn hh).to fun o ho => by rw [upd_ne hde.symm]; exact ho⟩
          rw [press_lay, if_pos w1]
          refine ⟨⟨dx, by rw [upd_ne pd]; exact h1⟩, by rw [upd_ne ld]; exact h2, ⟨_, upd_same, (h3b.keep tB).put ⟨a, rfl, tB _ _ ha⟩⟩, ⟨pvs, by rw [upd_ne hde.symm]; exact h4, h4n, fun q' hq' x' hx' => ?_, h4i⟩, hde⟩
          rcases putB_mem hq' with h | h
          · exact h4c q' h x' hx'
          · rw [h] at hx'; cases hx'
        · refine ⟨_, rfl, rfl, false, eqS (decide_eq_false w1), iteF ?_⟩
          by_cases w2 : u = (("lock" : String) : Str)
          · refine ⟨_, rfl, rfl, true, eqS (decide_eq_true w2), iteT ?_⟩
            have hj : j = ((j.toNat : Nat) : Int) := by omega
            have hj' : j.toNat < s.lk.length := by omega
            have hix : ixN (s.lk.map V.bl).length j = some j.toNat := by
              rw [List.length_map]
              unfold ixN
              rw [if_pos (by omega), if_pos (by omega)]
            refine ⟨_, rfl, p, C, dx, _, _, rfl, h1, cp.cl, cp.n2, f_lock, _, rfl, l, _, j, _, rfl, rfl, SqL.of h2, (by rw [hj]; exact atI_nat (bl_at hj')), ?_⟩
            refine ⟨_, rfl, _, rfl, p, C, dx, _, _, rfl, h1, cp.cl, cp.n2, f_lock, _, rfl, l, _, j, j.toNat, rfl, rfl, h2, hix, ?_⟩
            have oB : Off4 p l d e H1 (upd H1 l (.lst ((s.lk.map V.bl).set j.toNat (.bl (!s.lk.getD j.toNat false))))) := Off4.upd (.inr (.inl rfl))
            have tB := PA0.tk oB
            refine ⟨?_, oA.trans oB, fun cn hh => (pc1 cn hh).to fun o ho => by rw [upd_ne le.symm]; exact ho⟩
            rw [press_lay, if_neg w1, if_pos w2]
            exact ⟨⟨dx, by rw [upd_ne pl]; exact h1⟩, by rw [upd_same, List.map_set], ⟨kvs, by rw [upd_ne ld.symm]; exact h3, h3b.keep tB⟩, ⟨pvs, by rw [upd_ne le.symm]; exact h4, h4n, h4c, h4i⟩, hde⟩
          · refine ⟨_, rfl, rfl, false, eqS (decide_eq_false w2), iteF ?_⟩
            refine ⟨_, rfl, _, rfl, p, C, dx, _, rfl, h1, cp.cl, cp.n3, (by show 5 < 1000; decide), ?_⟩
            rw [f_put]
            have oB : Off4 p l d e H1 (upd H1 p (.ins C dx (flds c l j d e))) := Off4.upd (.inl rfl)
            have tB := PA0.tk oB
            refine ⟨?_, oA.trans oB, fun cn hh => (pc1 cn hh).to fun o ho => by rw [upd_ne pe.symm]; exact ho⟩
            rw [press_lay, if_neg w1, if_neg w2]
            exact ⟨⟨dx, upd_same⟩, by rw [upd_ne pl.symm]; exact h2, ⟨kvs, by rw [upd_ne pd.symm]; exact h3, h3b.keep tB⟩, ⟨pvs, by rw [upd_ne pe.symm]; exact h4, h4n, h4c, h4i⟩, hde⟩
      · rintro σ' H2 ⟨P2, o2, pc2⟩
        exact ⟨Nat.zero_le _, fun T nT => nothing H2 _ rfl rfl P2 o2 pc2 T nT⟩
def relO (s : Sm) (key : Int) : Outp := match getB s.bd key with | some (.code c) => .re c | _ => .no
def spRelease (C : Addr) : Sp := fun vs H Q _ => ∃ (p c l d e : Addr) (n : Nat) (s : Sm) (m : Int) (key : Int), vs = [.ref p, .int key] ∧ PAt C H p c l d e n s ∧ BdsOk m s.bd ∧ n ≤ 500 ∧
  ∀ (H' : Hp) (o : V), PAt C H' p c l d e (n + 1) (release s key) → Off4 p l d e H H' → OutV H' (relO s key) o → (∀ cn, Pc H e cn → Pc H' e (bump cn (relO s key))) → Q o H'
theorem ok_release (bt : Bt mg) {C : Addr} (cp : Cp K C) {tk : Tok} (m_NO_LAYER : mg "NO_LAYER" = some (.int 0 tk)) (a : AtM K C "release" "Player.release" s_release ["self", "key"]) : ClM P w K mg base 1 C "release" (spRelease C) := by
  refine clMG a sc_release (fun vs H Q E h => ?_) (fun f cdv A outer s H vs Q hg hr h => ?_)
  · obtain ⟨p, c, l, d, e, n, s, m, key, rfl, _⟩ := h
    rfl
  · obtain ⟨p, c, l, d, e, n, s, m, key, rfl, hP, hB, hn, q⟩ := h
    refine ⟨_, (pss_cons (ps_asg (pe_dpop2 (pe_fld (pv 0) rfl) (pv 1) (pe_tup (pa_cons pe_str (pa_cons (pe_glob (v := .int 0) (by rfl) m_NO_LAYER ⟨_, rfl⟩) pa_nil))) ⟨rfl, rfl, rfl, rfl⟩) (pg_tup rfl (pgs_cons (pg_name (i := 2) sc_release.nd rfl (Or.inl rfl)) (pgs_cons (pg_name (i := 3) sc_release.nd rfl (Or.inl rfl)) pgs_nil))))
      (pss_cons (ps_if (pt_cmpR op_ne (pv 2) pe_str (nomark _)) (pss_one (ps_ret (pe_tup pa_nil))) pss_nil)
      (pss_cons (ps_dput (hu_of hr) (pe_fld (pv 0) rfl) (pv 3) (pe_op op_sub (pe_dget (hu_of hr) (pe_fld (pv 0) rfl) (pv 3) (fun _ _ => rfl)) pe_int) rfl)
      (pss_one (ps_ret (pe_tup (pa_cons pe_str (pa_cons (pv 3) pa_nil)))))))), ?_⟩
    obtain ⟨⟨dx, h1⟩, h2, ⟨kvs, h3, h3b⟩, ⟨pvs, h4, h4n, h4c, h4i⟩, hde⟩ := id hP
    have pl : p ≠ l := ne_of h1 h2 (by intro z; cases z)
    have pd : p ≠ d := ne_of h1 h3 (by intro z; cases z)
    have pe : p ≠ e := ne_of h1 h4 (by intro z; cases z)
    have ld : l ≠ d := ne_of h2 h3 (by intro z; cases z)
    have le : l ≠ e := ne_of h2 h4 (by intro z; cases z)
    refine ⟨_, rfl, p, C, dx, _, _, rfl, h1, cp.cl, cp.n4, f_bound, d, rfl, .inl ⟨kvs, .inl h3⟩, _, rfl, (by show 2 ≤ sizeLine; decide), fun T nT => ?_⟩
    have sT := same_upd (o := .tup [.str "none", .int 0]) nT
    have oT := Off4.of (p := p) (l := l) (d := d) (e := e) sT
    have PT := hP.same sT
    have hT := upd_same (H := H) (a := T) (o := .tup [.str "none", .int 0])
    refine (fun (X : ∀ H1 : Hp, PAt C H1 p c l d e n s → Off4 p l d e H H1 → H1 T = some (.tup [.str "none", .int 0]) → H1 d = some (.dK kvs) → (∀ cn, Pc H e cn → Pc H1 e cn) → _) => X _ PT oT hT (sT _ _ h3) (fun cn hh => hh.to fun o ho => sT _ _ ho)) (fun H1 P1 o1 hT h3 pc1 => ?_)
    clear h1 h2 h3b h4 h4n h4c h4i PT oT sT nT
    obtain ⟨⟨dx, h1⟩, h2, ⟨kvs', h3', h3b⟩, ⟨pvs, h4, h4n, h4c, h4i⟩, _⟩ := id P1
    cases HO.dK.inj (Option.some.inj (h3.symm.trans h3'))
    have dropped : release s key = { s with bd := dropB s.bd key } := rfl
    have PD : ∀ H2 : Hp, H2 = upd H1 d (.dK (dropK kvs (Sum.inl key))) → PAt C H2 p c l d e n (release s key) := fun H2 e2 => by
      subst e2
      have oB : Off4 p l d e H1 (upd H1 d (.dK (dropK kvs (Sum.inl key)))) := Off4.upd (.inr (.inr (.inl rfl)))
      exact ⟨⟨dx, by rw [upd_ne pd]; exact h1⟩, by rw [upd_ne ld]; exact h2, ⟨_, upd_same, (h3b.keep (P1.tk oB)).drop key⟩, ⟨pvs, by rw [upd_ne hde.symm]; exact h4, h4n, fun q' hq' => h4c q' (dropB_mem hq'), h4i⟩, hde⟩
    have nothing : ∀ (H2 : Hp), relO s key = .no → PAt C H2 p c l d e n (release s key) → Off4 p l d e H H2 → (∀ cn, Pc H e cn → Pc H2 e cn) → ∀ T : Addr, H2 T = none → Q (.ref T) (upd H2 T (.tup [])) := fun H2 e2 P2 o2 pc2 T nT => by
      obtain ⟨b1, b2, b3, ⟨b4, b5, b6, b7⟩, b8⟩ := P2.same (same_upd (o := .tup []) nT)
      exact q _ _ ⟨b1, b2, b3, ⟨b4, b5, by omega, b7⟩, b8⟩ (o2.trans (Off4.of (same_upd nT))) (by rw [e2]; exact ⟨T, rfl, upd_same⟩) (fun cn hh => by rw [e2]; exact (pc2 cn hh).to fun o ho => (same_upd nT) _ _ ho)
    refine ⟨kvs, Sum.inl key, h3, rfl, fun v hv => ?_, fun hv => ?_⟩
    · rcases h3b.get key with ⟨g1, _⟩ | ⟨v', x, g1, g2, g3⟩
      · rw [g1] at hv; cases hv
      rw [g1] at hv
      cases hv
      obtain ⟨q0, hq0, e1, e2⟩ := getB_mem g2
      have hbx := hB q0 hq0
      rw [e2] at hbx
      have oB : Off4 p l d e H1 (upd H1 d (.dK (dropK kvs (Sum.inl key)))) := Off4.upd (.inr (.inr (.inl rfl)))
      have tB := P1.tk oB
      cases x with
      | none => exact hbx.elim
      | thr => exact hbx.elim
      | dualC _ _ _ _ => exact hbx.elim
      | dualL _ _ _ _ => exact hbx.elim
      | lay u j =>
        obtain ⟨a, rfl, ha⟩ := g3
        obtain ⟨rfl, _⟩ := hbx
        refine ⟨a, _, rfl, SqT.of (tB _ _ ha), rfl, _, _, rfl, _, _, rfl, rfl, ?_⟩
        refine ⟨_, rfl, rfl, true, by decide +kernel, iteT ⟨Nat.zero_le _, fun T2 n2 => nothing _ (by unfold relO; rw [g2]) (PD _ rfl) (o1.trans oB) (fun cn hh => (pc1 cn hh).to fun o ho => by rw [upd_ne hde.symm]; exact ho) T2 n2⟩⟩
      | code y =>
        obtain ⟨a, rfl, ha⟩ := g3
        refine ⟨a, _, rfl, SqT.of (tB _ _ ha), rfl, _, _, rfl, _, _, rfl, rfl, ?_⟩
        refine ⟨_, rfl, rfl, false, by decide +kernel, iteF ?_⟩
        obtain ⟨z, hz⟩ := h4c q0 hq0 y e2
        have h1' : upd H1 d (.dK (dropK kvs (Sum.inl key))) p = some (.ins C dx (flds c l s.on d e)) := by rw [upd_ne pd]; exact h1
        have h4' : upd H1 d (.dK (dropK kvs (Sum.inl key))) e = some (.dK pvs) := by rw [upd_ne hde.symm]; exact h4
        refine ⟨_, rfl, p, C, dx, _, _, rfl, h1', cp.cl, cp.n5, f_pressed, _, rfl, e, _, rfl, (by have := DGet.k (k := (Sum.inr y : Key)) h4'; rw [hz] at this; exact this), ?_⟩
        refine ⟨_, _, rfl, rfl, _, rfl, p, C, dx, _, _, rfl, h1', cp.cl, cp.n5, f_pressed, _, rfl, e, _, rfl, DPut.k (k := Sum.inr y) h4' (small1000 (by omega)), ?_⟩
        refine ⟨_, rfl, (by show 2 ≤ sizeLine; decide), fun T2 n2 => ?_⟩
        have oC : Off4 p l d e (upd H1 d (.dK (dropK kvs (Sum.inl key)))) (upd (upd H1 d (.dK (dropK kvs (Sum.inl key)))) e (.dK (putK pvs (Sum.inr y) (.int (z - 1))))) := Off4.upd (.inr (.inr (.inr rfl)))
        have PE : PAt C (upd (upd H1 d (.dK (dropK kvs (Sum.inl key)))) e (.dK (putK pvs (Sum.inr y) (.int (z - 1))))) p c l d e (n + 1) (release s key) := by
          obtain ⟨b1, b2, ⟨k2, b3, b3'⟩, ⟨b4, b5, b6, b7⟩, b8⟩ := PD _ rfl
          refine ⟨⟨dx, by rw [upd_ne pe]; exact h1'⟩, by rw [upd_ne le, upd_ne ld]; exact h2, ⟨k2, by rw [upd_ne hde]; exact b3, b3'.keep ((PD _ rfl).tk oC)⟩, ⟨_, upd_same, ?_, ?_, ?_⟩, hde⟩
          · have := put_len pvs (Sum.inr y) (.int (z - 1)); omega
          · intro q' hq' x' hx'
            rw [valV_put]
            by_cases e1 : x' = y
            · rw [if_pos (by rw [e1])]; exact ⟨_, rfl⟩
            · rw [if_neg (fun zz => e1 (Sum.inr.inj zz))]
              exact h4c q' (dropB_mem hq') x' hx'
          · intro k v hk
            rw [valV_put] at hk
            by_cases e1 : k = Sum.inr y
            · rw [if_pos e1] at hk
              exact ⟨_, (Option.some.inj hk).symm⟩
            · rw [if_neg e1] at hk
              exact h4i k v hk
        exact q _ _ (PE.same (same_upd n2)) (((o1.trans oB).trans oC).trans (Off4.of (same_upd n2))) (by unfold relO; rw [g2]; exact ⟨T2, rfl, upd_same⟩) (fun cn hh => by unfold relO; rw [g2]; exact (Pc.put ((pc1 cn hh).to fun o ho => by rw [upd_ne hde.symm]; exact ho) h4' (by rw [hz]; rfl) (-1) rfl).to fun o ho => (same_upd n2) _ _ ho)
    · rcases h3b.get key with ⟨_, g2⟩ | ⟨v', x, g1, _⟩
      · have eb : release s key = s := by
          unfold Pl.release
          have : dropB s.bd key = s.bd := by
            unfold dropB
            rw [List.filter_eq_self]
            intro p' hp'
            unfold getB at g2
            rw [Option.map_eq_none_iff, List.find?_eq_none] at g2
            have := g2 p' hp'
            simpa using this
          rw [this]
        refine ⟨T, _, rfl, SqT.of hT, rfl, _, _, rfl, _, _, rfl, rfl, ?_⟩
        refine ⟨_, rfl, rfl, true, by decide +kernel, iteT ⟨Nat.zero_le _, fun T2 n2 => nothing H1 (by unfold relO; rw [g2]) (by rw [eb]; exact P1) o1 pc1 T2 n2⟩⟩
      · rw [g1] at hv; cases hv
end
end K15

set_option Elab.async false
set_option linter.all false
set_option maxRecDepth 100000
set_option maxHeartbeats 8000000
namespace K15
open PySem PySem.Spec PyProof.Rows L2 Gd Rm La Cb Pl
def optN : Option Nat → V
  | none => .non
  | some n => .int (n : Int)
theorem two {T G : Prop} (f : G → T) (g : G) : T := f g
theorem what_plain {x : Actn} : whatM x "plain" = x := if_pos rfl
theorem what_tap {x : Actn} : whatM x "tap" = tapOf x := by
  unfold whatM
  rw [if_neg (by decide +kernel), if_pos rfl]
theorem what_hold {x : Actn} : whatM x "hold" = holdOf x := by
  unfold whatM
  rw [if_neg (by decide +kernel), if_neg (by decide +kernel)]
section
variable {P : Program} {w : World} {K : PySem.W.Frag} {mg : Str → Option Value} {base : Heap}
def spWhat : Sp := fun vs H Q _ => ∃ (v : V) (x : Actn) (kind : Str), vs = [v, .str kind] ∧ ActV H x v ∧ (kind = ("plain" : String) ∨ (isDl x = true ∧ (kind = ("tap" : String) ∨ kind = ("hold" : String)))) ∧ ∀ H' v', Same H H' → ActV H' (whatM x kind) v' → Q v' H'
theorem ok_what_is_done (a : At K mg "what_is_done" s_what_is_done ["action", "kind"]) : Cl P w K mg base 1 "what_is_done" spWhat := by
  refine clG a sc_what_is_done (fun vs H Q E h => ?_) (fun f cdv A outer s H vs Q hg hr h => ?_)
  · obtain ⟨v, x, kind, rfl, _⟩ := h
    rfl
  · obtain ⟨v, x, kind, rfl, hv, hk, q⟩ := h
    refine ⟨_, (pss_cons (ps_if (pt_cmpR op_eq (pv 1) pe_str (nomark _)) (pss_one (ps_ret (pv 0))) pss_nil)
      (pss_cons (ps_if (pt_cmpR op_eq (pv 1) pe_str (nomark _)) (pss_one (ps_ret (pe_tup (pa_cons pe_str (pa_cons (pe_ix ix_tup (pv 0) pe_int (fun _ _ => rfl)) pa_nil))))) pss_nil)
      (pss_one (ps_ret (pe_ix ix_tup (pv 0) pe_int (fun _ _ => rfl)))))), ?_⟩
    rcases hk with rfl | ⟨hd, hk⟩
    · refine ⟨_, rfl, rfl, true, by decide +kernel, iteT ⟨_, rfl, q _ _ (Same.refl _) (by rw [what_plain]; exact hv)⟩⟩
    · have two : ∃ (a b : Addr) (c r : Str) (t : Int), v = .ref a ∧ H a = some (.tup [.str "dual", .str c, .ref b, .int t, .str r]) ∧ tapOf x = .code c ∧ ActV H (holdOf x) (.ref b) := by
        cases x with
        | dualC c d t r =>
          obtain ⟨a, b, e1, e2, e3⟩ := hv
          exact ⟨a, b, c, r, t, e1, e2, rfl, ⟨b, rfl, e3⟩⟩
        | dualL c j t r =>
          obtain ⟨a, b, e1, e2, e3⟩ := hv
          exact ⟨a, b, c, r, t, e1, e2, rfl, ⟨b, rfl, e3⟩⟩
        | _ => cases hd
      obtain ⟨a, b, c, r, t, rfl, ha, ht, hb⟩ := two
      rcases hk with rfl | rfl
      · refine ⟨_, rfl, rfl, false, by decide +kernel, iteF ⟨_, rfl, rfl, true, by decide +kernel, iteT ?_⟩⟩
        refine ⟨_, rfl, a, _, 1, .str c, rfl, rfl, SqT.of ha, atI_nat (j := 1) rfl, (by show 2 ≤ sizeLine; decide), fun T nT => ?_⟩
        exact q _ _ (same_upd nT) (by rw [what_tap, ht]; exact ⟨T, rfl, upd_same⟩)
      · refine ⟨_, rfl, rfl, false, by decide +kernel, iteF ⟨_, rfl, rfl, false, by decide +kernel, iteF ?_⟩⟩
        exact ⟨_, rfl, a, _, 2, .ref b, rfl, rfl, SqT.of ha, atI_nat (j := 2) rfl, q _ _ (Same.refl _) (by rw [what_hold]; exact hb)⟩
def spDec : Sp := fun vs H Q _ => ∃ (c : Addr) (es : List Ev) (i : Nat) (r : Str), vs = [.ref c, .int (i : Int), .str r] ∧ Lst evV H c es ∧ i < es.length ∧ es.length ≤ 400 ∧ ∀ H', Same H H' → Q (optN (decM es i r)) H'
theorem ok_deciding_event (bt : Bt mg) (a : At K mg "deciding_event" s_deciding_event ["record", "at", "rule"]) : Cl P w K mg base 1 "deciding_event" spDec := by
  refine clG a sc_deciding_event (fun vs H Q E h => ?_) (fun f cdv A outer s H vs Q hg hr h => ?_)
  · obtain ⟨c, es, i, r, rfl, _⟩ := h
    rfl
  · obtain ⟨c, es, i, r, rfl, hL, hi, h4, q⟩ := h
    refine ⟨_, (pss_cons (ps_set (i := 3) sc_deciding_event.nd rfl (Or.inl rfl) (pe_ix ix_tup (pe_ix ix_list (pv 0) (pv 1) (fun _ _ => rfl)) pe_int (fun _ _ => rfl)))
      (pss_cons (ps_set (i := 4) sc_deciding_event.nd rfl (Or.inl rfl) (pe_lst pa_nil))
      (pss_cons (ps_for PassesOwn.never rfl (pi_range2 (by rfl) bt.m_range (pa_cons (pe_op op_add (pv 1) pe_int) (pa_cons (pe_callB call_len_seq (by rfl) bt.m_len (by decide +kernel) (pa_cons (pv 0) pa_nil)) pa_nil))) (pg_name (i := 5) sc_deciding_event.nd rfl (Or.inl rfl)) (pss_cons (ps_asg (pe_ix ix_list (pv 0) (pv 5) (fun _ _ => rfl)) (pg_tup rfl (pgs_cons (pg_name (i := 6) sc_deciding_event.nd rfl (Or.inl rfl)) (pgs_cons (pg_name (i := 7) sc_deciding_event.nd rfl (Or.inl rfl)) (pgs_cons (pg_name (i := 8) sc_deciding_event.nd rfl (Or.inl rfl)) pgs_nil)))))
      (pss_cons (ps_if (PW.pt (pw_or (pt_cmpR op_eq (pv 7) (pv 3) (nomark _)) (pw_or1 (PW.pt (pw_and (pt_cmpR op_eq (pv 2) pe_str (nomark _)) (pw_and1 (pt_cmpR op_eq (pv 8) pe_str (nomark _)))))))) (pss_one (ps_ret (pv 5))) pss_nil)
      (pss_one (ps_if (pt_cmpR op_eq (pv 8) pe_str (nomark _)) (pss_one (ps_expr (pe_bm PySem.F.plainAttrs_list PySem.F.slot_list_append PySem.F.type_list_append mt_append (pv 4) (pa_cons (pv 7) pa_nil)))) (pss_one (ps_if (PW.pt (pw_and (pt_cmpR op_eq (pv 2) pe_str (nomark _)) (pw_and1 (pt_cmpR op_in_seq (pv 7) (pv 4) (by rfl))))) (pss_one (ps_ret (pv 5))) pss_nil)))))))
      (pss_one (ps_ret pe_non))))), ?_⟩
    obtain ⟨as, hc, hT⟩ := id hL
    have hlen : (as.map V.ref).length = es.length := by rw [List.length_map]; exact hT.1
    obtain ⟨b, hb, hbt⟩ := hT.at_ hi
    refine ⟨_, rfl, _, rfl, c, _, (i : Int), .ref b, rfl, rfl, SqL.of hc, atI_nat (get_map_ref hb), b, _, 1, _, rfl, rfl, SqT.of hbt, atI_nat (j := 1) rfl, Nat.zero_le _, fun I nI => ?_⟩
    have sI := same_upd (o := .lst []) nI
    refine ⟨_, rfl, _, _, rfl, rfl, _, rfl, c, _, rfl, .inl (SqL.of (sI _ _ hc)), ?_⟩
    have hcI := sI _ _ hc
    have inv0 : decM es i r = ((decEv es[i].k r [] (es.drop (i + 1 + 0))).map (· + 0)).map (· + (i + 1)) := by
      unfold decM
      rw [List.getD_eq_getElem?_getD, List.getElem?_eq_getElem hi, Option.getD_some, Nat.add_zero]
      cases decEv es[i].k r [] (es.drop (i + 1)) <;> rfl
    refine ⟨_, _, rfl, ⟨by omega, by omega, by omega, by omega⟩, for_it walk_range (fun j σ H' => ∃ (inner : List Int) (y5 y6 y7 y8 : Option V), σ = [some (.ref c), some (.int (i : Int)), some (.str r), some (.int es[i].k), some (.ref I), y5, y6, y7, y8] ∧ Same H H' ∧ H' I = some (.lst (inner.map V.int)) ∧ inner.length ≤ j ∧ decM es i r = ((decEv es[i].k r inner (es.drop (i + 1 + j))).map (· + j)).map (· + (i + 1)))
      ⟨[], _, _, _, _, rfl, sI, upd_same, Nat.le_refl _, inv0⟩ (fun _ _ _ _ _ => True.intro) (fun j x σ Hx H1 hj p y => ?_) (fun σ H1 p => ?_)⟩
    · obtain ⟨inner, y5, y6, y7, y8, rfl, s1, hI, hin, hd⟩ := p
      obtain ⟨rfl, rfl⟩ := y
      have hj' : i + 1 + j < es.length := by rw [hlen] at hj; omega
      have en : (i : Int) + 1 + (j : Int) = ((i + 1 + j : Nat) : Int) := by omega
      obtain ⟨b2, hb2, hbt2⟩ := hT.at_ hj'
      have hdr : es.drop (i + 1 + j) = es[i + 1 + j] :: es.drop (i + 1 + (j + 1)) := List.drop_eq_getElem_cons hj'
      rw [hdr] at hd
      refine ⟨_, rfl, _, rfl, c, _, _, .ref b2, rfl, rfl, SqL.of (s1 _ _ hc), (by rw [en]; exact atI_nat (get_map_ref hb2)), b2, _, rfl, SqT.of (s1 _ _ hbt2), rfl, _, _, rfl, _, _, rfl, _, _, rfl, rfl, ?_⟩
      have found : decEv es[i].k r inner (es[i + 1 + j] :: es.drop (i + 1 + (j + 1))) = some 0 → Q (.int ((i : Int) + 1 + (j : Int))) H1 := fun e => by
        have := q H1 s1
        rw [hd, e] at this
        rw [show (i : Int) + 1 + (j : Int) = ((0 + j + (i + 1) : Nat) : Int) by omega]
        exact this
      generalize he : es[i + 1 + j] = ev at *
      unfold decEv at hd found
      by_cases hc : ev.k = es[i].k ∨ r = (("other" : String) : Str) ∧ ev.d = true
      · replace found := found (if_pos hc)
        by_cases h1 : ev.k = es[i].k
        · exact ⟨_, rfl, _, rfl, rfl, true, eqI (decide_eq_true h1), iteT ⟨_, rfl, found⟩⟩
        · obtain ⟨h2, hdd⟩ := hc.resolve_left h1
          exact ⟨_, rfl, _, rfl, rfl, false, eqI (decide_eq_false h1), iteF ⟨_, rfl, rfl, true, eqS (decide_eq_true h2), iteT ⟨_, rfl, rfl, true, congrArg V.bl ((wayS_down ev.d).trans hdd), iteT ⟨_, rfl, found⟩⟩⟩⟩
      · have h1 : ¬ ev.k = es[i].k := fun z => hc (.inl z)
        rw [if_neg hc] at hd found
        refine ⟨_, rfl, _, rfl, rfl, false, eqI (decide_eq_false h1), iteF ?_⟩
        apply two
        · intro G
          by_cases h2 : r = (("other" : String) : Str)
          · have hdd : ev.d = false := by
              cases e : ev.d with
              | false => rfl
              | true => exact (hc (.inr ⟨h2, e⟩)).elim
            exact ⟨_, rfl, rfl, true, eqS (decide_eq_true h2), iteT ⟨_, rfl, rfl, false, congrArg V.bl ((wayS_down ev.d).trans hdd), iteF G⟩⟩
          · exact ⟨_, rfl, rfl, false, eqS (decide_eq_false h2), iteF (iteF G)⟩
        · refine ⟨_, rfl, rfl, ev.d, congrArg V.bl (wayS_down ev.d), ?_⟩
          cases hdd : ev.d with
          | true =>
            rw [hdd, if_pos rfl] at hd
            refine iteT ⟨_, rfl, .inl ⟨rfl, _, SqL.of hI⟩, _, rfl, I, _, .int ev.k, rfl, rfl, hI, small1000 (by rw [List.length_map]; omega), inner ++ [ev.k], _, _, _, _, rfl, Same.off s1 nI off_upd, by rw [upd_same, List.map_append]; rfl, by rw [List.length_append]; show _ + 1 ≤ _; omega, ?_⟩
            rw [hd]
            cases decEv es[i].k r (inner ++ [ev.k]) (es.drop (i + 1 + (j + 1))) with
            | none => rfl
            | some n => exact congrArg some (by show n + 1 + j + (i + 1) = n + (j + 1) + (i + 1); omega)
          | false =>
            rw [hdd, if_neg (by decide)] at hd found
            by_cases hc2 : r = (("within" : String) : Str) ∧ ev.k ∈ inner
            · exact iteF ⟨_, rfl, rfl, true, eqS (decide_eq_true hc2.1), iteT ⟨_, rfl, _, rfl, I, _, rfl, .inl (SqL.of hI), rfl, flat_ints inner, true, congrArg V.bl ((inv_int _ _).trans (decide_eq_true hc2.2)), iteT ⟨_, rfl, found (if_pos hc2)⟩⟩⟩
            · rw [if_neg hc2] at hd
              apply two
              · intro G
                by_cases h3 : r = (("within" : String) : Str)
                · have h4' : ¬ ev.k ∈ inner := fun z => hc2 ⟨h3, z⟩
                  exact iteF ⟨_, rfl, rfl, true, eqS (decide_eq_true h3), iteT ⟨_, rfl, _, rfl, I, _, rfl, .inl (SqL.of hI), rfl, flat_ints inner, false, congrArg V.bl ((inv_int _ _).trans (decide_eq_false h4')), iteF G⟩⟩
                · exact iteF ⟨_, rfl, rfl, false, eqS (decide_eq_false h3), iteF (iteF G)⟩
              · refine ⟨inner, _, _, _, _, rfl, s1, hI, by omega, ?_⟩
                rw [hd]
                cases decEv es[i].k r inner (es.drop (i + 1 + (j + 1))) with
                | none => rfl
                | some n => exact congrArg some (by show n + 1 + j + (i + 1) = n + (j + 1) + (i + 1); omega)
    · obtain ⟨inner, y5, y6, y7, y8, rfl, s1, hI, hin, hd⟩ := p
      rw [List.drop_of_length_le (by rw [hlen]; omega)] at hd
      unfold decEv at hd
      have := q H1 s1
      rw [hd] at this
      exact this
end
end K15

set_option Elab.async false
set_option linter.all false
set_option maxRecDepth 100000
set_option maxHeartbeats 8000000
namespace K15
open PySem PySem.Spec PyProof.Rows L2 Gd Rm La Cb Pl
theorem decEv_lt {own : Int} {r : Str} : ∀ {es : List Ev} {inner : List Int} {n : Nat}, decEv own r inner es = some n → n < es.length
  | [], _, _, h => by cases h
  | e :: es, inner, n, h => by
    rw [List.length_cons]
    unfold decEv at h
    have go : ∀ {l : List Int}, (decEv own r l es).map (· + 1) = some n → n < es.length + 1 := fun {l} h => by
      cases e : decEv own r l es with
      | none => rw [e] at h; cases h
      | some m =>
        rw [e] at h
        have := decEv_lt e
        have : m + 1 = n := Option.some.inj h
        omega
    split at h
    · cases h; omega
    · split at h
      · exact go h
      · split at h
        · cases h; omega
        · exact go h
theorem decM_lt {es : List Ev} {i n : Nat} {r : Str} (h : decM es i r = some n) : i < n ∧ n < es.length := by
  unfold decM at h
  cases e : decEv ((es.getD i ⟨0, 0, false⟩).k) r [] (es.drop (i + 1)) with
  | none => rw [e] at h; cases h
  | some m =>
    rw [e] at h
    have h1 := decEv_lt e
    rw [List.length_drop] at h1
    have : m + (i + 1) = n := Option.some.inj h
    omega
theorem sureM_lt {es : List Ev} {i n : Nat} {x : Actn} (h : sureM es i x = some n) : i < n ∧ n < es.length := by
  unfold sureM at h
  cases e : decM es i (ruleOf x) with
  | none => rw [e] at h; cases h
  | some m =>
    rw [e] at h
    dsimp only at h
    split at h
    · cases h
    · cases h; exact decM_lt e
theorem evAt_eq {es : List Ev} {i : Nat} (h : i < es.length) : evAt es i = es[i] := by
  unfold evAt
  rw [List.getD_eq_getElem?_getD, List.getElem?_eq_getElem h, Option.getD_some]
theorem dl_at {H : Hp} {x : Actn} {v : V} (h : ActV H x v) (d : isDl x = true) : ∃ (a b : Addr) (c : Str), v = .ref a ∧ H a = some (.tup [.str "dual", .str c, .ref b, .int (timeOf x), .str (ruleOf x)]) := by
  cases x with
  | dualC c d t r => obtain ⟨a, b, e, h1, _⟩ := h; exact ⟨a, b, c, e, h1⟩
  | dualL c d t r => obtain ⟨a, b, e, h1, _⟩ := h; exact ⟨a, b, c, e, h1⟩
  | _ => cases d
section
variable {P : Program} {w : World} {K : PySem.W.Frag} {mg : Str → Option Value} {base : Heap}
def spDual : Sp := fun vs H Q _ => ∃ (v : V) (x : Actn) (n i : Int), vs = [v] ∧ ActV H x v ∧ ActOk n i x ∧ Q (.bl (isDl x)) H
theorem ok_is_dual (bt : Bt mg) (a : At K mg "is_dual" s_is_dual ["action"]) : Cl P w K mg base 1 "is_dual" spDual := by
  refine clG a sc_is_dual (fun vs H Q E h => ?_) (fun f cdv A outer s H vs Q hg hr h => ?_)
  · obtain ⟨v, x, n, i, rfl, _⟩ := h
    rfl
  · obtain ⟨v, x, n, i, rfl, hv, hx, q⟩ := h
    refine ⟨_, (pss_one (ps_ret (pe_and (pe_callB call_isi (by rfl) bt.m_isinstance (by decide +kernel) (pa_cons (pv 0) (pa_cons (pe_bltn (v := .ty "tuple") (by rfl) bt.m_tuple (by decide +kernel) rfl) pa_nil))) (pe_one (pe_cmpR op_eq (pe_ix ix_tup (pv 0) pe_int (fun _ _ => rfl)) pe_str (nomark _)))))), ?_⟩
    have wd : ∀ (c : Str) (b : Bool), decide (c = (("dual" : String) : Str)) = b → Q (.bl b) H → Q (.bl (decide (V.str c = V.str "dual"))) H := fun c b e q => by
      have : decide (V.str c = V.str "dual") = b := by rw [← e]; by_cases z : c = (("dual" : String) : Str) <;> simp [z]
      rw [this]
      exact q
    cases x with
    | none =>
      cases hv
      exact ⟨_, rfl, _, _, _, _, false, rfl, .ty "tuple", .base (.str _), kit_ty (by decide +kernel), _, rfl, iteF q⟩
    | thr =>
      cases hv
      exact ⟨_, rfl, _, _, _, _, false, rfl, .ty "tuple", .base (.str _), kit_ty (by decide +kernel), _, rfl, iteF q⟩
    | code c =>
      obtain ⟨a, rfl, ha⟩ := hv
      exact ⟨_, rfl, _, _, _, _, true, rfl, .ty "tuple", .base (.tup ha), kit_ty (by decide +kernel), _, rfl, iteT ⟨_, rfl, a, _, 0, .str "code", rfl, rfl, SqT.of ha, atI_nat (j := 0) rfl, rfl, wd _ false (by decide +kernel) q⟩⟩
    | lay u j =>
      obtain ⟨a, rfl, ha⟩ := hv
      have hu : decide (u = (("dual" : String) : Str)) = false := by
        refine decide_eq_false ?_
        rintro rfl
        have := hx.1
        revert this
        decide +kernel
      exact ⟨_, rfl, _, _, _, _, true, rfl, .ty "tuple", .base (.tup ha), kit_ty (by decide +kernel), _, rfl, iteT ⟨_, rfl, a, _, 0, .str u, rfl, rfl, SqT.of ha, atI_nat (j := 0) rfl, rfl, wd _ false hu q⟩⟩
    | dualC c d t r =>
      obtain ⟨a, b, rfl, ha, hb⟩ := hv
      exact ⟨_, rfl, _, _, _, _, true, rfl, .ty "tuple", .base (.tup ha), kit_ty (by decide +kernel), _, rfl, iteT ⟨_, rfl, a, _, 0, .str "dual", rfl, rfl, SqT.of ha, atI_nat (j := 0) rfl, rfl, wd _ true (by decide +kernel) q⟩⟩
    | dualL c d t r =>
      obtain ⟨a, b, rfl, ha, hb⟩ := hv
      exact ⟨_, rfl, _, _, _, _, true, rfl, .ty "tuple", .base (.tup ha), kit_ty (by decide +kernel), _, rfl, iteT ⟨_, rfl, a, _, 0, .str "dual", rfl, rfl, SqT.of ha, atI_nat (j := 0) rfl, rfl, wd _ true (by decide +kernel) q⟩⟩
def spSure : Sp := fun vs H Q _ => ∃ (c : Addr) (es : List Ev) (i : Nat) (v : V) (x : Actn), vs = [.ref c, .int (i : Int), v] ∧ Lst evV H c es ∧ i < es.length ∧ es.length ≤ 400 ∧ ActV H x v ∧ isDl x = true ∧ ∀ H', Same H H' → Q (optN (sureM es i x)) H'
theorem ok_sure_event (bt : Bt mg) (a : At K mg "sure_event" s_sure_event ["record", "at", "dual"]) (c_deciding_event : Cl P w K mg base 1 "deciding_event" spDec) : Cl P w K mg base 2 "sure_event" spSure := by
  refine clG a sc_sure_event (fun vs H Q E h => ?_) (fun f cdv A outer s H vs Q hg hr h => ?_)
  · obtain ⟨c, es, i, v, x, rfl, _⟩ := h
    rfl
  · obtain ⟨c, es, i, v, x, rfl, hL, hi, h4, hv, hd, q⟩ := h
    refine ⟨_, (pss_cons (ps_set (i := 3) sc_sure_event.nd rfl (Or.inl rfl) (pe_cl c_deciding_event hg hr (by decide) (by rfl) (pa_cons (pv 0) (pa_cons (pv 1) (pa_cons (pe_ix ix_tup (pv 2) pe_int (fun _ _ => rfl)) pa_nil)))))
      (pss_cons (ps_if (PW.pt (pw_or (pt_cmpR op_isN (pv 3) pe_non (nomark _)) (pw_or1 (pt_cmpR op_ge (pe_ix ix_tup (pe_ix ix_list (pv 0) (pv 3) (fun _ _ => rfl)) pe_int (fun _ _ => rfl)) (pe_op op_add (pe_ix ix_tup (pe_ix ix_list (pv 0) (pv 1) (fun _ _ => rfl)) pe_int (fun _ _ => rfl)) (pe_ix ix_tup (pv 2) pe_int (fun _ _ => rfl))) (nomark _))))) (pss_one (ps_ret pe_non)) pss_nil)
      (pss_one (ps_ret (pv 3))))), ?_⟩
    obtain ⟨a, b, cc, rfl, ha⟩ := dl_at hv hd
    refine ⟨_, rfl, _, rfl, _, rfl, a, _, 4, _, rfl, rfl, SqT.of ha, atI_nat (j := 4) rfl, c, es, i, ruleOf x, rfl, hL, hi, h4, fun H1 s1 => ?_⟩
    have q1 := q H1 s1
    unfold sureM at q1
    cases e : decM es i (ruleOf x) with
    | none =>
      rw [e] at q1
      exact ⟨_, rfl, rfl, true, rfl, iteT q1⟩
    | some n =>
      rw [e] at q1
      dsimp only at q1
      obtain ⟨n1, n2⟩ := decM_lt e
      obtain ⟨as, hc, hT⟩ := id (hL.same s1)
      obtain ⟨bn, hbn, hbt⟩ := hT.at_ n2
      obtain ⟨bi, hbi, hbti⟩ := hT.at_ hi
      refine ⟨_, rfl, rfl, false, rfl, iteF ?_⟩
      refine ⟨_, rfl, _, rfl, c, _, _, .ref bn, rfl, rfl, SqL.of hc, atI_nat (get_map_ref hbn), bn, _, 0, _, rfl, rfl, SqT.of hbt, atI_nat (j := 0) rfl, ?_⟩
      refine ⟨_, rfl, _, rfl, c, _, _, .ref bi, rfl, rfl, SqL.of hc, atI_nat (get_map_ref hbi), bi, _, 0, _, rfl, rfl, SqT.of hbti, atI_nat (j := 0) rfl, ?_⟩
      refine ⟨_, rfl, a, _, 3, _, rfl, rfl, SqT.of (s1 _ _ ha), atI_nat (j := 3) rfl, ?_⟩
      rw [evAt_eq n2, evAt_eq hi] at q1
      refine ⟨_, _, rfl, rfl, _, _, rfl, rfl, _, rfl, ite2 (fun z => ?_) (fun z => ?_)⟩
      · rw [if_pos (of_decide_eq_true z)] at q1
        exact q1
      · rw [if_neg (fun y => z (decide_eq_true y))] at q1
        exact ⟨_, rfl, q1⟩
def spKind : Sp := fun vs H Q _ => ∃ (c : Addr) (es : List Ev) (i : Nat) (o : Option Nat), vs = [.ref c, .int (i : Int), optN o] ∧ Lst evV H c es ∧ i < es.length ∧ (∀ n, o = some n → n < es.length) ∧ ∀ H', Same H H' → Q (.str (if tapM es i o then "tap" else "hold")) H'
theorem ok_dual_kind (bt : Bt mg) (a : At K mg "dual_kind" s_dual_kind ["record", "at", "sure"]) : Cl P w K mg base 1 "dual_kind" spKind := by
  refine clG a sc_dual_kind (fun vs H Q E h => ?_) (fun f cdv A outer s H vs Q hg hr h => ?_)
  · obtain ⟨c, es, i, o, rfl, _⟩ := h
    rfl
  · obtain ⟨c, es, i, o, rfl, hL, hi, ho, q⟩ := h
    refine ⟨_, (pss_cons (ps_if (PW.pt (pw_and (pt_cmpR op_notN (pv 2) pe_non (nomark _)) (pw_and1 (pt_cmpR op_eq (pe_ix ix_tup (pe_ix ix_list (pv 0) (pv 2) (fun _ _ => rfl)) pe_int (fun _ _ => rfl)) (pe_ix ix_tup (pe_ix ix_list (pv 0) (pv 1) (fun _ _ => rfl)) pe_int (fun _ _ => rfl)) (nomark _))))) (pss_one (ps_ret pe_str)) pss_nil)
      (pss_one (ps_ret pe_str))), ?_⟩
    have q1 := q H (Same.refl _)
    cases o with
    | none => exact ⟨_, rfl, rfl, false, rfl, iteF (iteF q1)⟩
    | some n =>
      have n2 := ho n rfl
      obtain ⟨as, hc, hT⟩ := id hL
      obtain ⟨bn, hbn, hbt⟩ := hT.at_ n2
      obtain ⟨bi, hbi, hbti⟩ := hT.at_ hi
      refine ⟨_, rfl, rfl, true, rfl, iteT ?_⟩
      refine ⟨_, rfl, _, rfl, c, _, _, .ref bn, rfl, rfl, SqL.of hc, atI_nat (get_map_ref hbn), bn, _, 1, _, rfl, rfl, SqT.of hbt, atI_nat (j := 1) rfl, ?_⟩
      refine ⟨_, rfl, _, rfl, c, _, _, .ref bi, rfl, rfl, SqL.of hc, atI_nat (get_map_ref hbi), bi, _, 1, _, rfl, rfl, SqT.of hbti, atI_nat (j := 1) rfl, ?_⟩
      have et : tapM es i (some n) = decide (es[n].k = es[i].k) := by
        unfold tapM
        dsimp only
        rw [evAt_eq n2, evAt_eq hi]
      rw [et] at q1
      refine ⟨rfl, decide (es[n].k = es[i].k), eqI rfl, ?_⟩
      cases e : decide (es[n].k = es[i].k) with
      | true => rw [e] at q1; exact iteT q1
      | false => rw [e] at q1; exact iteF q1
end
end K15

set_option Elab.async false
set_option linter.all false
set_option maxRecDepth 100000
set_option maxHeartbeats 8000000
namespace K15
open PySem PySem.Spec PyProof.Rows L2 Gd Rm La Cb Pl
theorem none_back {H H' : Hp} (s : Same H H') {a : Addr} (h : H' a = none) : H a = none := by
  cases e : H a with
  | none => rfl
  | some o => rw [s _ _ e] at h; cases h
/-- what the state keeps between the events -/
structure St1 (L : List (List Actn)) (s : Sm) (i : Nat) : Prop where
  lk : s.lk.length = L.length
  bds : BdsOk L.length s.bd
  len : s.bd.length ≤ i
theorem St1.init {L : List (List Actn)} : St1 L (init L.length) 0 := ⟨List.length_replicate, fun p h => absurd h List.not_mem_nil, Nat.le_refl _⟩
theorem taken_ok {L : List (List Actn)} {m : Nat} (hO : LayOk L m) (s : Sm) {k : Nat} (hk : k < m) : takenL L s k < L.length ∧ ActOk L.length ((takenL L s k : Nat) : Int) (actAt L (takenL L s k) k) ∧ isThr (actAt L (takenL L s k) k) = false := by
  have hne : filt L s k ≠ [] := fun z => by
    have := filt_zero hO s hk
    rw [z] at this
    cases this
  have h1 := (filt_last hne).1
  obtain ⟨h2, h3⟩ := List.mem_filter.mp h1
  have hl : takenL L s k < L.length := List.mem_range.mp h2
  have hm : L[takenL L s k].length = m := hO.len _ (List.getElem_mem _)
  have e := actAt_eq hl (by omega : k < L[takenL L s k].length)
  refine ⟨hl, ?_, ?_⟩
  · rw [e]
    exact hO.ok _ _ (List.getElem?_eq_getElem hl) _ (List.getElem_mem _)
  · cases q : isThr (actAt L (takenL L s k) k) with
    | false => rfl
    | true => rw [q] at h3; cases h3
theorem what_do {n : Nat} {i : Int} {x : Actn} {es : List Ev} {j : Nat} (h : ActOk n i x) (ht : isThr x = false) : DoOk n (whatM x (kindM es j x)) := by
  cases x with
  | none => exact (show DoOk n (whatM .none "plain") from by rw [what_plain]; trivial)
  | thr => cases ht
  | code c => exact (show DoOk n (whatM (.code c) "plain") from by rw [what_plain]; exact h)
  | lay w j => exact (show DoOk n (whatM (.lay w j) "plain") from by rw [what_plain]; exact ⟨h.1, h.2.1, by have := h.2.2; omega⟩)
  | dualC c d t r =>
    show DoOk n (whatM _ (if tapM es j (sureM es j (.dualC c d t r)) then ("tap" : Str) else ("hold" : Str)))
    split
    · rw [what_tap]; exact h.1
    · rw [what_hold]; exact h.2.1
  | dualL c l t r =>
    show DoOk n (whatM _ (if tapM es j (sureM es j (.dualL c l t r)) then ("tap" : Str) else ("hold" : Str)))
    split
    · rw [what_tap]; exact h.1
    · rw [what_hold]; exact ⟨by decide +kernel, h.2.1.1, by have := h.2.1.2; omega⟩
theorem kind_or {es : List Ev} {j : Nat} {x : Actn} : kindM es j x = ("plain" : String) ∨ (isDl x = true ∧ (kindM es j x = ("tap" : String) ∨ kindM es j x = ("hold" : String))) := by
  unfold kindM
  by_cases h : isDl x = true
  · rw [if_pos h]
    refine .inr ⟨h, ?_⟩
    split
    · exact .inl rfl
    · exact .inr rfl
  · rw [if_neg h]; exact .inl rfl
theorem St1.press {L : List (List Actn)} {s : Sm} {i : Nat} (h : St1 L s i) (k : Int) {x : Actn} (hx : DoOk L.length x) : St1 L (press s k x) (i + 1) := by
  obtain ⟨h1, h2, h3⟩ := h
  cases x with
  | none => exact ⟨h1, h2, by show s.bd.length ≤ _; omega⟩
  | thr => exact hx.elim
  | dualC _ _ _ _ => exact hx.elim
  | dualL _ _ _ _ => exact hx.elim
  | code c =>
    refine ⟨h1, fun p hp => ?_, Nat.le_trans (putB_len ..) (by omega)⟩
    rcases putB_mem hp with q | q
    · exact h2 p q
    · rw [q]; exact hx
  | lay w j =>
    rw [press_lay]
    obtain ⟨x1, x2, x3⟩ := hx
    by_cases w1 : w = (("layer" : String) : Str)
    · rw [if_pos w1]
      refine ⟨h1, fun p hp => ?_, Nat.le_trans (putB_len ..) (by omega)⟩
      rcases putB_mem hp with q | q
      · exact h2 p q
      · rw [q]; exact ⟨w1, x2, by omega⟩
    · rw [if_neg w1]
      by_cases w2 : w = (("lock" : String) : Str)
      · rw [if_pos w2]; exact ⟨by rw [List.length_set]; exact h1, h2, by show s.bd.length ≤ _; omega⟩
      · rw [if_neg w2]; exact ⟨h1, h2, by show s.bd.length ≤ _; omega⟩
theorem St1.release {L : List (List Actn)} {s : Sm} {i : Nat} (h : St1 L s i) (k : Int) : St1 L (release s k) (i + 1) :=
  ⟨h.lk, fun p hp => h.bds p (dropB_mem hp), Nat.le_trans (dropB_len ..) (Nat.le_succ_of_le h.len)⟩
def xAt (L : List (List Actn)) (es : List Ev) (i : Nat) : Actn := actAt L (takenL L (runS L es i) (evAt es i).k.toNat) (evAt es i).k.toNat
def outM (L : List (List Actn)) (es : List Ev) (i : Nat) : Outp := if (evAt es i).d then outP (whatM (xAt L es i) (kindM es i (xAt L es i))) else relO (runS L es i) (evAt es i).k
theorem runS_dn {L : List (List Actn)} {es : List Ev} {i : Nat} (h : (evAt es i).d = true) : runS L es (i + 1) = press (runS L es i) (evAt es i).k (whatM (xAt L es i) (kindM es i (xAt L es i))) := by
  show stepS L es i (runS L es i) = _
  unfold stepS xAt
  rw [if_pos h]
theorem runS_up {L : List (List Actn)} {es : List Ev} {i : Nat} (h : (evAt es i).d = false) : runS L es (i + 1) = release (runS L es i) (evAt es i).k := by
  show stepS L es i (runS L es i) = _
  unfold stepS
  rw [if_neg (by rw [h]; decide)]
theorem runT_dn {L : List (List Actn)} {es : List Ev} {i : Nat} (h : (evAt es i).d = true) : runT L es i = .dn (takenL L (runS L es i) (evAt es i).k.toNat) (kindM es i (xAt L es i)) (whatM (xAt L es i) (kindM es i (xAt L es i))) (if isDl (xAt L es i) then sureM es i (xAt L es i) else none) := by
  unfold runT stepT xAt
  rw [if_pos h]
theorem runT_up {L : List (List Actn)} {es : List Ev} {i : Nat} (h : (evAt es i).d = false) : runT L es i = .up := by
  unfold runT stepT
  rw [if_neg (by rw [h]; decide)]
theorem runS_ok {L : List (List Actn)} {es : List Ev} {m : Nat} (hO : LayOk L m) (hV : Valid es) (hk : ∀ e ∈ es, e.k < (m : Int)) : ∀ i, i ≤ es.length → St1 L (runS L es i) i
  | 0, _ => St1.init
  | i + 1, hi => by
    have ih := runS_ok hO hV hk i (by omega)
    have hi' : i < es.length := by omega
    have e := evAt_eq hi'
    cases hd : (evAt es i).d with
    | true =>
      rw [runS_dn hd]
      have k0 := (hV i _ (List.getElem?_eq_getElem hi')).1
      have k1 := hk _ (List.getElem_mem hi')
      obtain ⟨_, t2, t3⟩ := taken_ok hO (runS L es i) (k := (evAt es i).k.toNat) (by rw [e]; omega)
      exact ih.press _ (what_do t2 t3)
    | false => rw [runS_up hd]; exact ih.release _
/-- what was told of an event -/
def TdV (H : Hp) (t : Td) (mv sv : V) : Prop := match t with
  | .up => mv = .non ∧ sv = .non
  | .dn l kind what sure => sv = optN sure ∧ ∃ M v, mv = .ref M ∧ H M = some (.tup [.int (l : Int), .str kind, v]) ∧ ActV H what v
def ToldV (H : Hp) (L : List (List Actn)) (es : List Ev) (i : Nat) (T : Addr) : Prop := ∃ mv sv ov, H T = some (.tup [mv, sv, ov]) ∧ TdV H (runT L es i) mv sv ∧ OutV H (outM L es i) ov
theorem TdV.keep {H H' : Hp} {t : Td} {mv sv : V} (h : TdV H t mv sv) (k : Tk H H') : TdV H' t mv sv := by
  cases t with
  | up => exact h
  | dn l kind what sure =>
    obtain ⟨h1, M, v, h2, h3, h4⟩ := h
    exact ⟨h1, M, v, h2, k _ _ h3, h4.keep k⟩
theorem OutV.keep {H H' : Hp} {o : Outp} {v : V} (h : OutV H o v) (k : Tk H H') : OutV H' o v := by
  obtain ⟨T, e, h1⟩ := h
  exact ⟨T, e, k _ _ h1⟩
theorem ToldV.keep {H H' : Hp} {L : List (List Actn)} {es : List Ev} {i : Nat} {T : Addr} (h : ToldV H L es i T) (k : Tk H H') : ToldV H' L es i T := by
  obtain ⟨mv, sv, ov, h1, h2, h3⟩ := h
  exact ⟨mv, sv, ov, k _ _ h1, h2.keep k, h3.keep k⟩
def Tolds (H : Hp) (L : List (List Actn)) (es : List Ev) (W : Addr) (n : Nat) : Prop := ∃ Ts : List Addr, H W = some (.lst (Ts.map V.ref)) ∧ Ts.length = n ∧ ∀ j T, Ts[j]? = some T → ToldV H L es j T
theorem Tolds.off {H H' : Hp} {L : List (List Actn)} {es : List Ev} {W p l d e : Addr} {n : Nat} (h : Tolds H L es W n) (o : Off4 p l d e H H') (k : Tk H H') (w1 : W ≠ p) (w2 : W ≠ l) (w3 : W ≠ d) (w4 : W ≠ e) : Tolds H' L es W n := by
  obtain ⟨Ts, h1, h2, h3⟩ := h
  exact ⟨Ts, o _ _ h1 w1 w2 w3 w4, h2, fun j T x => (h3 j T x).keep k⟩
theorem Tolds.add {H : Hp} {L : List (List Actn)} {es : List Ev} {W T : Addr} {n : Nat} {Ts : List Addr} (h1 : H W = some (.lst (Ts.map V.ref))) (h2 : Ts.length = n) (h3 : ∀ j T, Ts[j]? = some T → ToldV H L es j T) (hT : ToldV H L es n T) : Tolds (upd H W (.lst (Ts.map V.ref ++ [.ref T]))) L es W (n + 1) := by
  refine ⟨Ts ++ [T], by rw [upd_same, List.map_append]; rfl, by rw [List.length_append, h2]; rfl, fun j U x => ?_⟩
  have tk : Tk H (upd H W (.lst (Ts.map V.ref ++ [.ref T]))) := tk_upd h1
  rcases Nat.lt_or_ge j Ts.length with q | q
  · rw [List.getElem?_append_left q] at x
    exact (h3 j U x).keep tk
  · rw [List.getElem?_append_right q] at x
    have : j - Ts.length = 0 := by
      have := (List.getElem?_eq_some_iff.mp x).1
      simpa using this
    rw [this] at x
    have e : T = U := Option.some.inj x
    have e2 : j = n := by omega
    rw [← e, e2]
    exact hT.keep tk
theorem wayS_up (d : Bool) : decide (V.str (wayS d) = V.str "up") = !d := by cases d <;> decide +kernel
end K15

set_option Elab.async false
set_option linter.all false
set_option maxRecDepth 100000
set_option maxHeartbeats 8000000
namespace K15
open PySem PySem.Spec PyProof.Rows L2 Gd Rm La Cb Pl
theorem PAt.updW {C : Addr} {H : Hp} {p c l d e W : Addr} {n : Nat} {s : Sm} {xs ys : List V} (h : PAt C H p c l d e n s) (hW : H W = some (.lst xs)) (w1 : W ≠ p) (w2 : W ≠ l) (w3 : W ≠ d) (w4 : W ≠ e) : PAt C (upd H W (.lst ys)) p c l d e n s := by
  obtain ⟨⟨dx, h1⟩, h2, ⟨kvs, h3, h3b⟩, ⟨pvs, h4, h4b⟩, h5⟩ := h
  exact ⟨⟨dx, by rw [upd_ne (Ne.symm w1)]; exact h1⟩, by rw [upd_ne (Ne.symm w2)]; exact h2, ⟨kvs, by rw [upd_ne (Ne.symm w3)]; exact h3, h3b.keep (tk_upd hW)⟩, ⟨pvs, by rw [upd_ne (Ne.symm w4)]; exact h4, h4b⟩, h5⟩
/-- how often the codes are down behind so many events -/
def cnO (L : List (List Actn)) (es : List Ev) : Nat → Str → Int
  | 0 => fun _ => 0
  | n + 1 => bump (cnO L es n) (outM L es n)
theorem PAt.pc0 {C : Addr} {H : Hp} {p c l d e : Addr} {s : Sm} (h : PAt C H p c l d e 0 s) : Pc H e (fun _ => 0) := by
  obtain ⟨pvs, a, b, _⟩ := h.pr
  have e0 : pvs = [] := List.length_eq_zero_iff.mp (Nat.le_zero.mp b)
  subst e0
  exact ⟨[], a, fun y => rfl, fun k v hk => (by cases hk), List.nodup_nil⟩
section
variable {P : Program} {w : World} {K : PySem.W.Frag} {mg : Str → Option Value} {base : Heap}
def spPlay (C : Addr) : Sp := fun vs H Q _ => ∃ (c g : Addr) (L : List (List Actn)) (m : Nat) (es : List Ev), vs = [.ref c, .ref g] ∧ Lay H c L ∧ LayOk L m ∧ Lst evV H g es ∧ Valid es ∧ es.length ≤ 400 ∧ (∀ e ∈ es, e.k < (m : Int)) ∧
  ∀ (H' : Hp) (T p l d e W : Addr), Same H H' → H' T = some (.tup [.ref p, .ref W]) → PAt C H' p c l d e es.length (runS L es es.length) → Tolds H' L es W es.length → Pc H' e (cnO L es es.length) → Q (.ref T) H'
theorem ok_play (bt : Bt mg) {C : Addr} (cp : Cp K C) (a : At K mg "play" s_play ["layout", "record"]) (c_Player : ClI P w K mg base 1 C "Player" (spPInit C)) (c_release : ClM P w K mg base 1 C "release" (spRelease C)) (c_taken : ClM P w K mg base 2 C "taken" (spTaken C)) (c_press : ClM P w K mg base 1 C "press" (spPress C))
    (c_is_dual : Cl P w K mg base 1 "is_dual" spDual) (c_sure_event : Cl P w K mg base 2 "sure_event" spSure) (c_dual_kind : Cl P w K mg base 1 "dual_kind" spKind) (c_what_is_done : Cl P w K mg base 1 "what_is_done" spWhat) : Cl P w K mg base 3 "play" (spPlay C) := by
  have cl_Player := cp.cl
  refine clG a sc_play (fun vs H Q E h => ?_) (fun f cdv A outer s H vs Q hg hr h => ?_)
  · obtain ⟨c, g, L, m, es, rfl, _⟩ := h
    rfl
  · obtain ⟨c, g, L, m, es, rfl, hL, hO, hG, hV, h4, hkm, q⟩ := h
    refine ⟨_, (pss_cons (ps_set (i := 2) sc_play.nd rfl (Or.inl rfl) (pe_clI c_Player hg hr (by decide) (by rfl) (pa_cons (pv 0) pa_nil)))
      (pss_cons (ps_set (i := 3) sc_play.nd rfl (Or.inl rfl) (pe_lst pa_nil))
      (pss_cons (ps_for PassesOwn.never rfl (pi_enum (by rfl) bt.m_enumerate (pa_cons (pv 1) pa_nil)) (pg_tup rfl (pgs_cons (pg_name (i := 4) sc_play.nd rfl (Or.inl rfl)) (pgs_cons (pg_tup rfl (pgs_cons (pg_name (i := 5) sc_play.nd rfl (Or.inl rfl)) (pgs_cons (pg_name (i := 6) sc_play.nd rfl (Or.inl rfl)) (pgs_cons (pg_name (i := 7) sc_play.nd rfl (Or.inl rfl)) pgs_nil)))) pgs_nil))) (C8.pss_cut (ps_if (pt_cmpR op_eq (pv 7) pe_str (nomark _)) (pss_cons (ps_expr (pe_bm PySem.F.plainAttrs_list PySem.F.slot_list_append PySem.F.type_list_append mt_append (pv 3) (pa_cons (pe_tup (pa_cons pe_non (pa_cons pe_non (pa_cons (pe_clM c_release cl_Player hg hr (by decide) (pv 2) (pa_cons (pv 6) pa_nil)) pa_nil)))) pa_nil)))
      (pss_one ps_continue)) pss_nil)
      (pss_cons (ps_asg (pe_clM c_taken cl_Player hg hr (by decide) (pv 2) (pa_cons (pv 6) pa_nil)) (pg_tup rfl (pgs_cons (pg_name (i := 8) sc_play.nd rfl (Or.inl rfl)) (pgs_cons (pg_name (i := 9) sc_play.nd rfl (Or.inl rfl)) pgs_nil))))
      (pss_cons (ps_asg (pe_tup (pa_cons pe_non (pa_cons pe_str pa_nil))) (pg_tup rfl (pgs_cons (pg_name (i := 10) sc_play.nd rfl (Or.inl rfl)) (pgs_cons (pg_name (i := 11) sc_play.nd rfl (Or.inl rfl)) pgs_nil))))
      (C8.pss_cut (ps_if (pt_val (pe_cl c_is_dual hg hr (by decide) (by rfl) (pa_cons (pv 9) pa_nil))) (pss_cons (ps_set (i := 10) sc_play.nd rfl (Or.inl rfl) (pe_cl c_sure_event hg hr (by decide) (by rfl) (pa_cons (pv 1) (pa_cons (pv 4) (pa_cons (pv 9) pa_nil)))))
      (pss_one (ps_set (i := 11) sc_play.nd rfl (Or.inl rfl) (pe_cl c_dual_kind hg hr (by decide) (by rfl) (pa_cons (pv 1) (pa_cons (pv 4) (pa_cons (pv 10) pa_nil))))))) pss_nil)
      (pss_cons (ps_set (i := 12) sc_play.nd rfl (Or.inl rfl) (pe_cl c_what_is_done hg hr (by decide) (by rfl) (pa_cons (pv 9) (pa_cons (pv 11) pa_nil))))
      (pss_one (ps_expr (pe_bm PySem.F.plainAttrs_list PySem.F.slot_list_append PySem.F.type_list_append mt_append (pv 3) (pa_cons (pe_tup (pa_cons (pe_tup (pa_cons (pv 8) (pa_cons (pv 11) (pa_cons (pv 12) pa_nil)))) (pa_cons (pv 10) (pa_cons (pe_clM c_press cl_Player hg hr (by decide) (pv 2) (pa_cons (pv 6) (pa_cons (pv 12) pa_nil))) pa_nil)))) pa_nil))))))))))
      (pss_one (ps_ret (pe_tup (pa_cons (pv 2) (pa_cons (pv 3) pa_nil)))))))), ?_⟩
    obtain ⟨rs, hc, hR⟩ := id hL
    have n6 := hO.n6
    have hrl : (rs.map V.ref).length = L.length := by rw [List.length_map]; exact hR.1
    refine ⟨_, rfl, fun p dx np ndx hdp => ?_⟩
    have cp0 : c ≠ p := ne_of_none hc np
    have cdx : c ≠ dx := ne_of_none hc ndx
    refine ⟨p, dx, c, _, rfl, upd_same, by rw [upd_ne cp0, upd_ne cdx]; exact hc, by omega, fun H1 l d e nl nd ne hP hoff => ⟨rfl, ?_⟩⟩
    rw [hrl] at hP
    have s0 : Same H (upd (upd H dx (.own p)) p (.ins C dx [])) := (same_upd ndx).trans (same_upd (by rw [upd_ne (Ne.symm hdp)]; exact np))
    have s1 : Same H H1 := fun b o hb => hoff _ _ (s0 _ _ hb) (ne_of_none hb np)
    have nl' := none_back s0 nl
    have nd' := none_back s0 nd
    have ne' := none_back s0 ne
    clear hoff nl nd ne
    refine ⟨Nat.zero_le _, fun W nW => ?_⟩
    have W1 : W ≠ p := fun z => by rw [z, hP.ob.choose_spec] at nW; cases nW
    have W2 : W ≠ l := fun z => by rw [z, hP.lk] at nW; cases nW
    have W3 : W ≠ d := fun z => by rw [z, hP.bd.choose_spec.1] at nW; cases nW
    have W4 : W ≠ e := fun z => by rw [z, hP.pr.choose_spec.1] at nW; cases nW
    have nWH := none_back s1 nW
    have kW := same_upd (o := .lst []) nW
    obtain ⟨as, hg0, hT⟩ := id hG
    have hlen : (as.map V.ref).length = es.length := by rw [List.length_map]; exact hT.1
    have s2 := s1.trans kW
    refine ⟨_, rfl, g, _, rfl, SqL.of (s2 _ _ hg0), for_it (walk_enum (xs := as.map V.ref))
      (fun i σ H' => ∃ y4 y5 y6 y7 y8 y9 y10 y11 y12 : Option V, σ = [some (.ref c), some (.ref g), some (.ref p), some (.ref W), y4, y5, y6, y7, y8, y9, y10, y11, y12] ∧ Same H H' ∧ PAt C H' p c l d e i (runS L es i) ∧ Tolds H' L es W i ∧ Pc H' e (cnO L es i))
      ⟨_, _, _, _, _, _, _, _, _, rfl, s2, hP.same kW, ⟨[], upd_same, rfl, fun j T x => by simp at x⟩, hP.pc0.to fun o ho => kW _ _ ho⟩ (fun i σ H' _ z => by obtain ⟨_, _, _, _, _, _, _, _, _, _, s3, _⟩ := z; exact SqL.of (s3 _ _ hg0)) (fun i x σ H2 H3 hi z y => ?_) (fun σ H2 z => ?_)⟩
    · obtain ⟨y4, y5, y6, y7, y8, y9, y10, y11, y12, rfl, s3, P3, T3, C3⟩ := z
      obtain ⟨T, u, v, rfl, nT, rfl, e1, e2⟩ := y
      have hi' : i < es.length := by omega
      obtain ⟨b, hb, hbt⟩ := hT.at_ hi'
      have e2' : v = .ref b := Option.some.inj (e2.symm.trans (get_map_ref hb))
      subst e2'
      have e1' : u = .int (i : Nat) := (Option.some.inj e1).symm
      subst e1'
      have kT := same_upd (o := .tup [.int (i : Nat), .ref b]) nT
      have s4 := s3.trans kT
      have P4 := P3.same kT
      have C4 := C3.to fun o ho => kT _ _ ho
      have tkT : Tk H2 _ := Tk.of kT
      have hb4 := s4 _ _ hbt
      obtain ⟨v1, v2, v3⟩ := hV i _ (List.getElem?_eq_getElem hi')
      have hkk := hkm _ (List.getElem_mem hi')
      have hev := evAt_eq hi'
      have hS := runS_ok hO hV hkm i (by omega)
      have T4 : Tolds (upd H2 T (.tup [.int (i : Nat), .ref b])) L es W i := by
        obtain ⟨Ts, t1, t2, t3⟩ := T3
        exact ⟨Ts, kT _ _ t1, t2, fun j U x => (t3 j U x).keep tkT⟩
      have hT1 := upd_same (H := H2) (a := T) (o := .tup [.int (i : Nat), .ref b])
      clear kT tkT
      generalize upd H2 T (.tup [.int (i : Nat), .ref b]) = H3 at s4 P4 T4 C4 hT1 hb4 ⊢
      refine ⟨T, _, rfl, SqT.of hT1, rfl, _, _, rfl, _, _, rfl, b, _, rfl, SqT.of hb4, rfl, _, _, rfl, _, _, rfl, _, _, rfl, rfl, rfl, ?_⟩
      obtain ⟨dxp, hp⟩ := P4.ob
      refine ⟨fun σ' H' => σ' = [some (.ref c), some (.ref g), some (.ref p), some (.ref W), some (.int (i : Nat)), some (.int es[i].t), some (.int es[i].k), some (.str (wayS es[i].d)), y8, y9, y10, y11, y12] ∧ H' = H3 ∧ es[i].d = true, ⟨_, rfl, rfl, !es[i].d, congrArg V.bl (wayS_up es[i].d), ?_⟩, ?_⟩
      · cases hd : es[i].d with
        | true => exact iteF ⟨rfl, rfl, rfl⟩
        | false =>
          refine iteT ?_
          obtain ⟨Ts, t1, t2, t3⟩ := id T4
          refine ⟨_, rfl, .inl ⟨rfl, _, SqL.of t1⟩, _, rfl, p, dxp, _, rfl, hp, f_no (by decide +kernel), _, rfl, p, c, l, d, e, i, runS L es i, L.length, es[i].k, rfl, P4, hS.bds, by omega, fun H4 o P5 o5 ho pc5 => ⟨(by show 3 ≤ sizeLine; decide), fun T5 nT5 => ?_⟩⟩
          have k5 := same_upd (o := .tup [.non, .non, o]) nT5
          have s6 : Same H (upd H4 T5 (.tup [.non, .non, o])) := fun b o hb => k5 _ _ (o5 _ _ (s4 _ _ hb) (ne_of_none hb np) (ne_of_none hb nl') (ne_of_none hb nd') (ne_of_none hb ne'))
          have tk5 := P4.tk o5
          have T6 := T4.off o5 tk5 W1 W2 W3 W4
          have P6 := P5.same k5
          obtain ⟨Ts', u1, u2, u3⟩ := T6
          have u1' := k5 _ _ u1
          have hd' : (evAt es i).d = false := by rw [hev]; exact hd
          refine ⟨W, _, .ref T5, rfl, rfl, u1', small1000 (by rw [List.length_map]; omega), _, _, _, _, y8, y9, y10, y11, y12, rfl, Same.off s6 nWH off_upd, ?_, ?_, ?_⟩
          · rw [runS_up hd', hev]
            exact P6.updW u1' W1 W2 W3 W4
          · refine Tolds.add u1' u2 (fun j U x => (u3 j U x).keep (Tk.of k5)) ⟨_, _, _, upd_same, ?_, ?_⟩
            · rw [runT_up hd']; exact ⟨rfl, rfl⟩
            · unfold outM
              rw [if_neg (by rw [hd']; decide), hev]
              exact ho.keep (Tk.of k5)
          · have eo : outM L es i = relO (runS L es i) es[i].k := by
              unfold outM
              rw [if_neg (by rw [hd']; decide), hev]
            show Pc _ e (bump (cnO L es i) (outM L es i))
            rw [eo]
            exact (pc5 _ C4).to fun o ho => by rw [upd_ne (Ne.symm W4)]; exact k5 _ _ ho
      · rintro σ' H' ⟨rfl, rfl, hd⟩
        have hd' : (evAt es i).d = true := by rw [hev]; exact hd
        have hk0 : es[i].k = ((es[i].k.toNat : Nat) : Int) := by omega
        obtain ⟨t1, t2, t3⟩ := taken_ok hO (runS L es i) (k := es[i].k.toNat) (by omega)
        refine ⟨_, rfl, p, dxp, _, rfl, hp, f_no (by decide +kernel), _, rfl, p, c, l, d, e, i, runS L es i, L, m, es[i].k.toNat, congrArg (fun z => [V.ref p, V.int z]) hk0, P4, hL.same s4, hO, hS.bds, hS.lk, by have := hS.len; omega, by omega, fun H4 T4' v s5 hT4 hv => ?_⟩
        refine ⟨T4', _, rfl, SqT.of hT4, rfl, _, _, rfl, _, _, rfl, rfl, ?_⟩
        have hx : xAt L es i = actAt L (takenL L (runS L es i) es[i].k.toNat) es[i].k.toNat := by unfold xAt; rw [hev]
        rw [← hx] at t2 t3 hv
        refine ⟨(by show 2 ≤ sizeLine; decide), fun T7 nT7 => ?_⟩
        have k7 := same_upd (o := .tup [.non, .str "plain"]) nT7
        refine ⟨T7, _, rfl, SqT.of upd_same, rfl, _, _, rfl, _, _, rfl, rfl, ?_⟩
        have s6 := s5.trans k7
        have P6 := P4.same s6
        have T6 := T4.off (Off4.of s6) (Tk.of s6) W1 W2 W3 W4
        have hv6 := hv.keep (Tk.of k7)
        have s7 := s4.trans s6
        clear hT4
        generalize upd H4 T7 (.tup [.non, .str "plain"]) = H6 at s6 P6 T6 hv6 s7 ⊢
        refine ⟨fun σ' H' => σ' = [some (.ref c), some (.ref g), some (.ref p), some (.ref W), some (.int (i : Nat)), some (.int es[i].t), some (.int es[i].k), some (.str (wayS es[i].d)), some (.int ((takenL L (runS L es i) es[i].k.toNat : Nat) : Int)), some v, some (optN (if isDl (xAt L es i) then sureM es i (xAt L es i) else none)), some (.str (kindM es i (xAt L es i))), y12] ∧ Same H6 H', ?_, ?_⟩
        · refine ⟨_, rfl, v, xAt L es i, L.length, _, rfl, hv6, t2, _, rfl, ?_⟩
          cases hd2 : isDl (xAt L es i) with
          | false =>
            refine iteF ⟨?_, Same.refl _⟩
            rw [if_neg (by decide)]
            unfold kindM
            rw [if_neg (by rw [hd2]; decide)]
            rfl
          | true =>
            refine iteT ⟨_, rfl, _, rfl, _, rfl, g, es, i, v, xAt L es i, rfl, hG.same s7, hi', h4, hv6, hd2, fun H7 s8 => ?_⟩
            refine ⟨_, rfl, _, rfl, _, rfl, g, es, i, sureM es i (xAt L es i), rfl, hG.same (s7.trans s8), hi', fun n hn => (sureM_lt hn).2, fun H8 s9 => ⟨?_, s8.trans s9⟩⟩
            rw [if_pos rfl]
            unfold kindM
            rw [if_pos hd2]
            rfl
        · rintro σ' H7 ⟨rfl, s8⟩
          refine ⟨_, rfl, _, rfl, v, xAt L es i, kindM es i (xAt L es i), rfl, hv6.keep (Tk.of s8), kind_or, fun H8 wv s9 hw => ?_⟩
          have s10 := s8.trans s9
          have P8 := P6.same s10
          have T8 := T6.off (Off4.of s10) (Tk.of s10) W1 W2 W3 W4
          have s11 := s7.trans s10
          obtain ⟨Ts, u1, u2, u3⟩ := id T8
          obtain ⟨dx8, hp8⟩ := P8.ob
          refine ⟨_, rfl, .inl ⟨rfl, _, SqL.of u1⟩, _, rfl, _, rfl, _, rfl, (by show 3 ≤ sizeLine; decide), fun M nM => ?_⟩
          have kM := same_upd (o := .tup [.int ((takenL L (runS L es i) es[i].k.toNat : Nat) : Int), .str (kindM es i (xAt L es i)), wv]) nM
          have hM := upd_same (H := H8) (a := M) (o := .tup [.int ((takenL L (runS L es i) es[i].k.toNat : Nat) : Int), .str (kindM es i (xAt L es i)), wv])
          have P9 := P8.same kM
          have T9 := T8.off (Off4.of kM) (Tk.of kM) W1 W2 W3 W4
          have hw9 := hw.keep (Tk.of kM)
          have s12 := s11.trans kM
          have hp9 := kM _ _ hp8
          refine ⟨_, rfl, _, rfl, p, dx8, _, rfl, hp9, f_no (by decide +kernel), _, rfl, _, rfl, p, c, l, d, e, i, runS L es i, es[i].k, wv, whatM (xAt L es i) (kindM es i (xAt L es i)), rfl, P9, hw9, by rw [hS.lk]; exact what_do t2 t3, by rw [hS.lk]; exact n6, by have := hS.len; omega, by omega, fun H10 o P10 o10 ho pc10 => ⟨(by show 3 ≤ sizeLine; decide), fun T11 nT11 => ?_⟩⟩
          have k11 := same_upd (o := .tup [.ref M, optN (if isDl (xAt L es i) then sureM es i (xAt L es i) else none), o]) nT11
          have s13 : Same H (upd H10 T11 (.tup [.ref M, optN (if isDl (xAt L es i) then sureM es i (xAt L es i) else none), o])) := fun b o hb => k11 _ _ (o10 _ _ (s12 _ _ hb) (ne_of_none hb np) (ne_of_none hb nl') (ne_of_none hb nd') (ne_of_none hb ne'))
          have tk10 := P9.tk o10
          obtain ⟨Ts', x1, x2, x3⟩ := T9.off o10 tk10 W1 W2 W3 W4
          have x1' := k11 _ _ x1
          have P11 := P10.same k11
          refine ⟨W, _, .ref T11, rfl, rfl, x1', small1000 (by rw [List.length_map]; omega), _, _, _, _, _, _, _, _, _, rfl, Same.off s13 nWH off_upd, ?_, ?_, ?_⟩
          · rw [runS_dn hd', hev]
            exact P11.updW x1' W1 W2 W3 W4
          · refine Tolds.add x1' x2 (fun j U x => (x3 j U x).keep (Tk.of k11)) ⟨_, _, _, upd_same, ?_, ?_⟩
            · rw [runT_dn hd', hev]
              exact ⟨rfl, M, wv, rfl, k11 _ _ (tk10 _ _ hM), (hw9.keep tk10).keep (Tk.of k11)⟩
            · unfold outM
              rw [if_pos hd']
              exact ho.keep (Tk.of k11)
          · have eo : outM L es i = outP (whatM (xAt L es i) (kindM es i (xAt L es i))) := by
              unfold outM
              rw [if_pos hd']
            show Pc _ e (bump (cnO L es i) (outM L es i))
            rw [eo]
            exact (pc10 _ (C4.to fun o ho => kM _ _ (s10 _ _ (s6 _ _ ho)))).to fun o ho => by rw [upd_ne (Ne.symm W4)]; exact k11 _ _ ho
    · obtain ⟨y4, y5, y6, y7, y8, y9, y10, y11, y12, rfl, s3, P3, T3, C3⟩ := z
      rw [hlen] at P3 T3 C3
      refine ⟨_, rfl, _, rfl, (by show 2 ≤ sizeLine; decide), fun R nR => ?_⟩
      have kR := same_upd (o := .tup [.ref p, .ref W]) nR
      exact q _ R p l d e W (s3.trans kR) upd_same (P3.same kR) (T3.off (Off4.of kR) (Tk.of kR) W1 W2 W3 W4) (C3.to fun o ho => kR _ _ ho)
end
end K15

set_option Elab.async false
set_option linter.all false
set_option maxRecDepth 100000
set_option maxHeartbeats 8000000
namespace K15
open PySem PySem.Spec PyProof.Rows L2 Gd Rm La Cb Pl
section
variable {P : Program} {w : World} {K : PySem.W.Frag} {mg : Str → Option Value} {base : Heap}
def spPlayable : Sp := fun vs H Q _ => ∃ (c g : Addr) (L : List (List Actn)) (m : Nat) (es : List Ev), vs = [.ref c, .ref g] ∧ Lay H c L ∧ LayOk L m ∧ Lst evV H g es ∧ Valid es ∧ es.length ≤ 400 ∧ (∀ e ∈ es, e.k < (m : Int)) ∧ ∀ H', Same H H' → Q .non H'
theorem ok_check_playable (bt : Bt mg) (a : At K mg "check_playable" s_check_playable ["layout", "record"]) (c_check_layout : Cl P w K mg base 7 "check_layout" spCheckL) (c_check_record : Cl P w K mg base 4 "check_record" spCheck) : Cl P w K mg base 8 "check_playable" spPlayable := by
  refine clG a sc_check_playable (fun vs H Q E h => ?_) (fun f cdv A outer s H vs Q hg hr h => ?_)
  · obtain ⟨c, g, L, m, es, rfl, _⟩ := h
    rfl
  · obtain ⟨c, g, L, m, es, rfl, hL, hO, hG, hV, h4, hkm, q⟩ := h
    refine ⟨_, (pss_cons (ps_expr (pe_cl c_check_layout hg hr (by decide) (by rfl) (pa_cons (pv 0) pa_nil)))
      (pss_one (ps_expr (pe_cl c_check_record hg hr (by decide) (by rfl) (pa_cons (pv 1) (pa_cons (pe_callB call_len_seq (by rfl) bt.m_len (by decide +kernel) (pa_cons (pe_ix ix_list (pv 0) pe_int (fun _ _ => rfl)) pa_nil)) pa_nil)))))), ?_⟩
    obtain ⟨rs, hc, hR⟩ := id hL
    refine ⟨_, rfl, c, L, m, rfl, hL, hO, fun H1 s1 => ?_⟩
    obtain ⟨rs, hc, hR⟩ := hL.same s1
    have n1 := hO.n1
    obtain ⟨r, hr1, vs, hvs, ha⟩ := hR.at_ (i := 0) (by omega)
    refine ⟨_, rfl, _, rfl, c, _, _, .ref r, rfl, rfl, SqL.of hc, atI_nat (j := 0) (get_map_ref hr1), r, vs, rfl, .inl (SqL.of hvs), ?_⟩
    have hl : vs.length = m := by rw [ha.1]; exact hO.len _ (List.getElem_mem _)
    rw [hl]
    exact ⟨g, m, es, rfl, hG.same s1, hV, h4, hkm, fun H2 s2 => q _ (s1.trans s2)⟩
end
section
variable {P : Program} {w : World} {K : PySem.W.Frag} {mg : Str → Option Value} {base : Heap}
structure RecOk (keys : Int) (size : Nat) (es : List Ev) : Prop where
  valid : Valid es
  len : es.length = size
  key : ∀ e ∈ es, 0 ≤ e.k ∧ e.k < keys
  tick : ∀ e ∈ es, -(10 ^ 20) < e.t ∧ e.t < 10 ^ 20
def spRec : Sp := fun vs H Q _ => ∃ (r g : Addr) (n size : Nat) (keys : Int) (gs : List Int), vs = [.ref r, .int keys, .int (size : Int), .ref g] ∧ Reel H r n ∧ n + 4000 < most ∧ 0 < keys ∧ keys ≤ 1000 ∧ size ≤ 400 ∧
  H g = some (.lst (gs.map V.int)) ∧ g ≠ r ∧ 0 < gs.length ∧ gs.length ≤ 10 ∧ (∀ x ∈ gs, 0 ≤ x ∧ x ≤ 10 ^ 10) ∧
  ∀ (H' : Hp) (p : Addr) (es : List Ev), Off r H H' → H p = none → Reel H' r (n + 2000) → Lst evV H' p es → RecOk keys size es → Q (.ref p) H'
structure RecIn (H0 : Hp) (r g F Dn : Addr) (gs : List Int) (m : Nat) (keys : Int) (i : Nat) (tick : Int) (es : List Ev) (ns : List Int) (H : Hp) : Prop where
  Fr : F ≠ r
  Dr : Dn ≠ r
  FD : F ≠ Dn
  gr : g ≠ r
  nF : H0 F = none
  nD : H0 Dn = none
  gap0 : H0 g = some (.lst (gs.map V.int))
  off : Off r H0 H
  reel : Reel H r m
  gap : H g = some (.lst (gs.map V.int))
  found : Lst evV H F es
  down : H Dn = some (.lst (ns.map V.int))
  ok : RecOk keys i es
  dn : DownOk ns es
  key : ∀ k ∈ ns, 0 ≤ k ∧ k < keys
  nl : ns.length ≤ i
  last : ∀ e ∈ es, e.t ≤ tick
  tk : -(10 ^ 16) ≤ tick ∧ tick ≤ 10 ^ 16 + i * 10 ^ 10
section
variable {H0 H H' : Hp} {r g F Dn : Addr} {gs : List Int} {m m' : Nat} {keys : Int} {i : Nat} {tick : Int} {es : List Ev} {ns : List Int}
theorem RecIn.go (h : RecIn H0 r g F Dn gs m keys i tick es ns H) (o : Off r H H') (R : Reel H' r m') : RecIn H0 r g F Dn gs m' keys i tick es ns H' := by
  obtain ⟨x, y, z, hr, _⟩ := id h.reel
  exact { h with off := h.off.trans o, reel := R, gap := o _ _ h.gap h.gr, found := h.found.off hr h.Fr o, down := o _ _ h.down h.Dr }
theorem RecIn.same (h : RecIn H0 r g F Dn gs m keys i tick es ns H) (o : Same H H') : RecIn H0 r g F Dn gs m keys i tick es ns H' := h.go (Off.of o) (h.reel.same o)
theorem RecIn.push {p : Addr} {ns' : List Int} {e : Ev} (h : RecIn H0 r g F Dn gs m keys i tick es ns H) (np : upd H Dn (.lst (ns'.map V.int)) p = none)
    (dn : DownOk ns' (es ++ [e])) (hv : Valid (es ++ [e])) (hk : 0 ≤ e.k ∧ e.k < keys) (hns : ∀ k ∈ ns', 0 ≤ k ∧ k < keys) (nl : ns'.length ≤ i + 1) (ht : tick ≤ e.t) (tk : e.t ≤ 10 ^ 16 + ((i + 1 : Nat) : Int) * 10 ^ 10) (hi : i < 1000) :
    ∃ as : List Addr, upd (upd H Dn (.lst (ns'.map V.int))) p (.tup (evV e)) F = some (.lst (as.map V.ref)) ∧ as.length = i ∧
      RecIn H0 r g F Dn gs m keys (i + 1) e.t (es ++ [e]) ns' (upd (upd (upd H Dn (.lst (ns'.map V.int))) p (.tup (evV e))) F (.lst (as.map V.ref ++ [.ref p]))) := by
  obtain ⟨x, y, z, hr, hb⟩ := id h.reel
  obtain ⟨as, hF, hT⟩ := h.found
  have gD : g ≠ Dn := ne_of_none h.gap0 h.nD
  have gF : g ≠ F := ne_of_none h.gap0 h.nF
  have hr1 : upd H Dn (.lst (ns'.map V.int)) r = some (.lst [.int x, .int y, .int z]) := by rw [upd_ne h.Dr.symm]; exact hr
  have hF1 : upd H Dn (.lst (ns'.map V.int)) F = some (.lst (as.map V.ref)) := by rw [upd_ne h.FD]; exact hF
  have hg1 : upd H Dn (.lst (ns'.map V.int)) g = some (.lst (gs.map V.int)) := by rw [upd_ne gD]; exact h.gap
  have hT1 : Tups (upd H Dn (.lst (ns'.map V.int))) evV as es := hT.off h.down off_upd
  have hD1 : upd H Dn (.lst (ns'.map V.int)) Dn = some (.lst (ns'.map V.int)) := upd_same
  have o1 : Off r H0 (upd H Dn (.lst (ns'.map V.int))) := h.off.new h.nD
  generalize upd H Dn (.lst (ns'.map V.int)) = H1 at *
  have hF2 := (same_upd (o := .tup (evV e)) np) _ _ hF1
  have hr2 := (same_upd (o := .tup (evV e)) np) _ _ hr1
  have hg2 := (same_upd (o := .tup (evV e)) np) _ _ hg1
  have hD2 := (same_upd (o := .tup (evV e)) np) _ _ hD1
  have hp : upd H1 p (.tup (evV e)) p = some (.tup (evV e)) := upd_same
  have pF : p ≠ F := (ne_of_none hF1 np).symm
  have hl := h.ok.len
  have hal := hT.1
  refine ⟨as, hF2, by omega, ?_⟩
  refine { h with off := (o1.sameTrans (same_upd np)).new h.nF, reel := ⟨x, y, z, by rw [upd_ne h.Fr.symm]; exact hr2, hb⟩, gap := by rw [upd_ne gF]; exact hg2,
                  found := ⟨as ++ [p], by rw [upd_same, List.map_append]; rfl, Tups.snoc ((hT1.same (same_upd np)).off hF2 off_upd) (by rw [upd_ne pF]; exact hp)⟩,
                  down := by rw [upd_ne h.FD.symm]; exact hD2, ok := ⟨hv, by rw [List.length_append, hl]; rfl, fun x hx => ?_, fun x hx => ?_⟩, dn := dn, key := hns, nl := nl, last := fun x hx => ?_, tk := ⟨by have := h.tk.1; omega, tk⟩ }
  · rcases List.mem_append.mp hx with hx | hx
    · exact h.ok.key x hx
    · rw [List.mem_singleton.mp hx]; exact hk
  · rcases List.mem_append.mp hx with hx | hx
    · exact h.ok.tick x hx
    · rw [List.mem_singleton.mp hx]
      have := h.tk.1
      exact ⟨by omega, by omega⟩
  · rcases List.mem_append.mp hx with hx | hx
    · have := h.last x hx; omega
    · rw [List.mem_singleton.mp hx]; exact Int.le_refl _
theorem RecIn.mono (h : RecIn H0 r g F Dn gs m keys i tick es ns H) (l : m ≤ m') : RecIn H0 r g F Dn gs m' keys i tick es ns H := { h with reel := h.reel.mono l }
end
theorem ok__law_record (bt : Bt mg) (a : At K mg "_law_record" s__law_record ["_law_reel_here", "_law_keys", "_law_size", "_law_gaps"]) (c__law_spin : Cl P w K mg base 1 "_law_spin" spSpin) : Cl P w K mg base 2 "_law_record" spRec := by
  refine clG a sc__law_record (fun vs H Q E h => ?_) (fun f cdv A outer s H vs Q hg hr h => ?_)
  · obtain ⟨r, g, n, size, keys, gs, rfl, _⟩ := h
    rfl
  · obtain ⟨r, g, n, size, keys, gs, rfl, hR, hn, hk0, hk1, hs, hG, gr, g0, g1, g2, q⟩ := h
    have hn' : n + 4000 < 1000000000 := hn
    refine ⟨_, (pss_cons (ps_par3 (i := 4) (j := 5) (l := 6) rfl sc__law_record.nd rfl rfl rfl (by decide) (by decide) (by decide) rfl rfl rfl (pa_cons (pe_lst pa_nil) (pa_cons (pe_lst pa_nil) (pa_cons (pe_ix ix_list (pe_lst (pa_cons pe_int (pa_cons (pe_op op_sub pe_int (pe_op op_powW pe_int pe_int)) (pa_cons (pe_cl c__law_spin hg hr (by decide) (by rfl) (pa_cons (pv 0) (pa_cons (pe_op op_powW pe_int pe_int) pa_nil))) pa_nil)))) (pe_cl c__law_spin hg hr (by decide) (by rfl) (pa_cons (pv 0) (pa_cons pe_int pa_nil))) (fun _ _ => rfl)) pa_nil))) (by rfl))
      (pss_cons (ps_for PassesOwn.never rfl (pi_range1 (by rfl) bt.m_range (pa_cons (pv 2) pa_nil)) (pg_name (i := 7) sc__law_record.nd rfl (Or.inl rfl)) (pss_cons (ps_set (i := 8) sc__law_record.nd rfl (Or.inl rfl) (pe_cl c__law_spin hg hr (by decide) (by rfl) (pa_cons (pv 0) (pa_cons (pv 1) pa_nil))))
      (C8.pss_cut (ps_if (PW.pt (pw_and (pt_cmpR (op_neD hr.units) (pv 5) (pe_lst pa_nil) (nomark _)) (pw_and1 (pt_cmpR op_eq (pe_cl c__law_spin hg hr (by decide) (by rfl) (pa_cons (pv 0) (pa_cons pe_int pa_nil))) pe_int (nomark _))))) (pss_one (ps_set (i := 8) sc__law_record.nd rfl (Or.inl rfl) (pe_ix ix_list (pv 5) (pe_cl c__law_spin hg hr (by decide) (by rfl) (pa_cons (pv 0) (pa_cons (pe_callB call_len_seq (by rfl) bt.m_len (by decide +kernel) (pa_cons (pv 5) pa_nil)) pa_nil))) (fun _ _ => rfl)))) pss_nil)
      (pss_cons (ps_set (i := 6) sc__law_record.nd rfl (Or.inl rfl) (pe_op op_add (pv 6) (pe_ix ix_list (pv 3) (pe_cl c__law_spin hg hr (by decide) (by rfl) (pa_cons (pv 0) (pa_cons (pe_callB call_len_seq (by rfl) bt.m_len (by decide +kernel) (pa_cons (pv 3) pa_nil)) pa_nil))) (fun _ _ => rfl))))
      (pss_one (ps_if (pt_cmpR op_in_seq (pv 8) (pv 5) (by rfl)) (pss_cons (ps_expr (pe_bm PySem.F.plainAttrs_list PySem.F.slot_list_remove PySem.F.type_list_remove mt_remove (pv 5) (pa_cons (pv 8) pa_nil)))
      (pss_one (ps_expr (pe_bm PySem.F.plainAttrs_list PySem.F.slot_list_append PySem.F.type_list_append mt_append (pv 4) (pa_cons (pe_tup (pa_cons (pv 6) (pa_cons (pv 8) (pa_cons pe_str pa_nil)))) pa_nil))))) (pss_cons (ps_expr (pe_bm PySem.F.plainAttrs_list PySem.F.slot_list_append PySem.F.type_list_append mt_append (pv 5) (pa_cons (pv 8) pa_nil)))
      (pss_one (ps_expr (pe_bm PySem.F.plainAttrs_list PySem.F.slot_list_append PySem.F.type_list_append mt_append (pv 4) (pa_cons (pe_tup (pa_cons (pv 6) (pa_cons (pv 8) (pa_cons pe_str pa_nil)))) pa_nil)))))))))))
      (pss_one (ps_ret (pv 4))))), ?_⟩
    refine ⟨Nat.zero_le _, fun F nF => ⟨Nat.zero_le _, fun Dn nD => ?_⟩⟩
    have FD : F ≠ Dn := ne_of_none upd_same nD
    have s1 : Same H (upd (upd H F (.lst [])) Dn (.lst [])) := (same_upd nF).trans (same_upd nD)
    have hF1 : upd (upd H F (.lst [])) Dn (.lst []) F = some (.lst []) := by rw [upd_ne FD]; exact upd_same
    have hD1 : upd (upd H F (.lst [])) Dn (.lst []) Dn = some (.lst []) := upd_same
    have nD0 : H Dn = none := (same_upd nF).free nD
    obtain ⟨rx, ry, rz, hr0, _⟩ := id hR
    have Fr : F ≠ r := (ne_of_none hr0 nF).symm
    have Dr : Dn ≠ r := (ne_of_none hr0 nD0).symm
    have Fg : F ≠ g := (ne_of_none hG nF).symm
    have Dg : Dn ≠ g := (ne_of_none hG nD0).symm
    have hR1 := hR.same s1
    generalize upd (upd H F (.lst [])) Dn (.lst []) = H1 at s1 hF1 hD1 hR1
    -- [0, 0 - 10 ** 15, spin][spin]
    refine ⟨_, _, rfl, rfl, powW (n := 40) (k := 15) (by decide) (by decide), _, _, rfl, rfl, ?_⟩
    refine ⟨_, rfl, _, _, rfl, rfl, powW (n := 40) (k := 14) (by decide) (by decide), r, _, n, rfl, by decide, by decide, by show n < 1000000000; omega, hR1, fun d1 H2 d10 d11 hR2 o2 => ?_⟩
    refine ⟨by show 3 ≤ sizeLine; decide, fun L nL => ?_⟩
    refine ⟨_, rfl, r, 3, n + 1, rfl, by decide, by decide, by show n + 1 < 1000000000; omega, hR2.same (same_upd nL), fun d2 H3 d20 d21 hR3 o3 => ?_⟩
    have Lr : L ≠ r := by
      obtain ⟨_, _, _, hr2, _⟩ := id hR2
      exact (ne_of_none hr2 nL).symm
    have hL3 : H3 L = some (.lst ([0, 0 - 10 ^ 15, d1].map V.int)) := o3 _ _ upd_same Lr
    obtain ⟨t0, at0, m0⟩ := getI (ns := [0, 0 - 10 ^ 15, d1]) d20 (by show d2 < 3; exact d21)
    have bt0 : -(10 ^ 16) ≤ t0 ∧ t0 ≤ 10 ^ 16 + ((0 : Nat) : Int) * 10 ^ 10 := by
      have hm := List.mem_of_getElem? m0
      have d11' : d1 < 10 ^ 14 := d11
      simp only [List.mem_cons, List.mem_nil_iff, or_false] at hm
      omega
    have hF3 : Lst evV H3 F [] := by
      obtain ⟨_, _, _, hr2, _⟩ := id hR2
      refine ⟨[], ?_, Tups.nil⟩
      exact o3 _ _ ((same_upd nL) _ _ (o2 _ _ hF1 Fr)) Fr
    have hD3 : H3 Dn = some (.lst (([] : List Int).map V.int)) := o3 _ _ ((same_upd nL) _ _ (o2 _ _ hD1 Dr)) Dr
    have hG3 : H3 g = some (.lst (gs.map V.int)) := o3 _ _ ((same_upd nL) _ _ (o2 _ _ (s1 _ _ hG) gr)) gr
    have I0 : RecIn H r g F Dn gs (n + 2 + 4 * 0) keys 0 t0 [] [] H3 :=
      ⟨Fr, Dr, FD, gr, nF, nD0, hG, (Off.of s1).trans (o2.trans ((Off.of (same_upd nL)).trans o3)), hR3, hG3, hF3, hD3,
        ⟨Valid.nil, rfl, fun e h => by simp at h, fun e h => by simp at h⟩, DownOk.nil, fun k h => by simp at h, Nat.le_refl _, fun e h => by simp at h, bt0⟩
    refine ⟨L, _, d2, .int t0, rfl, rfl, SqL.of hL3, at0, _, _, _, rfl, ?_⟩
    refine ⟨_, rfl, (size : Int), rfl, by omega, by omega, for_it walk_range (fun i σ H' => ∃ tick es ns y7 y8, σ = [some (.ref r), some (.int keys), some (.int (size : Int)), some (.ref g), some (.ref F), some (.ref Dn), some (.int tick), y7, y8] ∧
      RecIn H r g F Dn gs (n + 2 + 4 * i) keys i tick es ns H') ⟨t0, [], [], _, _, rfl, I0⟩ (fun _ _ _ _ _ => True.intro) (fun i x σ H4 H5 hi p y => ?_) (fun σ H4 p => ?_)⟩
    · obtain ⟨tick, es, ns, y7, y8, rfl, R⟩ := p
      obtain ⟨rfl, rfl⟩ := y
      have hi' : i < size := by omega
      -- key = spin(reel, keys)
      refine ⟨_, rfl, _, rfl, r, keys, n + 2 + 4 * i, rfl, hk0, Int.lt_of_le_of_lt hk1 (by decide), by show _ < 1000000000; omega, R.reel, fun k H5 k0 k1 R5 o5 => ?_⟩
      have R1 := R.go o5 R5
      clear R R5 o5
      refine ⟨fun σ' H' => ∃ k : Int, σ' = [some (.ref r), some (.int keys), some (.int (size : Int)), some (.ref g), some (.ref F), some (.ref Dn), some (.int tick), some (.int (0 + (i : Int))), some (.int k)] ∧ 0 ≤ k ∧ k < keys ∧ RecIn H r g F Dn gs (n + 2 + 4 * i + 3) keys i tick es ns H', ?_, ?_⟩
      · -- if down != [] and spin(reel, 2) == 0
        refine ⟨_, rfl, Nat.zero_le _, fun e ne => ?_⟩
        have R2 := R1.same (same_upd (o := .lst []) ne)
        refine ⟨_, _, .lst (SqL.of R2.down) (dpInts ns), .lst (SqL.of upd_same) .nil, shaped_ints ns, shaped_nil, _, rfl, ?_⟩
        rw [eqv_nil]
        cases ns with
        | nil => exact iteF (iteF ⟨k, rfl, k0, k1, R2.mono (by omega)⟩)
        | cons d0 dr =>
          refine iteT ⟨_, rfl, r, 2, n + 2 + 4 * i + 1, rfl, by decide, by decide, by show _ < 1000000000; omega, R2.reel, fun b H6 b0 b1 R6 o6 => ⟨rfl, _, rfl, ite2 (fun z => ?_) (fun z => ?_)⟩⟩
          · have R3 := R2.go o6 R6
            refine ⟨_, rfl, _, rfl, _, rfl, Dn, _, rfl, .inl (SqL.of R3.down), r, _, n + 2 + 4 * i + 1 + 1, rfl, ?_, ?_, by show _ < 1000000000; omega, R3.reel, fun c H7 c0 c1 R7 o7 => ?_⟩
            · rw [List.length_map, List.length_cons]; omega
            · have := R3.nl
              rw [List.length_map]
              have h2 : (10 : Int) ^ 40 > 1000 := by decide
              omega
            · have R4 := R3.go o7 R7
              rw [List.length_map] at c1
              obtain ⟨k', ak, mk⟩ := getI (ns := d0 :: dr) c0 c1
              have hk' := R4.key k' (List.mem_of_getElem? mk)
              exact ⟨Dn, _, c, _, rfl, rfl, SqL.of R4.down, ak, k', rfl, hk'.1, hk'.2, R4.mono (by omega)⟩
          · exact ⟨k, rfl, k0, k1, (R2.go o6 R6).mono (by omega)⟩
      · rintro σ' H' ⟨k, rfl, k0, k1, R⟩
        refine ⟨_, rfl, _, rfl, _, rfl, _, rfl, g, _, rfl, .inl (SqL.of R.gap), r, _, n + 2 + 4 * i + 3, rfl, ?_, ?_, by show _ < 1000000000; omega, R.reel, fun c H6 c0 c1 R6 o6 => ?_⟩
        · rw [List.length_map]; omega
        · rw [List.length_map]
          have h2 : (10 : Int) ^ 40 > 1000 := by decide
          omega
        · have R2 := R.go o6 R6
          rw [List.length_map] at c1
          obtain ⟨dv, adv, mdv⟩ := getI (ns := gs) c0 c1
          have hdv := g2 dv (List.mem_of_getElem? mdv)
          refine ⟨g, _, c, _, rfl, rfl, SqL.of R2.gap, adv, _, _, rfl, rfl, ?_⟩
          have htk := R2.tk
          have hup : tick + dv ≤ 10 ^ 16 + ((i + 1 : Nat) : Int) * 10 ^ 10 := by
            have e : ((i + 1 : Nat) : Int) * 10 ^ 10 = (i : Int) * 10 ^ 10 + 10 ^ 10 := by rw [Int.natCast_add, Int.add_mul]; rfl
            omega
          refine ⟨_, rfl, _, rfl, Dn, _, rfl, .inl (SqL.of R2.down), rfl, flat_ints ns, _, rfl, ?_⟩
          show (if inV (.int k) (ns.map V.int) = true then _ else _)
          rw [inv_int]
          have hlast : ∀ e' ∈ es, e'.t ≤ tick + dv := fun e' he => by have := R2.last e' he; omega
          have eqm : n + 2 + 4 * (i + 1) = n + 2 + 4 * i + 3 + 1 := by omega
          refine ite2 (fun z => ?_) (fun z => ?_)
          · have zm : k ∈ ns := of_decide_eq_true z
            obtain ⟨j, hj⟩ := List.getElem?_of_mem zm
            refine ⟨_, rfl, .inl ⟨rfl, _, SqL.of R2.down⟩, _, rfl, Dn, ns, k, j, rfl, rfl, R2.down, hj, first_ix R2.dn.nd hj, ?_⟩
            have hF := R2.found
            refine ⟨_, rfl, ?_, _, rfl, _, rfl, (by show 3 ≤ sizeLine; decide), fun p np => ?_⟩
            · obtain ⟨as, hFa, _⟩ := hF
              exact .inl ⟨rfl, _, SqL.of (by rw [upd_ne R2.FD]; exact hFa)⟩
            · obtain ⟨as, h1, h2, R3⟩ := R2.push (e := ⟨tick + dv, k, false⟩) np (R2.dn.up hj) (R2.ok.valid.snoc k0 ((R2.dn.mem k).mp zm) hlast) ⟨k0, k1⟩
                (fun x hx => R2.key x ((mem_eraseIdx R2.dn.nd hj x).mp hx).2) (by have := R2.nl; have := List.length_eraseIdx_le ns j; omega) (by show tick ≤ tick + dv; omega) hup (by omega)
              refine ⟨F, _, .ref p, rfl, rfl, h1, by rw [List.length_map, h2]; exact small1000 (by omega), tick + dv, es ++ [⟨tick + dv, k, false⟩], ns.eraseIdx j, _, _, rfl, ?_⟩
              rw [eqm]
              exact R3
          · have zm : ¬ k ∈ ns := fun q => z (decide_eq_true q)
            refine ⟨_, rfl, .inl ⟨rfl, _, SqL.of R2.down⟩, _, rfl, Dn, _, .int k, rfl, rfl, R2.down, by rw [List.length_map]; have := R2.nl; exact small1000 (by omega), ?_⟩
            have hF := R2.found
            have emap : (ns.map V.int) ++ [V.int k] = (ns ++ [k]).map V.int := by rw [List.map_append]; rfl
            rw [emap]
            refine ⟨_, rfl, ?_, _, rfl, _, rfl, (by show 3 ≤ sizeLine; decide), fun p np => ?_⟩
            · obtain ⟨as, hFa, _⟩ := hF
              exact .inl ⟨rfl, _, SqL.of (by rw [upd_ne R2.FD]; exact hFa)⟩
            · obtain ⟨as, h1, h2, R3⟩ := R2.push (e := ⟨tick + dv, k, true⟩) np (R2.dn.down zm) (R2.ok.valid.snoc k0 (R2.dn.not zm) hlast) ⟨k0, k1⟩
                (fun x hx => by
                  rcases List.mem_append.mp hx with hx | hx
                  · exact R2.key x hx
                  · rw [List.mem_singleton.mp hx]; exact ⟨k0, k1⟩) (by rw [List.length_append]; have := R2.nl; simp; omega) (by show tick ≤ tick + dv; omega) hup (by omega)
              refine ⟨F, _, .ref p, rfl, rfl, h1, by rw [List.length_map, h2]; exact small1000 (by omega), tick + dv, es ++ [⟨tick + dv, k, true⟩], ns ++ [k], _, _, rfl, ?_⟩
              rw [eqm]
              exact R3
    · obtain ⟨tick, es, ns, y7, y8, rfl, R⟩ := p
      have e : ((size : Int)).toNat = size := Int.toNat_natCast size
      rw [e] at R
      exact ⟨_, rfl, q H4 F es R.off nF (R.reel.mono (by omega)) R.found R.ok⟩
end
end K15

set_option Elab.async false
set_option linter.all false
set_option maxRecDepth 100000
set_option maxHeartbeats 8000000
namespace K15
open PySem PySem.Spec PyProof.Rows L2 Gd Rm La Cb Pl
/-- x[i] of a tuple or of a text -/
def rIxE (K : PySem.W.Frag) : R2 := fun x y H Q => rIxT K x y H Q ∨ rIxS x y H Q
theorem ix_either {X : Cx} : IxR X (rIxE X.K) := by
  intro value slice pins s σ H x y v u Q I rx ry h hs
  rcases h with h | h
  · exact ix_tup value slice pins s σ H x y v u Q I rx ry h hs
  · exact ix_str value slice pins s σ H x y v u Q I rx ry h hs
/-- the first sign of an action's text, or its word -/
def headW : Actn → Str
  | .none => ⟨#['n'.toNat]⟩
  | .thr => ⟨#['t'.toNat]⟩
  | .code _ => "code"
  | .lay w _ => w
  | .dualC _ _ _ _ => "dual"
  | .dualL _ _ _ _ => "dual"
theorem act_head {K : PySem.W.Frag} {x : Actn} {v : V} {H : Hp} {Q : VK} (h : ActV H x v) (q : Q (.str (headW x)) H) : rIxE K v (.int 0) H Q := by
  cases x with
  | none => cases h; exact .inr ⟨_, 0, _, rfl, rfl, by decide +kernel, rfl, q⟩
  | thr => cases h; exact .inr ⟨_, 0, _, rfl, rfl, by decide +kernel, rfl, q⟩
  | code c => obtain ⟨a, rfl, ha⟩ := h; exact .inl ⟨a, _, 0, _, rfl, rfl, SqT.of ha, atI_nat (j := 0) rfl, q⟩
  | lay w j => obtain ⟨a, rfl, ha⟩ := h; exact .inl ⟨a, _, 0, _, rfl, rfl, SqT.of ha, atI_nat (j := 0) rfl, q⟩
  | dualC c d t r => obtain ⟨a, b, rfl, ha, hb⟩ := h; exact .inl ⟨a, _, 0, _, rfl, rfl, SqT.of ha, atI_nat (j := 0) rfl, q⟩
  | dualL c d t r => obtain ⟨a, b, rfl, ha, hb⟩ := h; exact .inl ⟨a, _, 0, _, rfl, rfl, SqT.of ha, atI_nat (j := 0) rfl, q⟩
theorem head_dual {n i : Int} {x : Actn} (h : ActOk n i x) : decide (headW x = (("dual" : String) : Str)) = isDl x := by
  cases x with
  | lay w j =>
    refine decide_eq_false ?_
    intro e
    have e : w = (("dual" : String) : Str) := e
    subst e
    have := h.1
    revert this
    decide +kernel
  | none => decide +kernel
  | thr => decide +kernel
  | code _ => exact (show decide (((("code" : String) : Str)) = ((("dual" : String) : Str))) = false by decide +kernel)
  | dualC _ _ _ _ => exact (decide_eq_true rfl)
  | dualL _ _ _ _ => exact (decide_eq_true rfl)
theorem neI {a b : Int} {p : Bool} (h : (!decide (a = b)) = p) : V.bl (!decide (V.int a = V.int b)) = .bl p := by
  rw [← h]
  by_cases z : a = b <;> simp [z]
def argL : Actn → Int
  | .lay _ j => j
  | _ => 0
theorem do_lay {n : Nat} {x : Actn} {u : Str} (h : DoOk n x) (e : headW x = u) (hu : u ∈ layWords) : ∃ j, x = .lay u j ∧ 1 ≤ j ∧ j < n := by
  cases x with
  | lay w j => exact ⟨j, by rw [← e]; rfl, h.2.1, h.2.2⟩
  | none => subst e; exact absurd hu (show ¬ headW .none ∈ layWords by decide +kernel)
  | code c => subst e; exact absurd hu (show ¬ (("code" : String) : Str) ∈ layWords by decide +kernel)
  | thr => exact h.elim
  | dualC _ _ _ _ => exact h.elim
  | dualL _ _ _ _ => exact h.elim
theorem do_code {n : Nat} {x : Actn} (h : DoOk n x) (e : headW x = (("code" : String) : Str)) : ∃ c, x = .code c := by
  cases x with
  | code c => exact ⟨c, rfl⟩
  | lay w j =>
    have e : w = (("code" : String) : Str) := e
    subst e
    exact absurd h.1 (show ¬ (("code" : String) : Str) ∈ layWords by decide +kernel)
  | none => exact absurd e (show ¬ headW .none = ((("code" : String) : Str)) by decide +kernel)
  | thr => exact h.elim
  | dualC _ _ _ _ => exact h.elim
  | dualL _ _ _ _ => exact h.elim
theorem dl_two {H : Hp} {x : Actn} {v : V} (hv : ActV H x v) (hd : isDl x = true) : ∃ (a b : Addr) (c r : Str) (t : Int), v = .ref a ∧ H a = some (.tup [.str "dual", .str c, .ref b, .int t, .str r]) ∧ tapOf x = .code c ∧ ActV H (holdOf x) (.ref b) := by
  cases x with
  | dualC c d t r =>
    obtain ⟨a, b, e1, e2, e3⟩ := hv
    exact ⟨a, b, c, r, t, e1, e2, rfl, ⟨b, rfl, e3⟩⟩
  | dualL c j t r =>
    obtain ⟨a, b, e1, e2, e3⟩ := hv
    exact ⟨a, b, c, r, t, e1, e2, rfl, ⟨b, rfl, e3⟩⟩
  | _ => cases hd
def outR : Actn → Outp
  | .code c => .re c
  | _ => .no
theorem relO_eq {s : Sm} {k : Int} : relO s k = outR ((getB s.bd k).getD .none) := by
  unfold relO
  cases getB s.bd k with
  | none => rfl
  | some x => cases x <;> rfl
theorem BdOk.doo {n : Nat} {x : Actn} (h : BdOk n x) : DoOk n x := by
  cases x with
  | code c => exact h
  | lay w j => exact ⟨by rw [h.1]; decide +kernel, h.2.1, by have := h.2.2; omega⟩
  | none => trivial
  | thr => exact h.elim
  | dualC _ _ _ _ => exact h.elim
  | dualL _ _ _ _ => exact h.elim
theorem rel_none {s : Sm} {k : Int} (h : getB s.bd k = none) : release s k = s := by
  unfold Pl.release
  have : dropB s.bd k = s.bd := by
    unfold dropB
    rw [List.filter_eq_self]
    intro p' hp'
    unfold getB at h
    rw [Option.map_eq_none_iff, List.find?_eq_none] at h
    have := h p' hp'
    simpa using this
  rw [this]
end K15

set_option Elab.async false
set_option linter.all false
set_option maxRecDepth 100000
set_option maxHeartbeats 8000000
namespace K15
open PySem PySem.Spec PyProof.Rows L2 Gd Rm La Cb Pl
def outD : Outp → PyData
  | .no => .tuple []
  | .pr c => .tuple [.str "press", .str c]
  | .re c => .tuple [.str "release", .str c]
def OutOk : Outp → Prop
  | .no => True
  | .pr c => CodeOk c
  | .re c => CodeOk c
theorem fit_out {o : Outp} (h : OutOk o) : Fit 500 1 (outD o) := by
  cases o with
  | no => exact ⟨rfl, by decide, by decide +kernel⟩
  | pr c => exact fit_two' (fit_const "press") (fit_code h)
  | re c => exact fit_two' (fit_const "release") (fit_code h)
theorem OutV.dp {K : PySem.W.Frag} {H : Hp} {o : Outp} {v : V} (h : OutV H o v) : Dp K H v (outD o) := by
  obtain ⟨T, rfl, hT⟩ := h
  cases o with
  | no => exact .tup (SqT.of hT) .nil
  | pr c => exact .tup (SqT.of hT) (.cons (.str _) (.cons (.str _) .nil))
  | re c => exact .tup (SqT.of hT) (.cons (.str _) (.cons (.str _) .nil))
theorem out_lay {o : Outp} (h : OutOk o) : SeqAt.shaped (outD o) = true := by
  cases o with
  | no => decide +kernel
  | pr c => simp [SeqAt.shaped, outD, PyData.canLay0, PyData.canLayAll0, PyData.depth, PyData.depthAll, (by decide +kernel : PyData.strOk "press" = true), strOk_code h]
  | re c => simp [SeqAt.shaped, outD, PyData.canLay0, PyData.canLayAll0, PyData.depth, PyData.depthAll, (by decide +kernel : PyData.strOk "release" = true), strOk_code h]
def isOut : Outp → Bool
  | .no => false
  | _ => true
theorem eqv_out : ∀ o : Outp, PyData.eqv (outD o) (.tuple []) = !isOut o
  | .no => by decide +kernel
  | .pr _ => rfl
  | .re _ => rfl
def OutsV (H : Hp) (vs : List V) (os : List Outp) : Prop := vs.length = os.length ∧ ∀ (i : Nat) (v : V) (o : Outp), vs[i]? = some v → os[i]? = some o → OutV H o v
def Outs (H : Hp) (D : Addr) (os : List Outp) : Prop := ∃ vs, H D = some (.lst vs) ∧ OutsV H vs os
section
variable {H H' : Hp} {vs : List V} {os : List Outp} {D : Addr}
theorem OutsV.keep (h : OutsV H vs os) (t : Tk H H') : OutsV H' vs os := ⟨h.1, fun i v o a b => (h.2 i v o a b).keep t⟩
theorem Outs.same (h : Outs H D os) (s : Same H H') : Outs H' D os := by
  obtain ⟨vs, a, b⟩ := h
  exact ⟨vs, s _ _ a, b.keep (Tk.of s)⟩
theorem OutsV.nil : OutsV H [] [] := ⟨rfl, fun i v o h _ => by simp at h⟩
theorem OutsV.snoc {v : V} {o : Outp} (h : OutsV H vs os) (hv : OutV H o v) : OutsV H (vs ++ [v]) (os ++ [o]) := by
  refine ⟨by rw [List.length_append, List.length_append, h.1]; rfl, fun i u y a b => ?_⟩
  have hl := h.1
  rcases Nat.lt_or_ge i vs.length with q | q
  · rw [List.getElem?_append_left q] at a
    rw [List.getElem?_append_left (by omega)] at b
    exact h.2 i u y a b
  · have hi : i = vs.length := by
      have := (List.getElem?_eq_some_iff.mp a).1
      rw [List.length_append] at this
      simp at this
      omega
    subst hi
    rw [List.getElem?_append_right (Nat.le_refl _), Nat.sub_self] at a
    rw [List.getElem?_append_right (by omega), show vs.length - os.length = 0 by omega] at b
    have e1 : v = u := Option.some.inj a
    have e2 : o = y := Option.some.inj b
    subst e1 e2
    exact hv
theorem OutsV.dp {K : PySem.W.Frag} : ∀ {vs : List V} {os : List Outp}, OutsV H vs os → DpAll K H vs (os.map outD)
  | [], [], _ => .nil
  | [], _ :: _, h => by have := h.1; simp at this
  | _ :: _, [], h => by have := h.1; simp at this
  | v :: vs, x :: xs, h => .cons ((h.2 0 v x rfl rfl).dp) (OutsV.dp ⟨by have := h.1; simpa using this, fun i u y a b => h.2 (i + 1) u y (by simpa using a) (by simpa using b)⟩)
theorem Outs.dp {K : PySem.W.Frag} (h : Outs H D os) : Dp K H (.ref D) (.list (os.map outD)) := by
  obtain ⟨vs, a, b⟩ := h
  exact .lst (SqL.of a) b.dp
end
theorem fit_outs {os : List Outp} (h : ∀ o ∈ os, OutOk o) (hl : os.length ≤ 400) : Fit 210000 2 (.list (os.map outD)) := by
  refine Fit.mono (fit_list (L := 500) (n := 1) fun d hd => ?_) (by rw [List.length_map]; omega) (Nat.le_refl _)
  obtain ⟨o, ho, rfl⟩ := List.mem_map.mp hd
  exact fit_out (h o ho)
def outsM (L : List (List Actn)) (es : List Ev) (n : Nat) : List Outp := (List.range n).map (outM L es)
theorem outsM_succ {L : List (List Actn)} {es : List Ev} {n : Nat} : outsM L es (n + 1) = outsM L es n ++ [outM L es n] := by
  unfold outsM
  rw [List.range_succ, List.map_append]
  rfl
theorem outsM_len {L : List (List Actn)} {es : List Ev} {n : Nat} : (outsM L es n).length = n := by unfold outsM; rw [List.length_map, List.length_range]
theorem outM_ok {L : List (List Actn)} {es : List Ev} {m : Nat} (hO : LayOk L m) (hV : Valid es) (hk : ∀ e ∈ es, e.k < (m : Int)) {i : Nat} (hi : i < es.length) : OutOk (outM L es i) := by
  have e := evAt_eq hi
  unfold outM
  split
  · have k0 := (hV i _ (List.getElem?_eq_getElem hi)).1
    have k1 := hk _ (List.getElem_mem hi)
    obtain ⟨_, t2, t3⟩ := taken_ok hO (runS L es i) (k := (evAt es i).k.toNat) (by rw [e]; omega)
    have := what_do (es := es) (j := i) (n := L.length) (x := xAt L es i) t2 t3
    generalize whatM (xAt L es i) (kindM es i (xAt L es i)) = W at this ⊢
    cases W with
    | code c => exact this
    | _ => trivial
  · have hSt := runS_ok hO hV hk i (by omega)
    rw [relO_eq]
    cases g : getB (runS L es i).bd (evAt es i).k with
    | none => trivial
    | some x =>
      obtain ⟨p0, hp0, _, e2⟩ := getB_mem g
      have := hSt.bds p0 hp0
      rw [e2] at this
      cases x with
      | code c => exact this
      | _ => trivial
theorem outsM_ok {L : List (List Actn)} {es : List Ev} {m : Nat} (hO : LayOk L m) (hV : Valid es) (hk : ∀ e ∈ es, e.k < (m : Int)) : ∀ o ∈ outsM L es es.length, OutOk o := fun o ho => by
  unfold outsM at ho
  obtain ⟨i, hi, rfl⟩ := List.mem_map.mp ho
  exact outM_ok hO hV hk (List.mem_range.mp hi)
theorem neD {b : Bool} {x y : PyData} (h : PyData.eqv x y = b) : V.bl (!PyData.eqv x y) = V.bl (!b) := by rw [h]
section
variable {P : Program} {w : World} {K : PySem.W.Frag} {mg : Str → Option Value} {base : Heap}
def spPlayed : Sp := fun vs H Q _ => ∃ (c g : Addr) (L : List (List Actn)) (m : Nat) (es : List Ev), vs = [.ref c, .ref g] ∧ Lay H c L ∧ LayOk L m ∧ Lst evV H g es ∧ Valid es ∧ es.length ≤ 400 ∧ (∀ e ∈ es, e.k < (m : Int)) ∧
  ∀ (H' : Hp) (D : Addr), Same H H' → H D = none → Outs H' D (outsM L es es.length) → Q (.ref D) H'
theorem ok_played (bt : Bt mg) {C : Addr} (a : At K mg "played" s_played ["layout", "record"]) (c_check_playable : Cl P w K mg base 8 "check_playable" spPlayable) (c_play : Cl P w K mg base 3 "play" (spPlay C)) : Cl P w K mg base 9 "played" spPlayed := by
  refine clG a sc_played (fun vs H Q E h => ?_) (fun f cdv A outer s H vs Q hg hr h => ?_)
  · obtain ⟨c, g, L, m, es, rfl, _⟩ := h
    rfl
  · obtain ⟨c, g, L, m, es, rfl, hL, hO, hG, hV, h4, hkm, q⟩ := h
    refine ⟨_, (pss_cons (ps_expr (pe_cl c_check_playable hg hr (by decide) (by rfl) (pa_cons (pv 0) (pa_cons (pv 1) pa_nil))))
      (pss_cons (ps_asg (pe_cl c_play hg hr (by decide) (by rfl) (pa_cons (pv 0) (pa_cons (pv 1) pa_nil))) (pg_tup rfl (pgs_cons (pg_name (i := 2) sc_played.nd rfl (Or.inl rfl)) (pgs_cons (pg_name (i := 3) sc_played.nd rfl (Or.inl rfl)) pgs_nil))))
      (pss_one (ps_ret (pe_lc (own := [("meaning", 4), ("sure", 5), ("output", 6)]) (g := (gTup K 3 (gCons (gName 4) (gCons (gName 5) (gCons (gName 6) gNil))))) (by rfl) sc_played.nd (pi_list (pv 3)) (blkOk_by (N := n_played) (sc := defScope s_played) (by decide +kernel)) (fun _ _ _ _ _ => (pg_tup rfl (pgs_cons (pg_name (i := 4) sc_played.nd rfl (Or.inl rfl)) (pgs_cons (pg_name (i := 5) sc_played.nd rfl (Or.inl rfl)) (pgs_cons (pg_name (i := 6) sc_played.nd rfl (Or.inl rfl)) pgs_nil))))) (fun _ _ _ _ _ => pts_nil) (fun _ _ _ _ _ => (pv 6))))))), ?_⟩
    refine ⟨_, rfl, _, rfl, c, g, L, m, es, rfl, hL, hO, hG, hV, h4, hkm, fun H1 s1 => ?_⟩
    refine ⟨_, rfl, _, rfl, c, g, L, m, es, rfl, hL.same s1, hO, hG.same s1, hV, h4, hkm, fun H2 T p l d e W s2 hT hP hW _ => ?_⟩
    obtain ⟨Ts, w1, w2, w3⟩ := hW
    have s12 := s1.trans s2
    refine ⟨T, _, rfl, SqT.of hT, rfl, _, _, rfl, _, _, rfl, rfl, ?_⟩
    refine ⟨_, rfl, W, rfl, ⟨_, SqL.of w1⟩, fun M nM => lc_it (walk_list (xs := Ts.map V.ref)) (fun j H' => Same H2 H' ∧ ∃ vs, H' M = some (.lst vs) ∧ OutsV H' vs (outsM L es j)) ⟨same_upd nM, [], upd_same, OutsV.nil⟩ (fun j H' _ p => SqL.of (p.1 _ _ w1)) (fun j x Hx Hy hj p y => ?_) (fun H3 p => ?_)⟩
    · obtain ⟨sx, vs, hM, hvs⟩ := p
      obtain ⟨rfl, hx⟩ := y
      have hj' : j < Ts.length := by rw [List.length_map] at hj; exact hj
      have hTj : Ts[j]? = some Ts[j] := List.getElem?_eq_getElem hj'
      have ex : V.ref Ts[j] = x := Option.some.inj ((get_map_ref hTj).symm.trans hx)
      subst ex
      obtain ⟨mv, sv, ov, f1, f2, f3⟩ := w3 j _ hTj
      have hvl := hvs.1
      rw [outsM_len] at hvl
      refine ⟨Ts[j], _, rfl, SqT.of (sx _ _ f1), rfl, _, _, rfl, _, _, rfl, _, _, rfl, rfl, ?_⟩
      refine ⟨rfl, ⟨_, rfl, vs, hM, small1000 (by omega), Same.off sx nM off_upd, vs ++ [ov], upd_same, ?_⟩⟩
      rw [outsM_succ]
      exact (hvs.snoc (f3.keep (Tk.of sx))).keep (tk_upd hM)
    · obtain ⟨sx, vs, hM, hvs⟩ := p
      have en : (Ts.map V.ref).length = es.length := by rw [List.length_map]; exact w2
      rw [en] at hvs
      exact q _ M (s12.trans sx) (none_back s12 nM) ⟨vs, hM, hvs⟩
end
end K15

set_option Elab.async false
set_option linter.all false
set_option maxRecDepth 100000
set_option maxHeartbeats 8000000
namespace K15
open PySem PySem.Spec PyProof.Rows L2 Gd Rm La Cb Pl
/-- lists of values that stand for things -/
def AllV {α : Type} (R : Hp → α → V → Prop) (H : Hp) (vs : List V) (xs : List α) : Prop := vs.length = xs.length ∧ ∀ (i : Nat) (v : V) (x : α), vs[i]? = some v → xs[i]? = some x → R H x v
section
variable {α : Type} {R : Hp → α → V → Prop} {H H' : Hp} {vs : List V} {xs : List α} {D : Addr}
theorem AllV.nil : AllV R H [] [] := ⟨rfl, fun i v o h _ => by simp at h⟩
theorem AllV.keep (h : AllV R H vs xs) (k : ∀ x v, R H x v → R H' x v) : AllV R H' vs xs := ⟨h.1, fun i v x a b => k x v (h.2 i v x a b)⟩
theorem AllV.snoc {v : V} {x : α} (h : AllV R H vs xs) (hv : R H x v) : AllV R H (vs ++ [v]) (xs ++ [x]) := by
  refine ⟨by rw [List.length_append, List.length_append, h.1]; rfl, fun i u y a b => ?_⟩
  have hl := h.1
  rcases Nat.lt_or_ge i vs.length with q | q
  · rw [List.getElem?_append_left q] at a
    rw [List.getElem?_append_left (by omega)] at b
    exact h.2 i u y a b
  · have hi : i = vs.length := by
      have := (List.getElem?_eq_some_iff.mp a).1
      rw [List.length_append] at this
      simp at this
      omega
    subst hi
    rw [List.getElem?_append_right (Nat.le_refl _), Nat.sub_self] at a
    rw [List.getElem?_append_right (by omega), show vs.length - xs.length = 0 by omega] at b
    have e1 : v = u := Option.some.inj a
    have e2 : x = y := Option.some.inj b
    subst e1 e2
    exact hv
theorem AllV.dp {K : PySem.W.Frag} {d : α → PyData} (hd : ∀ x v, R H x v → Dp K H v (d x)) : ∀ {vs : List V} {xs : List α}, AllV R H vs xs → DpAll K H vs (xs.map d)
  | [], [], _ => .nil
  | [], _ :: _, h => by have := h.1; simp at this
  | _ :: _, [], h => by have := h.1; simp at this
  | v :: vs, x :: xs, h => .cons (hd _ _ (h.2 0 v x rfl rfl)) (AllV.dp hd ⟨by have := h.1; simpa using this, fun i u y a b => h.2 (i + 1) u y (by simpa using a) (by simpa using b)⟩)
end
/-- what a press means -/
def MeanV (H : Hp) (t : Td) (v : V) : Prop := match t with
  | .up => v = .non
  | .dn l kind what _ => ∃ M u, v = .ref M ∧ H M = some (.tup [.int (l : Int), .str kind, u]) ∧ ActV H what u
theorem MeanV.keep {H H' : Hp} {t : Td} {v : V} (h : MeanV H t v) (k : Tk H H') : MeanV H' t v := by
  cases t with
  | up => exact h
  | dn l kind what sure =>
    obtain ⟨M, u, h2, h3, h4⟩ := h
    exact ⟨M, u, h2, k _ _ h3, h4.keep k⟩
def meanD : Td → PyData
  | .up => .none
  | .dn l kind what _ => .tuple [.int (l : Int), .str kind, actD what]
theorem MeanV.dp {K : PySem.W.Frag} {H : Hp} {t : Td} {v : V} (h : MeanV H t v) : Dp K H v (meanD t) := by
  cases t with
  | up => cases h; exact .non
  | dn l kind what sure =>
    obtain ⟨M, u, rfl, h3, h4⟩ := h
    exact .tup (SqT.of h3) (.cons (.int _) (.cons (.str _) (.cons h4.dp .nil)))
def tdsM (L : List (List Actn)) (es : List Ev) (n : Nat) : List Td := (List.range n).map (runT L es)
theorem tdsM_succ {L : List (List Actn)} {es : List Ev} {n : Nat} : tdsM L es (n + 1) = tdsM L es n ++ [runT L es n] := by
  unfold tdsM
  rw [List.range_succ, List.map_append]
  rfl
theorem tdsM_len {L : List (List Actn)} {es : List Ev} {n : Nat} : (tdsM L es n).length = n := by unfold tdsM; rw [List.length_map, List.length_range]
def TdOk (n : Nat) : Td → Prop
  | .up => True
  | .dn l kind what _ => l < n ∧ (kind = ("plain" : String) ∨ kind = ("tap" : String) ∨ kind = ("hold" : String)) ∧ DoOk n what
theorem runT_ok {L : List (List Actn)} {es : List Ev} {m : Nat} (hO : LayOk L m) (hV : Valid es) (hk : ∀ e ∈ es, e.k < (m : Int)) {i : Nat} (hi : i < es.length) : TdOk L.length (runT L es i) := by
  have e := evAt_eq hi
  rcases Bool.eq_false_or_eq_true (evAt es i).d with hd | hd
  · rw [runT_dn hd]
    have k0 := (hV i _ (List.getElem?_eq_getElem hi)).1
    have k1 := hk _ (List.getElem_mem hi)
    obtain ⟨t1, t2, t3⟩ := taken_ok hO (runS L es i) (k := (evAt es i).k.toNat) (by rw [e]; omega)
    refine ⟨t1, ?_, what_do (es := es) (j := i) (n := L.length) (x := xAt L es i) t2 t3⟩
    rcases kind_or (es := es) (j := i) (x := xAt L es i) with h | ⟨_, h⟩
    · exact .inl h
    · exact .inr h
  · rw [runT_up hd]; trivial
theorem tdsM_ok {L : List (List Actn)} {es : List Ev} {m : Nat} (hO : LayOk L m) (hV : Valid es) (hk : ∀ e ∈ es, e.k < (m : Int)) : ∀ t ∈ tdsM L es es.length, TdOk L.length t := fun o ho => by
  unfold tdsM at ho
  obtain ⟨i, hi, rfl⟩ := List.mem_map.mp ho
  exact runT_ok hO hV hk (List.mem_range.mp hi)
theorem fit_mean {n : Nat} {t : Td} (h : TdOk n t) (hn : n ≤ 6) : Fit 10000 3 (meanD t) := by
  cases t with
  | up => exact (fit_none).mono (by decide) (by decide)
  | dn l kind what sure =>
    obtain ⟨h1, h2, h3⟩ := h
    refine Fit.mono (fit_tup (L := 3000) (n := 2) fun d hd => ?_) (by show 3 * 3002 + 3 ≤ 10000; decide) (Nat.le_refl _)
    simp only [List.mem_cons, List.mem_nil_iff, or_false] at hd
    rcases hd with rfl | rfl | rfl
    · exact (fit_low (by omega) (by omega)).mono (by decide) (by decide)
    · have : Fit 210 0 (.str kind) := by
        rcases h2 with rfl | rfl | rfl
        · exact fit_const "plain"
        · exact fit_const "tap"
        · exact fit_const "hold"
      exact this.mono (by decide) (by decide)
    · exact fit_act h3.act (by omega)
theorem fit_means {n : Nat} {ts : List Td} (h : ∀ t ∈ ts, TdOk n t) (hn : n ≤ 6) (hl : ts.length ≤ 400) : Fit 5000000 5 (.list (ts.map meanD)) := by
  refine Fit.mono (fit_list (L := 10000) (n := 3) fun d hd => ?_) (by rw [List.length_map]; omega) (by decide)
  obtain ⟨o, ho, rfl⟩ := List.mem_map.mp hd
  exact fit_mean (h o ho) hn
def Means (H : Hp) (D : Addr) (ts : List Td) : Prop := ∃ vs, H D = some (.lst vs) ∧ AllV MeanV H vs ts
theorem Means.same {H H' : Hp} {D : Addr} {ts : List Td} (h : Means H D ts) (s : Same H H') : Means H' D ts := by
  obtain ⟨vs, a, b⟩ := h
  exact ⟨vs, s _ _ a, b.keep fun x v z => z.keep (Tk.of s)⟩
theorem Means.dp {K : PySem.W.Frag} {H : Hp} {D : Addr} {ts : List Td} (h : Means H D ts) : Dp K H (.ref D) (.list (ts.map meanD)) := by
  obtain ⟨vs, a, b⟩ := h
  exact .lst (SqL.of a) (b.dp fun x v z => z.dp)
section
variable {P : Program} {w : World} {K : PySem.W.Frag} {mg : Str → Option Value} {base : Heap}
def spMeanings : Sp := fun vs H Q _ => ∃ (c g : Addr) (L : List (List Actn)) (m : Nat) (es : List Ev), vs = [.ref c, .ref g] ∧ Lay H c L ∧ LayOk L m ∧ Lst evV H g es ∧ Valid es ∧ es.length ≤ 400 ∧ (∀ e ∈ es, e.k < (m : Int)) ∧
  ∀ (H' : Hp) (D : Addr), Same H H' → H D = none → Means H' D (tdsM L es es.length) → Q (.ref D) H'
theorem ok_meanings (bt : Bt mg) {C : Addr} (a : At K mg "meanings" s_meanings ["layout", "record"]) (c_check_playable : Cl P w K mg base 8 "check_playable" spPlayable) (c_play : Cl P w K mg base 3 "play" (spPlay C)) : Cl P w K mg base 9 "meanings" spMeanings := by
  refine clG a sc_meanings (fun vs H Q E h => ?_) (fun f cdv A outer s H vs Q hg hr h => ?_)
  · obtain ⟨c, g, L, m, es, rfl, _⟩ := h
    rfl
  · obtain ⟨c, g, L, m, es, rfl, hL, hO, hG, hV, h4, hkm, q⟩ := h
    refine ⟨_, (pss_cons (ps_expr (pe_cl c_check_playable hg hr (by decide) (by rfl) (pa_cons (pv 0) (pa_cons (pv 1) pa_nil))))
      (pss_cons (ps_asg (pe_cl c_play hg hr (by decide) (by rfl) (pa_cons (pv 0) (pa_cons (pv 1) pa_nil))) (pg_tup rfl (pgs_cons (pg_name (i := 2) sc_meanings.nd rfl (Or.inl rfl)) (pgs_cons (pg_name (i := 3) sc_meanings.nd rfl (Or.inl rfl)) pgs_nil))))
      (pss_one (ps_ret (pe_lc (own := [("meaning", 4), ("sure", 5), ("output", 6)]) (g := (gTup K 3 (gCons (gName 4) (gCons (gName 5) (gCons (gName 6) gNil))))) (by rfl) sc_meanings.nd (pi_list (pv 3)) (blkOk_by (N := n_meanings) (sc := defScope s_meanings) (by decide +kernel)) (fun _ _ _ _ _ => (pg_tup rfl (pgs_cons (pg_name (i := 4) sc_meanings.nd rfl (Or.inl rfl)) (pgs_cons (pg_name (i := 5) sc_meanings.nd rfl (Or.inl rfl)) (pgs_cons (pg_name (i := 6) sc_meanings.nd rfl (Or.inl rfl)) pgs_nil))))) (fun _ _ _ _ _ => pts_nil) (fun _ _ _ _ _ => (pv 4))))))), ?_⟩
    refine ⟨_, rfl, _, rfl, c, g, L, m, es, rfl, hL, hO, hG, hV, h4, hkm, fun H1 s1 => ?_⟩
    refine ⟨_, rfl, _, rfl, c, g, L, m, es, rfl, hL.same s1, hO, hG.same s1, hV, h4, hkm, fun H2 T p l d e W s2 hT hP hW _ => ?_⟩
    obtain ⟨Ts, w1, w2, w3⟩ := hW
    have s12 := s1.trans s2
    refine ⟨T, _, rfl, SqT.of hT, rfl, _, _, rfl, _, _, rfl, rfl, ?_⟩
    refine ⟨_, rfl, W, rfl, ⟨_, SqL.of w1⟩, fun M nM => lc_it (walk_list (xs := Ts.map V.ref)) (fun j H' => Same H2 H' ∧ ∃ vs, H' M = some (.lst vs) ∧ AllV MeanV H' vs (tdsM L es j)) ⟨same_upd nM, [], upd_same, AllV.nil⟩ (fun j H' _ p => SqL.of (p.1 _ _ w1)) (fun j x Hx Hy hj p y => ?_) (fun H3 p => ?_)⟩
    · obtain ⟨sx, vs, hM, hvs⟩ := p
      obtain ⟨rfl, hx⟩ := y
      have hj' : j < Ts.length := by rw [List.length_map] at hj; exact hj
      have hTj : Ts[j]? = some Ts[j] := List.getElem?_eq_getElem hj'
      have ex : V.ref Ts[j] = x := Option.some.inj ((get_map_ref hTj).symm.trans hx)
      subst ex
      obtain ⟨mv, sv, ov, f1, f2, f3⟩ := w3 j _ hTj
      have hvl := hvs.1
      rw [tdsM_len] at hvl
      have fm : MeanV H2 (runT L es j) mv := by
        cases e : runT L es j with
        | up => rw [e] at f2; exact f2.1
        | dn l kind what sure => rw [e] at f2; exact f2.2
      refine ⟨Ts[j], _, rfl, SqT.of (sx _ _ f1), rfl, _, _, rfl, _, _, rfl, _, _, rfl, rfl, ?_⟩
      refine ⟨rfl, ⟨_, rfl, vs, hM, small1000 (by omega), Same.off sx nM off_upd, vs ++ [mv], upd_same, ?_⟩⟩
      rw [tdsM_succ]
      exact (hvs.snoc (fm.keep (Tk.of sx))).keep fun x v z => z.keep (tk_upd hM)
    · obtain ⟨sx, vs, hM, hvs⟩ := p
      have en : (Ts.map V.ref).length = es.length := by rw [List.length_map]; exact w2
      rw [en] at hvs
      exact q _ M (s12.trans sx) (none_back s12 nM) ⟨vs, hM, hvs⟩
end
end K15

set_option Elab.async false
set_option linter.all false
set_option maxRecDepth 100000
set_option maxHeartbeats 8000000
namespace K15
open PySem PySem.Spec PyProof.Rows L2 Gd Rm La Cb Pl
section
variable {α : Type} {R : Hp → α → V → Prop} {H H' : Hp} {vs : List V} {xs : List α} {D : Addr}
end
def sureT : Td → Option Nat
  | .up => none
  | .dn _ _ _ s => s
def suresM (L : List (List Actn)) (es : List Ev) (n : Nat) : List (Option Nat) := (List.range n).map fun i => sureT (runT L es i)
theorem suresM_succ {L : List (List Actn)} {es : List Ev} {n : Nat} : suresM L es (n + 1) = suresM L es n ++ [sureT (runT L es n)] := by
  unfold suresM
  rw [List.range_succ, List.map_append]
  rfl
theorem suresM_len {L : List (List Actn)} {es : List Ev} {n : Nat} : (suresM L es n).length = n := by unfold suresM; rw [List.length_map, List.length_range]
theorem sureT_lt {L : List (List Actn)} {es : List Ev} {i j : Nat} (h : sureT (runT L es i) = some j) : j < es.length := by
  rcases Bool.eq_false_or_eq_true (evAt es i).d with hd | hd
  · rw [runT_dn hd] at h
    have h : (if isDl (xAt L es i) then sureM es i (xAt L es i) else none) = some j := h
    split at h
    · exact (sureM_lt h).2
    · cases h
  · rw [runT_up hd] at h; cases h
theorem suresM_lt {L : List (List Actn)} {es : List Ev} {n : Nat} : ∀ o ∈ suresM L es n, ∀ j, o = some j → j < es.length := fun o ho j hj => by
  unfold suresM at ho
  obtain ⟨i, _, rfl⟩ := List.mem_map.mp ho
  exact sureT_lt hj
def optND : Option Nat → PyData
  | none => .none
  | some n => .int (n : Int)
theorem dpOptN {K : PySem.W.Frag} {H : Hp} : ∀ os : List (Option Nat), DpAll K H (os.map optN) (os.map optND)
  | [] => .nil
  | none :: os => .cons .non (dpOptN os)
  | some n :: os => .cons (.int _) (dpOptN os)
theorem fit_optN {os : List (Option Nat)} (h : ∀ o ∈ os, ∀ j, o = some j → j ≤ 1000) (hl : os.length ≤ 1000) : Fit 1100000 2 (.list (os.map optND)) := by
  refine Fit.mono (fit_list (L := 210) (n := 0) fun d hd => ?_) (by rw [List.length_map]; omega) (by omega)
  obtain ⟨o, ho, rfl⟩ := List.mem_map.mp hd
  cases o with
  | none => exact ⟨rfl, Nat.le_refl _, by decide +kernel⟩
  | some j =>
    have := h _ ho j rfl
    exact fit_low (by omega) (by omega)
section
variable {P : Program} {w : World} {K : PySem.W.Frag} {mg : Str → Option Value} {base : Heap}
def spSureBy : Sp := fun vs H Q _ => ∃ (c g : Addr) (L : List (List Actn)) (m : Nat) (es : List Ev), vs = [.ref c, .ref g] ∧ Lay H c L ∧ LayOk L m ∧ Lst evV H g es ∧ Valid es ∧ es.length ≤ 400 ∧ (∀ e ∈ es, e.k < (m : Int)) ∧
  ∀ (H' : Hp) (D : Addr), Same H H' → H D = none → H' D = some (.lst ((suresM L es es.length).map optN)) → Q (.ref D) H'
theorem ok_sure_by (bt : Bt mg) {C : Addr} (a : At K mg "sure_by" s_sure_by ["layout", "record"]) (c_check_playable : Cl P w K mg base 8 "check_playable" spPlayable) (c_play : Cl P w K mg base 3 "play" (spPlay C)) : Cl P w K mg base 9 "sure_by" spSureBy := by
  refine clG a sc_sure_by (fun vs H Q E h => ?_) (fun f cdv A outer s H vs Q hg hr h => ?_)
  · obtain ⟨c, g, L, m, es, rfl, _⟩ := h
    rfl
  · obtain ⟨c, g, L, m, es, rfl, hL, hO, hG, hV, h4, hkm, q⟩ := h
    refine ⟨_, (pss_cons (ps_expr (pe_cl c_check_playable hg hr (by decide) (by rfl) (pa_cons (pv 0) (pa_cons (pv 1) pa_nil))))
      (pss_cons (ps_asg (pe_cl c_play hg hr (by decide) (by rfl) (pa_cons (pv 0) (pa_cons (pv 1) pa_nil))) (pg_tup rfl (pgs_cons (pg_name (i := 2) sc_sure_by.nd rfl (Or.inl rfl)) (pgs_cons (pg_name (i := 3) sc_sure_by.nd rfl (Or.inl rfl)) pgs_nil))))
      (pss_one (ps_ret (pe_lc (own := [("meaning", 4), ("sure", 5), ("output", 6)]) (g := (gTup K 3 (gCons (gName 4) (gCons (gName 5) (gCons (gName 6) gNil))))) (by rfl) sc_sure_by.nd (pi_list (pv 3)) (blkOk_by (N := n_sure_by) (sc := defScope s_sure_by) (by decide +kernel)) (fun _ _ _ _ _ => (pg_tup rfl (pgs_cons (pg_name (i := 4) sc_sure_by.nd rfl (Or.inl rfl)) (pgs_cons (pg_name (i := 5) sc_sure_by.nd rfl (Or.inl rfl)) (pgs_cons (pg_name (i := 6) sc_sure_by.nd rfl (Or.inl rfl)) pgs_nil))))) (fun _ _ _ _ _ => pts_nil) (fun _ _ _ _ _ => (pv 5))))))), ?_⟩
    refine ⟨_, rfl, _, rfl, c, g, L, m, es, rfl, hL, hO, hG, hV, h4, hkm, fun H1 s1 => ?_⟩
    refine ⟨_, rfl, _, rfl, c, g, L, m, es, rfl, hL.same s1, hO, hG.same s1, hV, h4, hkm, fun H2 T p l d e W s2 hT hP hW _ => ?_⟩
    obtain ⟨Ts, w1, w2, w3⟩ := hW
    have s12 := s1.trans s2
    refine ⟨T, _, rfl, SqT.of hT, rfl, _, _, rfl, _, _, rfl, rfl, ?_⟩
    refine ⟨_, rfl, W, rfl, ⟨_, SqL.of w1⟩, fun M nM => lc_it (walk_list (xs := Ts.map V.ref)) (fun j H' => Same H2 H' ∧ H' M = some (.lst ((suresM L es j).map optN))) ⟨same_upd nM, upd_same⟩ (fun j H' _ p => SqL.of (p.1 _ _ w1)) (fun j x Hx Hy hj p y => ?_) (fun H3 p => ?_)⟩
    · obtain ⟨sx, hM⟩ := p
      obtain ⟨rfl, hx⟩ := y
      have hj' : j < Ts.length := by rw [List.length_map] at hj; exact hj
      have hTj : Ts[j]? = some Ts[j] := List.getElem?_eq_getElem hj'
      have ex : V.ref Ts[j] = x := Option.some.inj ((get_map_ref hTj).symm.trans hx)
      subst ex
      obtain ⟨mv, sv, ov, f1, f2, f3⟩ := w3 j _ hTj
      have fm : sv = optN (sureT (runT L es j)) := by
        cases e : runT L es j with
        | up => rw [e] at f2; exact f2.2
        | dn l kind what sure => rw [e] at f2; exact f2.1
      subst fm
      refine ⟨Ts[j], _, rfl, SqT.of (sx _ _ f1), rfl, _, _, rfl, _, _, rfl, _, _, rfl, rfl, ?_⟩
      refine ⟨rfl, ⟨_, rfl, _, hM, by rw [List.length_map, suresM_len]; exact small1000 (by omega), Same.off sx nM off_upd, ?_⟩⟩
      rw [upd_same, suresM_succ, List.map_append]
      rfl
    · obtain ⟨sx, hM⟩ := p
      have en : (Ts.map V.ref).length = es.length := by rw [List.length_map]; exact w2
      rw [en] at hM
      exact q _ M (s12.trans sx) (none_back s12 nM) hM
end
end K15

set_option Elab.async false
set_option linter.all false
set_option maxRecDepth 100000
set_option maxHeartbeats 8000000
namespace K15
open PySem PySem.Spec PyProof.Rows L2 Gd Rm La Cb Pl
def cdF (q : Key × V) : Option Str := match q.1, q.2 with
  | .inr y, .int z => if 0 < z then some y else none
  | _, _ => none
theorem cdF_some {q : Key × V} {y : Str} (h : cdF q = some y) : ∃ z, q = (Sum.inr y, .int z) ∧ 0 < z := by
  obtain ⟨k, v⟩ := q
  unfold cdF at h
  cases k with
  | inl k => cases v <;> cases h
  | inr x =>
    cases v with
    | int z =>
      have h : (if 0 < z then some x else none) = some y := h
      by_cases hz : 0 < z
      · rw [if_pos hz] at h
        exact ⟨z, by rw [Option.some.inj h], hz⟩
      · rw [if_neg hz] at h; cases h
    | _ => cases h
def cds (l : List (Key × V)) : List Str := l.filterMap cdF
theorem cds_nd {l : List (Key × V)} (h : (l.map (·.1)).Nodup) : (cds l).Nodup := by
  unfold cds
  refine List.pairwise_filterMap.mpr ((List.pairwise_map.mp h).imp fun {a b} ne y hy y' hy' e => ne ?_)
  obtain ⟨z, rfl, _⟩ := cdF_some hy
  obtain ⟨z', rfl, _⟩ := cdF_some hy'
  rw [e]
theorem cds_mem {l : List (Key × V)} {cn : Str → Int} (h : (l.map (·.1)).Nodup) (hv : ∀ y, (valV l (Sum.inr y)).getD (.int 0) = .int (cn y)) (y : Str) : y ∈ cds l ↔ 0 < cn y := by
  constructor
  · intro hy
    obtain ⟨q, hq, e⟩ := List.mem_filterMap.mp hy
    obtain ⟨z, rfl, hz⟩ := cdF_some e
    obtain ⟨i, hi⟩ := List.getElem?_of_mem hq
    have := hv y
    rw [val_at h hi] at this
    have : z = cn y := V.int.inj this
    omega
  · intro hp
    have := hv y
    cases e : valV l (Sum.inr y) with
    | none =>
      rw [e] at this
      have : (0 : Int) = cn y := V.int.inj this
      omega
    | some v =>
      rw [e] at this
      have ev : v = .int (cn y) := this
      unfold valV at e
      cases f : l.find? (fun kv => decide (kv.1 = Sum.inr y)) with
      | none => rw [f] at e; cases e
      | some q =>
        rw [f] at e
        have e2 : q.2 = v := Option.some.inj e
        have e1 : q.1 = Sum.inr y := of_decide_eq_true (List.find?_some (p := fun kv : Key × V => decide (kv.1 = Sum.inr y)) f)
        refine List.mem_filterMap.mpr ⟨q, List.mem_of_find?_eq_some f, ?_⟩
        obtain ⟨k, w⟩ := q
        have e1 : k = Sum.inr y := e1
        have e2 : w = v := e2
        subst e1 e2 ev
        show (if 0 < cn y then some y else none) = some y
        rw [if_pos hp]
section
variable {P : Program} {w : World} {K : PySem.W.Frag} {mg : Str → Option Value} {base : Heap}
def spDownC (C : Addr) : Sp := fun vs H Q _ => ∃ (p c l d e : Addr) (n : Nat) (s : Sm) (cn : Str → Int), vs = [.ref p] ∧ PAt C H p c l d e n s ∧ Pc H e cn ∧ n ≤ 500 ∧
  ∀ (H' : Hp) (D : Addr) (ds : List Str), Same H H' → H D = none → H' D = some (.lst (ds.map V.str)) → ds.Pairwise (fun x y => Ss.stLt y x = false) → ds.Nodup → (∀ y, y ∈ ds ↔ 0 < cn y) → Q (.ref D) H'
theorem ok_down_codes (bt : Bt mg) {C : Addr} (cp : Cp K C) (a : AtM K C "down_codes" "Player.down_codes" s_down_codes ["self"]) : ClM P w K mg base 1 C "down_codes" (spDownC C) := by
  have cl_Player := cp.cl
  refine clMG a sc_down_codes (fun vs H Q E h => ?_) (fun f cdv A outer s H vs Q hg hr h => ?_)
  · obtain ⟨p, c, l, d, e, n, s, cn, rfl, _⟩ := h
    rfl
  · obtain ⟨p, c, l, d, e, n, s, cn, rfl, hP, hC, hn, q⟩ := h
    refine ⟨_, (pss_one (ps_ret (pe_callB Ss.call_sortedT (by rfl) bt.m_sorted (by decide +kernel) (pa_cons (pe_lock (pe_lc (own := [("code", 1), ("many", 2)]) (g := (gTup K 2 (gCons (gName 1) (gCons (gName 2) gNil)))) (by rfl) sc_down_codes.nd (pi_items (pe_fld (pv 0) rfl)) (blkOk_by (N := n_down_codes) (sc := defScope s_down_codes) (by decide +kernel)) (fun _ _ _ _ _ => (pg_tup rfl (pgs_cons (pg_name (i := 1) sc_down_codes.nd rfl (Or.inl rfl)) (pgs_cons (pg_name (i := 2) sc_down_codes.nd rfl (Or.inl rfl)) pgs_nil)))) (fun _ _ _ _ _ => (pts_one (pt_cmpR op_gt (pv 2) pe_int (nomark _)))) (fun _ _ _ _ _ => (pv 1)))) pa_nil)))), ?_⟩
    obtain ⟨dx, hp⟩ := hP.ob
    obtain ⟨pvs, he, hv, hk, nd⟩ := hC
    obtain ⟨pvs', he', hln, _⟩ := hP.pr
    cases HO.dK.inj (Option.some.inj (he'.symm.trans he))
    have pe : p ≠ e := ne_of hp he (by intro z; cases z)
    refine ⟨e, _, he, True.intro, fun od => ?_⟩
    have hp1 : upd H e (.frz od (.dK pvs)) p = some (.ins C dx (flds c l s.on d e)) := by rw [upd_ne pe]; exact hp
    refine ⟨_, rfl, p, C, dx, _, _, rfl, hp1, cp.cl, cp.n5, f_pressed, e, od, pvs, rfl, upd_same, fun M nM => lc_it walk_items (fun j H' => Same (upd H e (.frz od (.dK pvs))) H' ∧ H' M = some (.lst ((cds (pvs.take j)).map V.str))) ⟨same_upd nM, upd_same⟩ (fun j H' _ z => z.1 _ _ upd_same) (fun j x Hx Hy hj z y => ?_) (fun H2 z => ?_)⟩
    · obtain ⟨sx, hM⟩ := z
      obtain ⟨T, u, v, rfl, nT, rfl, e1, e2⟩ := y
      have hq : pvs[j]? = some pvs[j] := List.getElem?_eq_getElem hj
      have e1 : pvs[j]?.map (fun kv => kV kv.1) = some u := e1
      have e2 : pvs[j]?.map Prod.snd = some v := e2
      rw [hq] at e1 e2
      have e1 : kV pvs[j].1 = u := Option.some.inj e1
      have e2 : pvs[j].2 = v := Option.some.inj e2
      have hval := val_at (k := pvs[j].1) (v := pvs[j].2) nd hq
      obtain ⟨y', ey⟩ := hk _ _ hval
      have hz := hv y'
      rw [← ey, hval] at hz
      have hz : pvs[j].2 = .int (cn y') := hz
      rw [ey] at e1
      rw [hz] at e2
      subst e1 e2
      have kT := same_upd (o := .tup [kV (Sum.inr y' : Key), .int (cn y')]) nT
      have sy := sx.trans kT
      have hM2 := kT _ _ hM
      have et : cds (pvs.take (j + 1)) = cds (pvs.take j) ++ if 0 < cn y' then [y'] else [] := by
        unfold cds
        rw [List.take_add_one, hq, List.filterMap_append]
        have ef : cdF pvs[j] = if 0 < cn y' then some y' else none := by
          have : pvs[j] = (Sum.inr y', .int (cn y')) := Prod.ext ey hz
          rw [this]
          rfl
        show _ ++ [pvs[j]].filterMap cdF = _
        rw [List.filterMap_cons, ef, List.filterMap_nil]
        by_cases hc : 0 < cn y'
        · rw [if_pos hc, if_pos hc]
        · rw [if_neg hc, if_neg hc]
      have cl : (cds (pvs.take j)).length ≤ 500 := Nat.le_trans (List.length_filterMap_le ..) (by rw [List.length_take]; omega)
      refine ⟨T, _, rfl, SqT.of upd_same, rfl, _, _, rfl, _, _, rfl, rfl, ⟨rfl, ?_⟩⟩
      refine ⟨_, rfl, _, _, rfl, rfl, decide (0 < cn y'), rfl, ?_⟩
      rw [et]
      by_cases hc : 0 < cn y'
      · rw [decide_eq_true hc, if_pos hc]
        refine iteT ⟨_, rfl, _, hM2, small1000 (by rw [List.length_map]; omega), Same.off sy nM off_upd, ?_⟩
        rw [upd_same, List.map_append]
        rfl
      · rw [decide_eq_false hc, if_neg hc, List.append_nil]
        exact iteF ⟨sy, hM2⟩
    · obtain ⟨sx, hM⟩ := z
      rw [List.take_length] at hM
      have hM0 : M ≠ e := (ne_of_none (upd_same (H := H) (a := e) (o := .frz od (.dK pvs))) nM).symm
      have sH : Same H (upd H2 e (.dK pvs)) := fun b o hb => by
        by_cases z : b = e
        · rw [z] at hb ⊢
          rw [upd_same, ← hb, he]
        · rw [upd_ne z]
          exact sx _ _ (by rw [upd_ne z]; exact hb)
      refine ⟨sx _ _ upd_same, M, cds pvs, rfl, SqL.of (by rw [upd_ne hM0]; exact hM), fun ds D perm asc nD => ?_⟩
      exact q _ D ds (sH.trans (same_upd nD)) (none_back sH nD) upd_same asc (perm.nodup_iff.mpr (cds_nd nd)) fun y => perm.mem_iff.trans (cds_mem nd hv y)
def spCodesDown : Sp := fun vs H Q _ => ∃ (c g : Addr) (L : List (List Actn)) (m : Nat) (es : List Ev), vs = [.ref c, .ref g] ∧ Lay H c L ∧ LayOk L m ∧ Lst evV H g es ∧ Valid es ∧ es.length ≤ 400 ∧ (∀ e ∈ es, e.k < (m : Int)) ∧
  ∀ (H' : Hp) (D : Addr) (ds : List Str), Same H H' → H D = none → H' D = some (.lst (ds.map V.str)) → ds.Pairwise (fun x y => Ss.stLt y x = false) → ds.Nodup → (∀ y, y ∈ ds ↔ 0 < cnO L es es.length y) → Q (.ref D) H'
theorem ok_codes_down (bt : Bt mg) {C : Addr} (cp : Cp K C) (a : At K mg "codes_down" s_codes_down ["layout", "record"]) (c_check_playable : Cl P w K mg base 8 "check_playable" spPlayable) (c_play : Cl P w K mg base 3 "play" (spPlay C)) (c_down_codes : ClM P w K mg base 1 C "down_codes" (spDownC C)) : Cl P w K mg base 9 "codes_down" spCodesDown := by
  have cl_Player := cp.cl
  refine clG a sc_codes_down (fun vs H Q E h => ?_) (fun f cdv A outer s H vs Q hg hr h => ?_)
  · obtain ⟨c, g, L, m, es, rfl, _⟩ := h
    rfl
  · obtain ⟨c, g, L, m, es, rfl, hL, hO, hG, hV, h4, hkm, q⟩ := h
    refine ⟨_, (pss_cons (ps_expr (pe_cl c_check_playable hg hr (by decide) (by rfl) (pa_cons (pv 0) (pa_cons (pv 1) pa_nil))))
      (pss_cons (ps_asg (pe_cl c_play hg hr (by decide) (by rfl) (pa_cons (pv 0) (pa_cons (pv 1) pa_nil))) (pg_tup rfl (pgs_cons (pg_name (i := 2) sc_codes_down.nd rfl (Or.inl rfl)) (pgs_cons (pg_name (i := 3) sc_codes_down.nd rfl (Or.inl rfl)) pgs_nil))))
      (pss_one (ps_ret (pe_clM0 c_down_codes cl_Player hg hr (by decide) (pv 2)))))), ?_⟩
    refine ⟨_, rfl, _, rfl, c, g, L, m, es, rfl, hL, hO, hG, hV, h4, hkm, fun H1 s1 => ?_⟩
    refine ⟨_, rfl, _, rfl, c, g, L, m, es, rfl, hL.same s1, hO, hG.same s1, hV, h4, hkm, fun H2 T p l d e W s2 hT hP hW hC => ?_⟩
    have s12 := s1.trans s2
    obtain ⟨dx, hp⟩ := hP.ob
    refine ⟨T, _, rfl, SqT.of hT, rfl, _, _, rfl, _, _, rfl, rfl, ?_⟩
    exact ⟨_, rfl, p, dx, _, rfl, hp, f_no (by decide +kernel), p, c, l, d, e, es.length, runS L es es.length, _, rfl, hP, hC, by omega, fun H3 D ds s3 nD hD h1 h2 h3 => q _ D ds (s12.trans s3) (none_back s12 nD) hD h1 h2 h3⟩
end
end K15

set_option Elab.async false
set_option linter.all false
set_option maxRecDepth 100000
set_option maxHeartbeats 8000000
namespace K15
open PySem PySem.Spec PyProof.Rows L2 Gd Rm La Cb Pl
section
variable {P : Program} {w : World} {K : PySem.W.Frag} {mg : Str → Option Value} {base : Heap}
/-! ### the program's small tests -/
def spBelowN : Sp := fun vs H Q _ => ∃ k : Int, vs = [.int k, .non] ∧ Q (.bl true) H
theorem ok_is_belowN (a : At K mg "is_below" s_is_below ["key", "many"]) : Cl P w K mg base 1 "is_below" spBelowN := by
  refine clG a sc_is_below (fun vs H Q E h => ?_) (fun f cdv A outer s H vs Q hg hr h => ?_)
  · obtain ⟨k, rfl, _⟩ := h
    rfl
  · obtain ⟨k, rfl, q⟩ := h
    refine ⟨_, (pss_one (ps_ret (pe_or (pe_cmpR op_isN (pv 1) pe_non (nomark _)) (pe_one (pe_cmpR op_lt (pv 0) (pv 1) (nomark _)))))), ?_⟩
    exact ⟨_, rfl, rfl, _, rfl, iteT q⟩
def spCheckN : Sp := fun vs H Q _ => ∃ (c : Addr) (es : List Ev), vs = [.ref c, .non] ∧ Lst evV H c es ∧ Valid es ∧ es.length ≤ 400 ∧ ∀ H', Same H H' → Q .non H'
theorem ok_check_recordN (bt : Bt mg) (a : AtX K mg "check_record" s_check_record ["value", "many"] [.none]) (c_is_short_list : Cl P w K mg base 1 "is_short_list" spShort) (c_is_event : Cl P w K mg base 3 "is_event" spEvent) (c_can_follow : Cl P w K mg base 2 "can_follow" spFollow) (c_is_below : Cl P w K mg base 1 "is_below" spBelowN) :
    ClD P w K mg base 4 "check_record" spCheckN [.non] := by
  refine clXD a (.cons rfl .nil) sc_check_record (fun vs H Q E h => ?_) (fun f cdv A outer s H vs Q hg hr h => ?_)
  · obtain ⟨a, e, rfl, _⟩ := h
    rfl
  · obtain ⟨c, es, rfl, hL, hV, hl, q⟩ := h
    refine ⟨_, (pss_cons (ps_if (pt_not (pt_val (pe_cl c_is_short_list hg hr (by decide) (by rfl) (pa_cons (pv 0) pa_nil)))) pss_never pss_nil)
      (pss_cons (ps_set (i := 2) sc_check_record.nd rfl (Or.inl rfl) pe_dnewK)
      (pss_one (ps_for PassesOwn.never rfl (pi_enum (by rfl) bt.m_enumerate (pa_cons (pv 0) pa_nil)) (pg_tup rfl (pgs_cons (pg_name (i := 3) sc_check_record.nd rfl (Or.inl rfl)) (pgs_cons (pg_name (i := 4) sc_check_record.nd rfl (Or.inl rfl)) pgs_nil))) (pss_cons (ps_if (PW.pt (pw_or (pt_not (pt_val (pe_cl c_is_event hg hr (by decide) (by rfl) (pa_cons (pv 4) pa_nil)))) (pw_or1 (pt_not (pt_truth (pe_cl c_is_below hg hr (by decide) (by rfl) (pa_cons (pe_ix ix_tup (pv 4) pe_int (fun _ _ => rfl)) (pa_cons (pv 1) pa_nil))) (by intro _; rfl)))))) pss_never pss_nil)
      (pss_one (ps_if (pt_not (pt_val (pe_cl c_can_follow hg hr (by decide) (by rfl) (pa_cons (pv 4) (pa_cons (pe_ifExp (pt_cmpR op_gt (pv 3) pe_int (nomark _)) (pe_ix ix_list (pv 0) (pe_op op_sub (pv 3) pe_int) (fun _ _ => rfl)) pe_non) (pa_cons (pv 2) pa_nil)))))) pss_never pss_nil))))))), ?_⟩
    obtain ⟨as, hc, hT⟩ := hL
    have hlen : (as.map V.ref).length = es.length := by rw [List.length_map]; exact hT.1
    refine ⟨_, rfl, c, _, rfl, hc, by omega, _, rfl, iteF ?_⟩
    intro d nd
    refine ⟨_, rfl, c, _, rfl, SqL.of ((same_upd nd) _ _ hc), for_it (walk_enum (xs := as.map V.ref))
      (fun i σ H' => Same H H' ∧ ∃ kvs y2 y3, σ = [some (.ref c), some .non, some (.ref d), y2, y3] ∧ H' d = some (.dK kvs) ∧ kvs.length ≤ i ∧ HeldK kvs (heldB (es.take i)))
      ⟨same_upd nd, _, _, _, rfl, upd_same, Nat.le_refl _, HeldK.nil⟩ (fun _ _ H' _ p => SqL.of (p.1 _ _ hc)) (fun i x σ H1 H2 hi p y => ?_) (fun σ H1 p => ?_)⟩
    · obtain ⟨s1, kvs, y2, y3, rfl, hd, hkl, hk⟩ := p
      obtain ⟨T, u, v, rfl, nT, rfl, e1, e2⟩ := y
      have hi' : i < es.length := by omega
      obtain ⟨b, hb, hbt⟩ := hT.at_ hi'
      have he : es[i]? = some es[i] := List.getElem?_eq_getElem hi'
      obtain ⟨v1, v2, v3⟩ := hV i _ he
      have e2' : v = .ref b := by
        have e2 : (as.map V.ref)[i]? = some v := e2
        rw [List.getElem?_map, hb] at e2
        exact (Option.some.inj e2).symm
      subst e2'
      have e1' : u = .int (i : Nat) := (Option.some.inj e1).symm
      subst e1'
      have s2 : Same H (upd H1 T (.tup [.int (i : Nat), .ref b])) := s1.trans (same_upd nT)
      have hb2 := s2 _ _ hbt
      refine ⟨T, _, rfl, SqT.of upd_same, rfl, _, _, rfl, _, _, rfl, rfl, ?_⟩
      refine ⟨_, rfl, b, _, rfl, hb2, v1, fun H3 s3 => ?_⟩
      have s4 := s2.trans s3
      have hb4 := s4 _ _ hbt
      refine ⟨_, rfl, iteF ?_⟩
      refine ⟨_, rfl, b, _, _, _, rfl, rfl, SqT.of hb4, atI_nat (j := 1) rfl, _, rfl, es[i].k, rfl, _, rfl, iteF ?_⟩
      have hd4 : H3 d = some (.dK kvs) := s3 _ _ ((same_upd nT) _ _ hd)
      have fin : Same H (upd H3 d (.dK (putK kvs (Sum.inl es[i].k) (.bl es[i].d)))) ∧ ∃ kvs' y2 y3, [some (V.ref c), some V.non, some (V.ref d), some (V.int (i : Nat)), some (V.ref b)] = [some (V.ref c), some V.non, some (V.ref d), y2, y3] ∧
          upd H3 d (.dK (putK kvs (Sum.inl es[i].k) (.bl es[i].d))) d = some (.dK kvs') ∧ kvs'.length ≤ i + 1 ∧ HeldK kvs' (heldB (es.take (i + 1))) := by
        refine ⟨Same.off s4 nd off_upd, _, _, _, rfl, upd_same, ?_, ?_⟩
        · have := put_len kvs (Sum.inl es[i].k) (.bl es[i].d); omega
        · rw [List.take_add_one, he]
          exact hk.put
      have hv : (valV kvs (Sum.inl es[i].k)).getD (.bl false) = .bl (!es[i].d) := by rw [hk.at_, v2]
      have hz : kvs.length < sizeLine := small1000 (by omega)
      refine ⟨_, rfl, _, rfl, _, _, rfl, rfl, _, rfl, ite2 (fun e => ?_) (fun e => ?_)⟩
      · have e0 : (0 : Int) < (i : Nat) := of_decide_eq_true e
        obtain ⟨b', hb', hbt'⟩ := hT.at_ (i := i - 1) (by omega)
        have hle := v3 (i - 1) _ (by omega) (List.getElem?_eq_getElem (by omega))
        have g : (as.map V.ref)[i - 1]? = some (.ref b') := by rw [List.getElem?_map, hb']; rfl
        refine ⟨_, rfl, _, rfl, _, _, rfl, rfl, c, _, _, .ref b', rfl, rfl, SqL.of (s4 _ _ hc), at_of (j := i - 1) (by omega) g, _, rfl, ?_⟩
        exact ⟨b, d, es[i], .ref b', kvs, rfl, hb4, .inr ⟨b', _, rfl, s4 _ _ hbt', hle⟩, hd4, hz, hv, _, rfl, iteF fin⟩
      · exact ⟨_, rfl, b, d, es[i], .non, kvs, rfl, hb4, .inl rfl, hd4, hz, hv, _, rfl, iteF fin⟩
    · exact q _ p.1
end
end K15

set_option Elab.async false
set_option linter.all false
set_option maxRecDepth 100000
set_option maxHeartbeats 8000000
namespace K15
open PySem PySem.Spec PyProof.Rows L2 Gd Rm La Cb Pl
theorem atI_end {xs : List V} {v : V} (h : xs[xs.length - 1]? = some v) : atI xs (-1) = some v := by
  have hn : xs ≠ [] := by
    intro e
    subst e
    simp at h
  have e := List.getLast?_eq_getElem? (l := xs)
  rw [h] at e
  have hz : xs.dropLast ++ [v] = xs := by
    have := List.dropLast_concat_getLast hn
    rw [List.getLast?_eq_some_getLast hn] at e
    rw [← Option.some.inj e]
    exact this
  rw [← hz]
  exact atI_last _ _
/-- a new list of new tuples, one more -/
structure Grown {α : Type} (f : α → List V) (H0 : Hp) (L : Addr) (es : List α) (H : Hp) : Prop where
  same : Same H0 H
  ls : Lst f H L es
theorem Grown.start {α : Type} {f : α → List V} {H0 : Hp} {L : Addr} (n : H0 L = none) : Grown f H0 L [] (upd H0 L (.lst [])) := ⟨same_upd n, [], upd_same, Tups.nil⟩
theorem Grown.more {α : Type} {f : α → List V} {H0 H : Hp} {L p : Addr} {es : List α} {e : α} (g : Grown f H0 L es H) (n : H0 L = none) (np : H p = none) :
    ∃ acc : List V, upd H p (.tup (f e)) L = some (.lst acc) ∧ acc.length = es.length ∧ Grown f H0 L (es ++ [e]) (upd (upd H p (.tup (f e))) L (.lst (acc ++ [.ref p]))) := by
  obtain ⟨s, as, h, t⟩ := g
  have pl : L ≠ p := ne_of_none h np
  have h1 : upd H p (.tup (f e)) L = some (.lst (as.map V.ref)) := (same_upd np) _ _ h
  refine ⟨as.map V.ref, h1, by rw [List.length_map]; exact t.1, Same.off (s.trans (same_upd np)) n off_upd, as ++ [p], ?_, ?_⟩
  · rw [upd_same, List.map_append]; rfl
  · refine Tups.snoc ((t.same (same_upd np)).off h1 off_upd) ?_
    rw [upd_ne pl.symm]
    exact upd_same
section
variable {P : Program} {w : World} {K : PySem.W.Frag} {mg : Str → Option Value} {base : Heap}
def spHeld : Sp := fun vs H Q _ => ∃ (c : Addr) (es : List Ev), vs = [.ref c] ∧ Lst evV H c es ∧ es.length ≤ 1000 ∧
  ∀ (H' : Hp) (p : Addr) (ns : List Int), Same H H' → H p = none → H' p = some (.lst (ns.map V.int)) → ns.Pairwise (· ≤ ·) → ns.Nodup → (∀ k, k ∈ ns ↔ heldB es k = true) → ns.length ≤ es.length → Q (.ref p) H'
theorem ok_held_keys (bt : Bt mg) (a : At K mg "held_keys" s_held_keys ["record"]) : Cl P w K mg base 1 "held_keys" spHeld := by
  refine clG a sc_held_keys (fun vs H Q E h => ?_) (fun f cdv A outer s H vs Q hg hr h => ?_)
  · obtain ⟨a, e, rfl, _⟩ := h
    rfl
  · obtain ⟨c, es, rfl, hL, hl, q⟩ := h
    refine ⟨_, (pss_cons (ps_set (i := 1) sc_held_keys.nd rfl (Or.inr rfl) pe_dnewK)
      (pss_cons (ps_for PassesOwn.never rfl (pi_list (pv 0)) (pg_tup rfl (pgs_cons (pg_name (i := 2) sc_held_keys.nd rfl (Or.inl rfl)) (pgs_cons (pg_name (i := 3) sc_held_keys.nd rfl (Or.inl rfl)) (pgs_cons (pg_name (i := 4) sc_held_keys.nd rfl (Or.inl rfl)) pgs_nil)))) (pss_one (ps_dput (hu_of hr) (pv 1) (pv 3) (pe_cmpR op_eq (pv 4) pe_str (nomark _)) rfl)))
      (pss_one (ps_ret (pe_callB cr_sortedI (by rfl) bt.m_sorted (by decide +kernel) (pa_cons (pe_lock (pe_lc (own := [("key", 3)]) (g := (gName 3)) (by rfl) sc_held_keys.nd (pi_keys (pv 1)) (blkOk_by (N := n_held_keys) (sc := defScope s_held_keys) (by decide +kernel)) (fun _ _ _ _ _ => (pg_name (i := 3) sc_held_keys.nd rfl (Or.inl rfl))) (fun _ _ _ _ _ => (pts_one (pt_val (pe_dget (hu_of hr) (pv 1) (pv 3) (fun _ _ => rfl))))) (fun _ _ _ _ _ => (pv 3)))) pa_nil)))))), ?_⟩
    obtain ⟨as, hc, hT⟩ := hL
    have hlen : (as.map V.ref).length = es.length := by rw [List.length_map]; exact hT.1
    intro d nd
    refine ⟨_, rfl, c, rfl, ⟨_, SqL.of ((same_upd nd) _ _ hc)⟩, for_it (walk_list (xs := as.map V.ref))
      (fun i σ H' => Same H H' ∧ ∃ kvs y2 y3 y4, σ = [some (.ref c), some (.ref d), y2, y3, y4] ∧ H' d = some (.dK kvs) ∧ kvs.length ≤ i ∧ HeldK kvs (heldB (es.take i)))
      ⟨same_upd nd, _, _, _, _, rfl, upd_same, Nat.le_refl _, HeldK.nil⟩ (fun _ _ H' _ p => SqL.of (p.1 _ _ hc)) (fun i x σ H1 H2 hi p y => ?_) (fun σ H1 p => ?_)⟩
    · obtain ⟨s1, kvs, y2, y3, y4, rfl, hd, hkl, hk⟩ := p
      obtain ⟨rfl, e2⟩ := y
      have hi' : i < es.length := by omega
      obtain ⟨b, hb, hbt⟩ := hT.at_ hi'
      have he : es[i]? = some es[i] := List.getElem?_eq_getElem hi'
      have e2' : x = .ref b := Option.some.inj (e2.symm.trans (get_map_ref hb))
      subst e2'
      have hb1 := s1 _ _ hbt
      refine ⟨b, _, rfl, SqT.of hb1, rfl, _, _, rfl, _, _, rfl, _, _, rfl, rfl, ?_⟩
      refine ⟨_, rfl, rfl, ?_⟩
      rw [wayS_down]
      refine ⟨_, rfl, _, rfl, d, _, rfl, DPut.k (k := Sum.inl es[i].k) hd (small1000 (by omega)), Same.off s1 nd off_upd, _, _, _, _, rfl, upd_same, ?_, ?_⟩
      · have := put_len kvs (Sum.inl es[i].k) (.bl es[i].d); omega
      · rw [List.take_add_one, he]
        exact hk.put
    · obtain ⟨s1, kvs, y2, y3, y4, rfl, hd, hkl, hk⟩ := p
      rw [hlen] at hkl hk
      rw [List.take_length] at hk
      refine ⟨d, _, hd, True.intro, fun od => ?_⟩
      refine ⟨_, rfl, d, od, rfl, .inl ⟨kvs, upd_same, fun L nL => ?_⟩⟩
      have dL : d ≠ L := ne_of_none (upd_same (H := H1) (a := d) (o := .frz od (.dK kvs))) nL
      refine lc_it walk_keys (fun i H' => H' = upd (upd H1 d (.frz od (.dK kvs))) L (.lst ((downs (kvs.take i)).map V.int))) rfl (fun i H' _ p => by subst p; rw [upd_ne dL]; exact upd_same) (fun i x H2 H3 hi p y => ?_) (fun H2 p => ?_)
      · obtain ⟨rfl, k, v, hkv, rfl⟩ := y
        subst p
        obtain ⟨kk, b, hp⟩ := hk.fm _ (List.mem_of_getElem? hkv)
        obtain ⟨rfl, rfl⟩ := Prod.mk.inj hp
        have hv := val_at hk.nd hkv
        have ht := downs_take hkv
        have hfr : upd (upd H1 d (.frz od (.dK kvs))) L (.lst ((downs (kvs.take i)).map V.int)) d = some (.frz od (.dK kvs)) := by rw [upd_ne dL]; exact upd_same
        refine ⟨rfl, _, rfl, _, rfl, d, _, rfl, .inl ⟨kvs, Sum.inl kk, .inr ⟨od, hfr⟩, rfl, hv.symm⟩, b, rfl, ?_⟩
        cases b with
        | true =>
          refine iteT ⟨_, rfl, _, upd_same, ?_, ?_⟩
          · rw [List.length_map]
            have := downs_len (kvs.take i)
            rw [List.length_take] at this
            exact small1000 (by omega)
          · rw [upd_upd, ht]
            simp [kV]
        | false =>
          refine iteF ?_
          rw [ht]
          rfl
      · subst p
        rw [List.take_length]
        refine ⟨by rw [upd_ne dL]; exact upd_same, L, downs kvs, rfl, ?_, fun ns p hp ho np => ?_⟩
        · refine SqL.of ?_
          rw [upd_ne dL.symm]
          exact upd_same
        · have S : Same H (upd (upd (upd H1 d (.frz od (.dK kvs))) L (.lst ((downs kvs).map V.int))) d (.dK kvs)) :=
            Same.off s1 nd (Off.trans off_upd (Off.trans (Off.of (same_upd nL)) off_upd))
          have hn := downs_nd hk.fm hk.nd
          refine q _ p ns (S.trans (same_upd np)) (S.free np) upd_same ho (hp.nodup_iff.mpr hn) (fun k => ?_) ?_
          · rw [hp.mem_iff, hk.mem]
          · rw [hp.length_eq]
            have := downs_len kvs
            omega
def lastT (es : List Ev) : Int := (es.getLast?.map (·.t)).getD 0
def upAt (t : Int) (k : Int) : Ev := ⟨t, k, false⟩
def spEnded : Sp := fun vs H Q _ => ∃ (c : Addr) (es : List Ev), vs = [.ref c] ∧ Lst evV H c es ∧ Valid es ∧ es.length ≤ 400 ∧
  ∀ (H' : Hp) (p : Addr) (ns : List Int), Same H H' → H p = none → Lst evV H' p (es ++ ns.map (upAt (lastT es + 1000000000))) → ns.Pairwise (· ≤ ·) → ns.Nodup → (∀ k, k ∈ ns ↔ heldB es k = true) → ns.length ≤ es.length → Q (.ref p) H'
theorem ok_ended (bt : Bt mg) {tk : Tok} (m_TICKS_BEHIND : mg "TICKS_BEHIND" = some (.int 1000000000 tk)) (a : At K mg "ended" s_ended ["record"]) (c_check_record : ClD P w K mg base 4 "check_record" spCheckN [.non]) (c_held_keys : Cl P w K mg base 1 "held_keys" spHeld) : Cl P w K mg base 5 "ended" spEnded := by
  refine clG a sc_ended (fun vs H Q E h => ?_) (fun f cdv A outer s H vs Q hg hr h => ?_)
  · obtain ⟨a, e, rfl, _⟩ := h
    rfl
  · obtain ⟨c, es, rfl, hL, hV, hl, q⟩ := h
    refine ⟨_, (pss_cons (ps_expr (pe_clD c_check_record hg hr (by decide) (by rfl) (pa_cons (pv 0) pa_nil)))
      (pss_cons (ps_set (i := 1) sc_ended.nd rfl (Or.inl rfl) (pe_cl c_held_keys hg hr (by decide) (by rfl) (pa_cons (pv 0) pa_nil)))
      (pss_cons (ps_if (pt_not (pt_truth (pv 1) (by intro _; rfl))) (pss_one (ps_ret (pe_callTy call_list_of (by rfl) bt.m_list (by decide +kernel) (pa_cons (pv 0) pa_nil)))) pss_nil)
      (pss_cons (ps_set (i := 2) sc_ended.nd rfl (Or.inr rfl) (pe_op op_add (pe_ix ix_tup (pe_ix ix_list (pv 0) (pe_un un_neg pe_int) (fun _ _ => rfl)) pe_int (fun _ _ => rfl)) (pe_glob (v := .int 1000000000) (by rfl) m_TICKS_BEHIND ⟨_, rfl⟩)))
      (pss_one (ps_ret (pe_op op_cat (pv 0) (pe_lc (own := [("key", 3)]) (g := (gName 3)) (by rfl) sc_ended.nd (pi_list (pv 1)) (blkOk_by (N := n_ended) (sc := defScope s_ended) (by decide +kernel)) (fun _ _ _ _ _ => (pg_name (i := 3) sc_ended.nd rfl (Or.inl rfl))) (fun _ _ _ _ _ => pts_nil) (fun _ _ _ _ _ => (pe_tup (pa_cons (pv 2) (pa_cons (pv 3) (pa_cons pe_str pa_nil))))))))))))), ?_⟩
    refine ⟨_, rfl, c, es, rfl, hL, hV, hl, fun H1 s1 => ?_⟩
    have hL1 := hL.same s1
    refine ⟨_, rfl, c, es, rfl, hL1, by omega, fun H2 k ns s2 nk hk hs hn hm hlen => ?_⟩
    have s02 := s1.trans s2
    obtain ⟨as, hc, hT⟩ := hL.same s02
    refine ⟨_, rfl, _, .inl ⟨_, SqL.of hk, rfl⟩, ?_⟩
    cases ns with
    | nil =>
      refine iteT ⟨_, rfl, c, _, rfl, .inl (SqL.of hc), fun p np => ?_⟩
      exact q _ p [] (s02.trans (same_upd np)) (s02.free np) ⟨as, upd_same, by rw [List.map_nil, List.append_nil]; exact hT.same (same_upd np)⟩ hs hn hm hlen
    | cons n0 nr =>
      have hpos : 0 < es.length := by rw [List.length_cons] at hlen; omega
      obtain ⟨b, hb, hbt⟩ := hT.at_ (i := es.length - 1) (by omega)
      have hal := hT.1
      have hlast : (as.map V.ref)[(as.map V.ref).length - 1]? = some (.ref b) := by rw [List.length_map, hal]; exact get_map_ref hb
      have hT0 : lastT es = es[es.length - 1].t := by
        unfold lastT
        rw [List.getLast?_eq_getElem?, List.getElem?_eq_getElem (by omega)]
        rfl
      refine iteF ⟨_, rfl, 1, rfl, c, _, -1, .ref b, rfl, rfl, SqL.of hc, atI_end hlast, b, _, _, _, rfl, rfl, SqT.of hbt, atI_nat (j := 0) rfl, _, _, rfl, rfl, ?_⟩
      refine ⟨_, rfl, _, rfl, k, rfl, ⟨_, SqL.of hk⟩, fun L nL => lc_it (walk_list (xs := (n0 :: nr).map V.int)) (fun i H' => Grown evV H2 L (((n0 :: nr).take i).map (upAt (lastT es + 1000000000))) H') (Grown.start nL)
        (fun i H' _ p => SqL.of (p.same _ _ hk)) (fun i x H3 H4 hi p y => ?_) (fun H3 p => ?_)⟩
      · obtain ⟨rfl, hx⟩ := y
        have hi' : i < (n0 :: nr).length := by rw [List.length_map] at hi; exact hi
        have hx' := List.getElem?_eq_getElem hi'
        have ex : V.int (n0 :: nr)[i] = x := Option.some.inj ((get_map_int hx').symm.trans hx)
        subst ex
        refine ⟨rfl, ⟨_, rfl, _, rfl, (by show 3 ≤ sizeLine; decide), fun p' np => ?_⟩⟩
        obtain ⟨acc, ha, hal', hg'⟩ := p.more (e := upAt (lastT es + 1000000000) (n0 :: nr)[i]) nL np
        have hev : evV (upAt (lastT es + 1000000000) (n0 :: nr)[i]) = [.int (es[es.length - 1].t + 1000000000), .int (n0 :: nr)[i], .str "up"] := by rw [hT0]; rfl
        rw [hev] at ha hg'
        refine ⟨acc, ha, ?_, ?_⟩
        · rw [hal', List.length_map, List.length_take]; exact small1000 (by omega)
        · rw [List.take_add_one, hx', List.map_append]
          exact hg'
      · rw [List.length_map, List.take_length] at p
        obtain ⟨sG, bs, hLb, hTb⟩ := p
        have hc3 := sG _ _ hc
        refine ⟨c, L, _, _, rfl, rfl, hc3, hLb, ?_, fun p np => ?_⟩
        · rw [List.length_map, List.length_map, hTb.1, List.length_map, hal]
          exact small400 (by omega)
        · refine q _ p (n0 :: nr) ((s02.trans sG).trans (same_upd np)) ((s02.trans sG).free np) ⟨as ++ bs, by rw [upd_same, List.map_append], ?_⟩ hs hn hm hlen
          exact ((hT.same sG).append hTb).same (same_upd np)
end
end K15

set_option Elab.async false
set_option linter.all false
set_option maxRecDepth 100000
set_option maxHeartbeats 8000000
namespace K15
open PySem PySem.Spec PyProof.Rows L2 Gd Rm La Cb Pl
section
variable {P : Program} {w : World} {K : PySem.W.Frag} {mg : Str → Option Value} {base : Heap}
def spWhole : Sp := fun vs H Q _ => ∃ (c : Addr) (es : List Ev) (b : Bool), vs = [.ref c] ∧ Lst evV H c es ∧ Valid es ∧ es.length ≤ 400 ∧ (b = true ↔ ∀ k, heldB es k = false) ∧ ∀ H', Same H H' → Q (.bl b) H'
theorem ok_is_whole (bt : Bt mg) (a : At K mg "is_whole" s_is_whole ["record"]) (c_check_record : ClD P w K mg base 4 "check_record" spCheckN [.non]) (c_held_keys : Cl P w K mg base 1 "held_keys" spHeld) : Cl P w K mg base 5 "is_whole" spWhole := by
  refine clG a sc_is_whole (fun vs H Q E h => ?_) (fun f cdv A outer s H vs Q hg hr h => ?_)
  · obtain ⟨c, es, b, rfl, _⟩ := h
    rfl
  · obtain ⟨c, es, b, rfl, hL, hV, hl, hb, q⟩ := h
    refine ⟨_, (pss_cons (ps_expr (pe_clD c_check_record hg hr (by decide) (by rfl) (pa_cons (pv 0) pa_nil)))
      (pss_one (ps_ret (pe_cmpR (op_eqD hr.units) (pe_cl c_held_keys hg hr (by decide) (by rfl) (pa_cons (pv 0) pa_nil)) (pe_lst pa_nil) (nomark _))))), ?_⟩
    refine ⟨_, rfl, c, es, rfl, hL, hV, hl, fun H1 s1 => ?_⟩
    refine ⟨_, rfl, c, es, rfl, hL.same s1, by omega, fun H2 p ns s2 np hp hs hn hm hlen => ⟨Nat.zero_le _, fun Z nZ => ?_⟩⟩
    refine ⟨_, _, .lst (SqL.of ((same_upd nZ) _ _ hp)) (dpInts ns), .lst (SqL.of upd_same) .nil, shaped_ints ns, shaped_nil, ?_⟩
    have e : PyData.eqv (.list (ns.map PyData.int)) (.list []) = b := by
      rw [eqv_nil]
      cases ns with
      | nil =>
        refine (hb.mpr fun k => ?_).symm
        cases z : heldB es k with
        | false => rfl
        | true => exact absurd ((hm k).mpr z) (by simp)
      | cons n ns =>
        cases b with
        | false => rfl
        | true =>
          have := hb.mp rfl n
          rw [(hm n).mp List.mem_cons_self] at this
          cases this
    rw [e]
    exact q _ ((s1.trans s2).trans (same_upd nZ))
end
end K15

set_option Elab.async false
set_option linter.all false
set_option maxRecDepth 100000
set_option maxHeartbeats 8000000
namespace K15
open PySem PySem.Spec PyProof.Rows L2 Gd Rm La Cb Pl
/-! ### a beginning of a record -/
theorem decEv_take {own : Int} {r : Str} : ∀ {es : List Ev} {inner : List Int} {m : Nat}, decEv own r inner (es.take m) = (decEv own r inner es).bind fun n => if n < m then some n else none
  | [], inner, m => by rw [List.take_nil]; rfl
  | e :: es, inner, 0 => by
    rw [List.take_zero]
    show none = _
    cases decEv own r inner (e :: es) with
    | none => rfl
    | some n => rfl
  | e :: es, inner, m + 1 => by
    rw [List.take_succ_cons]
    have ih := fun l => decEv_take (own := own) (r := r) (es := es) (inner := l) (m := m)
    have go : ∀ l, (decEv own r l (es.take m)).map (· + 1) = ((decEv own r l es).map (· + 1)).bind fun n => if n < m + 1 then some n else none := fun l => by
      rw [ih l]
      cases decEv own r l es with
      | none => rfl
      | some n =>
        show Option.map (· + 1) (if n < m then some n else none) = if n + 1 < m + 1 then some (n + 1) else none
        by_cases z : n < m
        · rw [if_pos z, if_pos (by omega)]; rfl
        · rw [if_neg z, if_neg (by omega)]; rfl
    unfold decEv
    by_cases c1 : e.k = own ∨ r = ("other" : String) ∧ e.d = true
    · rw [if_pos c1, if_pos c1]; rfl
    · rw [if_neg c1, if_neg c1]
      by_cases c2 : e.d = true
      · rw [if_pos c2, if_pos c2]; exact go _
      · rw [if_neg c2, if_neg c2]
        by_cases c3 : r = ("within" : String) ∧ e.k ∈ inner
        · rw [if_pos c3, if_pos c3]; rfl
        · rw [if_neg c3, if_neg c3]; exact go _
theorem evAt_take {es : List Ev} {i c : Nat} (h : i < c) : evAt (es.take c) i = evAt es i := by
  unfold evAt
  rw [List.getD_eq_getElem?_getD, List.getD_eq_getElem?_getD, List.getElem?_take_of_lt h]
theorem decM_take {es : List Ev} {i c : Nat} {r : Str} (h : i < c) : decM (es.take c) i r = (decM es i r).bind fun n => if n < c then some n else none := by
  unfold decM
  have e1 : (es.take c).getD i ⟨0, 0, false⟩ = es.getD i ⟨0, 0, false⟩ := evAt_take h
  rw [e1, List.drop_take, decEv_take]
  cases decEv ((es.getD i ⟨0, 0, false⟩).k) r [] (es.drop (i + 1)) with
  | none => rfl
  | some n =>
    show Option.map (· + (i + 1)) (if n < c - (i + 1) then some n else none) = if n + (i + 1) < c then some (n + (i + 1)) else none
    by_cases z : n < c - (i + 1)
    · rw [if_pos z, if_pos (by omega)]; rfl
    · rw [if_neg z, if_neg (by omega)]; rfl
theorem sureM_take {es : List Ev} {i c : Nat} {x : Actn} (h : i < c) : sureM (es.take c) i x = (sureM es i x).bind fun n => if n < c then some n else none := by
  unfold sureM
  rw [decM_take h]
  cases decM es i (ruleOf x) with
  | none => rfl
  | some n =>
    by_cases z : n < c
    · have e : (some n).bind (fun n => if n < c then some n else none) = some n := if_pos z
      rw [e]
      show (if (evAt (es.take c) i).t + timeOf x ≤ (evAt (es.take c) n).t then none else some n) = (if (evAt es i).t + timeOf x ≤ (evAt es n).t then none else some n).bind fun n => if n < c then some n else none
      rw [evAt_take h, evAt_take z]
      by_cases y : (evAt es i).t + timeOf x ≤ (evAt es n).t
      · rw [if_pos y]; rfl
      · rw [if_neg y]; exact e.symm
    · have e : (some n).bind (fun n => if n < c then some n else none) = none := if_neg z
      rw [e]
      show none = (if (evAt es i).t + timeOf x ≤ (evAt es n).t then none else some n).bind fun n => if n < c then some n else none
      by_cases y : (evAt es i).t + timeOf x ≤ (evAt es n).t
      · rw [if_pos y]; rfl
      · rw [if_neg y]; exact e.symm
theorem kind_take {es : List Ev} {i c : Nat} {x : Actn} (h : i < c) : kindM (es.take c) i x = kindM es i x ∨ (isDl x = true ∧ kindM (es.take c) i x = ("hold" : String) ∧ kindM es i x = ("tap" : String) ∧ ∃ n, sureM es i x = some n ∧ c ≤ n ∧ (evAt es n).k = (evAt es i).k) := by
  unfold kindM
  by_cases hd : isDl x = true
  · rw [if_pos hd, if_pos hd, sureM_take h]
    cases hs : sureM es i x with
    | none => exact .inl rfl
    | some n =>
      by_cases z : n < c
      · have e : (some n).bind (fun n => if n < c then some n else none) = some n := if_pos z
        rw [e]
        have e2 : tapM (es.take c) i (some n) = tapM es i (some n) := by
          show decide ((evAt (es.take c) n).k = (evAt (es.take c) i).k) = decide ((evAt es n).k = (evAt es i).k)
          rw [evAt_take h, evAt_take z]
        rw [e2]
        exact .inl rfl
      · have e : (some n).bind (fun n => if n < c then some n else none) = none := if_neg z
        rw [e]
        by_cases t : (evAt es n).k = (evAt es i).k
        · refine .inr ⟨hd, rfl, ?_, n, rfl, by omega, t⟩
          show (if decide ((evAt es n).k = (evAt es i).k) = true then (("tap" : String) : Str) else _) = _
          rw [decide_eq_true t]
          rfl
        · refine .inl ?_
          show (("hold" : String) : Str) = if decide ((evAt es n).k = (evAt es i).k) = true then _ else (("hold" : String) : Str)
          rw [decide_eq_false t]
          rfl
  · rw [if_neg hd, if_neg hd]
    exact .inl rfl
/-- an event is the same in a beginning -/
def Good (L : List (List Actn)) (es : List Ev) (c j : Nat) : Prop := (evAt es j).d = true → kindM (es.take c) j (xAt L es j) = kindM es j (xAt L es j)
theorem run_take {L : List (List Actn)} {es : List Ev} {c : Nat} : ∀ i, i ≤ c → (∀ j, j < i → Good L es c j) → runS L (es.take c) i = runS L es i
  | 0, _, _ => rfl
  | i + 1, hi, hg => by
    have ih := run_take i (by omega) fun j hj => hg j (by omega)
    have ev := evAt_take (es := es) (show i < c by omega)
    rcases Bool.eq_false_or_eq_true (evAt es i).d with hd | hd
    · have hx : xAt L (es.take c) i = xAt L es i := by unfold xAt; rw [ih, ev]
      rw [runS_dn hd, runS_dn (by rw [ev]; exact hd), ih, ev, hx, hg i (by omega) hd]
    · rw [runS_up hd, runS_up (by rw [ev]; exact hd), ih, ev]
section
variable {L : List (List Actn)} {es : List Ev} {c i : Nat}
theorem xAt_take (hi : i < c) (hg : ∀ j, j < i → Good L es c j) : xAt L (es.take c) i = xAt L es i := by
  unfold xAt
  rw [run_take i (by omega) hg, evAt_take hi]
theorem out_take (hi : i < c) (hg : ∀ j, j ≤ i → Good L es c j) : outM L (es.take c) i = outM L es i := by
  have hx := xAt_take (L := L) hi fun j hj => hg j (by omega)
  unfold outM
  rw [evAt_take hi, hx, run_take i (by omega) fun j hj => hg j (by omega)]
  rcases Bool.eq_false_or_eq_true (evAt es i).d with hd | hd
  · rw [if_pos hd, if_pos hd, hg i (Nat.le_refl _) hd]
  · rw [if_neg (by rw [hd]; decide), if_neg (by rw [hd]; decide)]
theorem outs_take (hc : c ≤ es.length) {n : Nat} (hn : n ≤ c) (hg : ∀ j, j < n → Good L es c j) : outsM L (es.take c) n = outsM L es n := by
  unfold outsM
  refine List.map_congr_left fun j hj => ?_
  have := List.mem_range.mp hj
  exact out_take (by omega) fun k hk => hg k (by omega)
/-- a different meaning -/
def bad (L : List (List Actn)) (es : List Ev) (c j : Nat) : Bool := !PyData.eqv (meanD (runT L (es.take c) j)) (meanD (runT L es j))
theorem eqv_kind {l m : Int} {a b : Str} {x y : PyData} (h : a ≠ b) : PyData.eqv (.tuple [.int l, .str a, x]) (.tuple [.int m, .str b, y]) = false := by
  have e : PyData.eqv (.str a) (.str b) = false := decide_eq_false h
  show (PyData.eqv (.int l) (.int m) && (PyData.eqv (.str a) (.str b) && _)) = false
  rw [e]
  cases PyData.eqv (.int l) (.int m) <;> rfl
theorem good_of (hi : i < c) (hg : ∀ j, j < i → Good L es c j) (hb : bad L es c i = false) : Good L es c i := by
  intro hd
  have ev := evAt_take (es := es) hi
  rcases kind_take (es := es) (x := xAt L es i) hi with h | ⟨_, h1, h2, _⟩
  · exact h
  · exfalso
    unfold bad at hb
    rw [runT_dn hd, runT_dn (by rw [ev]; exact hd), xAt_take hi hg, h1, h2] at hb
    have : PyData.eqv (meanD (.dn (takenL L (runS L (es.take c) i) (evAt (es.take c) i).k.toNat) (("hold" : String) : Str) (whatM (xAt L es i) (("hold" : String) : Str)) (if isDl (xAt L es i) then sureM (es.take c) i (xAt L es i) else none))) (meanD (.dn (takenL L (runS L es i) (evAt es i).k.toNat) (("tap" : String) : Str) (whatM (xAt L es i) (("tap" : String) : Str)) (if isDl (xAt L es i) then sureM es i (xAt L es i) else none))) = false := eqv_kind (by decide +kernel)
    rw [this] at hb
    cases hb
theorem all_good (n : Nat) (hn : n ≤ c) (hb : ∀ j, j < n → bad L es c j = false) : ∀ j, j < n → Good L es c j := by
  intro j
  induction j using Nat.strongRecOn with
  | ind j ih => exact fun hj => good_of (by omega) (fun k hk => ih k hk (by omega)) (hb j hj)
theorem td_good (hi : i < c) (hg : ∀ j, j < i → Good L es c j) (hgi : Good L es c i) : meanD (runT L (es.take c) i) = meanD (runT L es i) ∧ sureT (runT L (es.take c) i) = (sureT (runT L es i)).bind fun n => if n < c then some n else none := by
  have ev := evAt_take (es := es) hi
  rcases Bool.eq_false_or_eq_true (evAt es i).d with hd | hd
  · rw [runT_dn hd, runT_dn (by rw [ev]; exact hd), xAt_take hi hg, hgi hd, run_take i (by omega) hg, ev]
    refine ⟨rfl, ?_⟩
    show (if isDl (xAt L es i) then sureM (es.take c) i (xAt L es i) else none) = (if isDl (xAt L es i) then sureM es i (xAt L es i) else none).bind _
    by_cases h : isDl (xAt L es i) = true
    · rw [if_pos h, if_pos h]
      exact sureM_take hi
    · rw [if_neg h, if_neg h]; rfl
  · rw [runT_up hd, runT_up (by rw [ev]; exact hd)]
    exact ⟨rfl, rfl⟩
theorem shaped_mean {n : Nat} {t : Td} (h : TdOk n t) : (meanD t).canLay0 = true ∧ PyData.depth (meanD t) ≤ 5 := by
  cases t with
  | up => exact ⟨rfl, by decide⟩
  | dn l kind what sure =>
    obtain ⟨h1, h2, h3⟩ := h
    have a := shaped_act h3.act
    have a1 : PyData.canLay0 (actD what) = true := by
      have a : (PyData.canLay0 (actD what) && decide (PyData.depth (actD what) ≤ 64)) = true := a
      exact (Bool.and_eq_true_iff.mp a).1
    have a2 : PyData.depth (actD what) ≤ 2 := by cases what <;> (show _ ≤ 2; first | exact Nat.zero_le _ | exact Nat.le_refl 2 | exact (by decide : (1 : Nat) ≤ 2))
    have k : PyData.canLay0 (.str kind) = true := by
      rcases h2 with rfl | rfl | rfl <;> decide +kernel
    refine ⟨?_, ?_⟩
    · show (true && (PyData.canLay0 (.str kind) && (PyData.canLay0 (actD what) && true))) = true
      rw [a1, k]
      rfl
    · show max 0 (max 0 (max (PyData.depth (actD what)) 0)) + 1 ≤ 5
      omega
/-- the first event that means another thing -/
theorem bad_first (hi : i < c) (hg : ∀ j, j < i → Good L es c j) {n : Nat} (ok : TdOk n (runT L es i)) (hb : bad L es c i = true) : (evAt es i).d = true ∧ isDl (xAt L es i) = true ∧ kindM (es.take c) i (xAt L es i) = ("hold" : String) ∧ kindM es i (xAt L es i) = ("tap" : String) ∧ ∃ n, sureM es i (xAt L es i) = some n ∧ c ≤ n ∧ (evAt es n).k = (evAt es i).k := by
  rcases Bool.eq_false_or_eq_true (evAt es i).d with hd | hd
  · rcases kind_take (es := es) (x := xAt L es i) hi with h | ⟨h0, h1, h2, h3⟩
    · exfalso
      unfold bad at hb
      rw [(td_good hi hg fun _ => h).1, SeqAt.eqv_refl _ (shaped_mean ok).1] at hb
      cases hb
    · exact ⟨hd, h0, h1, h2, h3⟩
  · exfalso
    unfold bad at hb
    rw [(td_good hi hg fun h => by rw [hd] at h; cases h).1, SeqAt.eqv_refl _ (shaped_mean ok).1] at hb
    cases hb
/-- no event of the own key ahead of the deciding one -/
theorem decEv_own {own : Int} {r : Str} : ∀ {es : List Ev} {inner : List Int} {n : Nat}, decEv own r inner es = some n → ∀ j, j < n → ∀ e, es[j]? = some e → e.k ≠ own
  | [], inner, n, h, _, _, _, _ => by cases h
  | e :: es, inner, n, h, j, hj, x, hx => by
    unfold decEv at h
    have step : ∀ l, (decEv own r l es).map (· + 1) = some n → ¬ e.k = own → x.k ≠ own := fun l hl ne => by
      cases hd : decEv own r l es with
      | none => rw [hd] at hl; cases hl
      | some m =>
        rw [hd] at hl
        have hm : m + 1 = n := Option.some.inj hl
        cases j with
        | zero =>
          have : e = x := Option.some.inj hx
          rw [← this]
          exact ne
        | succ j => exact decEv_own hd j (by omega) x hx
    by_cases c1 : e.k = own ∨ r = ("other" : String) ∧ e.d = true
    · rw [if_pos c1] at h
      have : 0 = n := Option.some.inj h
      omega
    · rw [if_neg c1] at h
      have ne : ¬ e.k = own := fun z => c1 (.inl z)
      by_cases c2 : e.d = true
      · rw [if_pos c2] at h; exact step _ h ne
      · rw [if_neg c2] at h
        by_cases c3 : r = ("within" : String) ∧ e.k ∈ inner
        · rw [if_pos c3] at h
          have : 0 = n := Option.some.inj h
          omega
        · rw [if_neg c3] at h; exact step _ h ne
theorem sure_own {x : Actn} {n : Nat} (h : sureM es i x = some n) : ∀ j, i < j → j < n → (evAt es j).k ≠ (evAt es i).k := by
  intro j h1 h2
  unfold sureM at h
  cases hd : decM es i (ruleOf x) with
  | none => rw [hd] at h; cases h
  | some m =>
    rw [hd] at h
    have hm : m = n := by
      dsimp only at h
      split at h
      · cases h
      · exact Option.some.inj h
    subst hm
    have hl := (decM_lt hd).2
    unfold decM at hd
    cases hv : decEv ((es.getD i ⟨0, 0, false⟩).k) (ruleOf x) [] (es.drop (i + 1)) with
    | none => rw [hv] at hd; cases hd
    | some q =>
      rw [hv] at hd
      have hq : q + (i + 1) = m := Option.some.inj hd
      have := decEv_own hv (j - (i + 1)) (by omega) (evAt es j) (by
        rw [List.getElem?_drop, show i + 1 + (j - (i + 1)) = j by omega, List.getElem?_eq_getElem (by omega), evAt_eq (by omega)])
      exact this
/-- a key that is down stays down as long as it has no event -/
theorem held_stays {k : Int} : ∀ (m : Nat), i ≤ m → m ≤ es.length → heldB (es.take i) k = true → (∀ j, i ≤ j → j < m → (evAt es j).k ≠ k) → heldB (es.take m) k = true
  | 0, h, _, hk, _ => by rw [show i = 0 by omega] at hk; exact hk
  | m + 1, h, hm, hk, hn => by
    rcases Nat.lt_or_ge m i with q | q
    · rw [show i = m + 1 by omega] at hk; exact hk
    · have ih := held_stays m q (by omega) hk fun j a b => hn j a (by omega)
      rw [heldB_take (List.getElem?_eq_getElem (show m < es.length by omega))]
      unfold after
      have := hn m q (by omega)
      rw [evAt_eq (by omega)] at this
      rw [if_neg (fun z => this z.symm)]
      exact ih
theorem bad_held (hV : Valid es) (hc : c ≤ es.length) (hi : i < c) (hd : (evAt es i).d = true) {n : Nat} (hs : sureM es i (xAt L es i) = some n) (hn : c ≤ n) : heldB (es.take c) (evAt es i).k = true := by
  refine held_stays (i := i + 1) c (by omega) hc ?_ fun j a b => sure_own hs j (by omega) (by omega)
  rw [heldB_take (List.getElem?_eq_getElem (show i < es.length by omega))]
  unfold after
  rw [evAt_eq (by omega)] at hd ⊢
  rw [if_pos rfl]
  exact hd
/-- the first of a row of numbers -/
theorem filt_first {p : Nat → Bool} : ∀ n : Nat, ((List.range n).filter p = [] → ∀ j, j < n → p j = false) ∧ (∀ f r, (List.range n).filter p = f :: r → f < n ∧ p f = true ∧ ∀ j, j < f → p j = false)
  | 0 => ⟨fun _ j h => absurd h (Nat.not_lt_zero _), fun f r h => by simp at h⟩
  | n + 1 => by
    obtain ⟨a, b⟩ := filt_first (p := p) n
    rw [List.range_succ, List.filter_append]
    constructor
    · intro h j hj
      obtain ⟨h1, h2⟩ := List.append_eq_nil_iff.mp h
      rcases Nat.lt_or_ge j n with q | q
      · exact a h1 j q
      · rw [show j = n by omega]
        cases hp : p n with
        | false => rfl
        | true => rw [List.filter_cons_of_pos hp] at h2; cases h2
    · intro f r h
      cases hl : (List.range n).filter p with
      | nil =>
        rw [hl, List.nil_append] at h
        cases hp : p n with
        | false => rw [List.filter_cons_of_neg (by rw [hp]; decide)] at h; cases h
        | true =>
          rw [List.filter_cons_of_pos hp] at h
          have e : n = f := by injection h
          subst e
          exact ⟨by omega, hp, a hl⟩
      | cons g t =>
        rw [hl, List.cons_append] at h
        have e : g = f := by injection h
        subst e
        obtain ⟨b1, b2, b3⟩ := b g t hl
        exact ⟨by omega, b2, b3⟩
end
end K15

set_option Elab.async false
set_option linter.all false
set_option maxRecDepth 100000
set_option maxHeartbeats 8000000
namespace K15
open PySem PySem.Spec PyProof.Rows L2 Gd Rm La Cb Pl
/-! ### bound keys and codes that are down -/
def isCode (y : Str) : Actn → Bool
  | .code c => decide (c = y)
  | _ => false
def cntB (bd : Bd0) (y : Str) : Int := ((bd.filter fun p => isCode y p.2).length : Int)
structure BInv (L : List (List Actn)) (es : List Ev) (i : Nat) : Prop where
  nd : ((runS L es i).bd.map (·.1)).Nodup
  held : ∀ p ∈ (runS L es i).bd, heldB (es.take i) p.1 = true
  cnt : ∀ y, cnO L es i y = cntB (runS L es i).bd y
theorem put_new {bd : Bd0} {k : Int} {x : Actn} (h : ∀ p ∈ bd, p.1 ≠ k) : putB bd k x = bd ++ [(k, x)] := by
  unfold putB
  rw [if_neg]
  intro z
  obtain ⟨p, hp, e⟩ := List.any_eq_true.mp z
  exact h p hp (of_decide_eq_true e)
theorem cnt_cons {bd : Bd0} {p : Int × Actn} {y : Str} : cntB (p :: bd) y = cntB bd y + if isCode y p.2 = true then 1 else 0 := by
  unfold cntB
  by_cases h : isCode y p.2 = true
  · rw [List.filter_cons_of_pos (p := fun p : Int × Actn => isCode y p.2) h, if_pos h, List.length_cons]
    omega
  · rw [List.filter_cons_of_neg (p := fun p : Int × Actn => isCode y p.2) h, if_neg h]
    omega
theorem cnt_snoc : ∀ {bd : Bd0} {k : Int} {x : Actn} {y : Str}, cntB (bd ++ [(k, x)]) y = cntB bd y + if isCode y x = true then 1 else 0
  | [], k, x, y => cnt_cons
  | p :: bd, k, x, y => by
    rw [List.cons_append, cnt_cons, cnt_cons, cnt_snoc]
    omega
theorem drop_same {bd : Bd0} {k : Int} (h : ∀ p ∈ bd, p.1 ≠ k) : dropB bd k = bd := by
  unfold dropB
  rw [List.filter_eq_self]
  intro p hp
  exact decide_eq_true (h p hp)
def cntO (o : Option Actn) (y : Str) : Int := match o with | some x => if isCode y x = true then 1 else 0 | none => 0
theorem cnt_drop : ∀ {bd : Bd0} {k : Int} {y : Str}, (bd.map (·.1)).Nodup → cntB (dropB bd k) y = cntB bd y - cntO (getB bd k) y
  | [], k, y, _ => rfl
  | (j, x) :: bd, k, y, nd => by
    obtain ⟨n1, n2⟩ := List.nodup_cons.mp nd
    have ih := cnt_drop (bd := bd) (k := k) (y := y) n2
    by_cases e : j = k
    · subst e
      have hn : ∀ p ∈ bd, p.1 ≠ j := fun p hp z => n1 (by
        show j ∈ bd.map (·.1)
        rw [← z]
        exact List.mem_map.mpr ⟨p, hp, rfl⟩)
      have g : getB ((j, x) :: bd) j = some x := by
        unfold getB
        rw [List.find?_cons_of_pos (by simp)]
        rfl
      have d : dropB ((j, x) :: bd) j = bd := by
        show List.filter _ _ = _
        rw [List.filter_cons_of_neg (by simp)]
        exact drop_same hn
      rw [g, d]
      show cntB bd y = cntB ((j, x) :: bd) y - if isCode y x = true then 1 else 0
      rw [cnt_cons]
      show cntB bd y = (cntB bd y + if isCode y x = true then 1 else 0) - if isCode y x = true then 1 else 0
      generalize (if isCode y x = true then (1 : Int) else 0) = z
      omega
    · have g : getB ((j, x) :: bd) k = getB bd k := by
        unfold getB
        rw [List.find?_cons_of_neg (by simp [e])]
      have d : dropB ((j, x) :: bd) k = (j, x) :: dropB bd k := by
        show List.filter _ _ = _
        rw [List.filter_cons_of_pos (by simp [e])]
        rfl
      rw [g, d]
      rw [cnt_cons, cnt_cons, ih]
      generalize (if isCode y ((j, x) : Int × Actn).2 = true then (1 : Int) else 0) = z
      generalize cntB bd y = u
      generalize cntO (getB bd k) y = v
      omega
theorem get_none {bd : Bd0} {k : Int} (h : ∀ p ∈ bd, p.1 ≠ k) : getB bd k = none := by
  unfold getB
  rw [List.find?_eq_none.mpr fun p hp => by simpa using h p hp]
  rfl
theorem get_putB {bd : Bd0} {k j : Int} {x : Actn} (h : ∀ p ∈ bd, p.1 ≠ k) : getB (putB bd k x) j = if j = k then some x else getB bd j := by
  rw [put_new h]
  unfold getB
  rw [List.find?_append]
  by_cases e : j = k
  · subst e
    rw [if_pos rfl, List.find?_eq_none.mpr fun p hp => by simpa using h p hp]
    simp
  · rw [if_neg e]
    cases bd.find? fun p => decide (p.1 = j) with
    | some p => rfl
    | none =>
      rw [List.find?_cons_of_neg (by simpa using fun z => e z.symm)]
      rfl
theorem get_dropB {bd : Bd0} {k j : Int} (e : j ≠ k) : getB (dropB bd k) j = getB bd j := by
  unfold getB dropB
  rw [List.find?_filter]
  congr 1
  refine congrArg (fun f => List.find? f bd) (funext fun p => ?_)
  by_cases h : p.1 = j
  · have : p.1 ≠ k := fun z => e (h.symm.trans z)
    simp [h, e]
  · simp [h]
/-- what a press binds -/
theorem press_bd {s : Sm} {k : Int} {x : Actn} : (press s k x).bd = s.bd ∨ ((press s k x).bd = putB s.bd k x ∧ ((∃ c, x = .code c) ∨ ∃ w j, x = .lay w j)) := by
  cases x with
  | code c => exact .inr ⟨rfl, .inl ⟨c, rfl⟩⟩
  | lay w j =>
    rw [press_lay]
    split
    · exact .inr ⟨rfl, .inr ⟨w, j, rfl⟩⟩
    · split
      · exact .inl rfl
      · exact .inl rfl
  | none => exact .inl rfl
  | thr => exact .inl rfl
  | dualC _ _ _ _ => exact .inl rfl
  | dualL _ _ _ _ => exact .inl rfl
theorem press_code {s : Sm} {k : Int} {c : Str} : (press s k (.code c)).bd = putB s.bd k (.code c) := rfl
theorem binv {L : List (List Actn)} {es : List Ev} (hV : Valid es) : ∀ i, i ≤ es.length → BInv L es i
  | 0, _ => ⟨List.nodup_nil, fun p hp => (by cases hp), fun y => rfl⟩
  | i + 1, hi => by
    have ih := binv (L := L) hV i (by omega)
    have hq : es[i]? = some es[i] := List.getElem?_eq_getElem (by omega)
    have ev := evAt_eq (es := es) (i := i) (by omega)
    obtain ⟨v1, v2, v3⟩ := hV i _ hq
    have ht := heldB_take hq
    rcases Bool.eq_false_or_eq_true (evAt es i).d with hd | hd
    · have hd' : es[i].d = true := by rw [← ev]; exact hd
      have hk : ∀ p ∈ (runS L es i).bd, p.1 ≠ (evAt es i).k := fun p hp z => by
        have := ih.held p hp
        rw [z, ev, v2, hd'] at this
        cases this
      have eo : outM L es i = outP (whatM (xAt L es i) (kindM es i (xAt L es i))) := by unfold outM; rw [if_pos hd]
      have er := runS_dn (L := L) hd
      have ec : cnO L es (i + 1) = bump (cnO L es i) (outM L es i) := rfl
      generalize whatM (xAt L es i) (kindM es i (xAt L es i)) = x at eo er
      have hold : ∀ p : Int × Actn, heldB (es.take i) p.1 = true → heldB (es.take (i + 1)) p.1 = true := fun p h => by
        rw [ht]
        unfold after
        by_cases z : p.1 = es[i].k
        · rw [if_pos z]; exact hd'
        · rw [if_neg z]; exact h
      rcases press_bd (s := runS L es i) (k := (evAt es i).k) (x := x) with h | ⟨h, hx⟩
      · refine ⟨by rw [er, h]; exact ih.nd, fun p hp => ?_, fun y => ?_⟩
        · rw [er, h] at hp; exact hold p (ih.held p hp)
        · rw [er, h, ec, eo]
          have : ∀ c, x ≠ .code c := fun c z => by
            rw [z, press_code, put_new hk] at h
            have := congrArg List.length h
            rw [List.length_append] at this
            simp at this
          have eo2 : outP x = .no := by
            cases x with
            | code c => exact absurd rfl (this c)
            | _ => rfl
          rw [eo2]
          exact ih.cnt y
      · rw [put_new hk] at h
        refine ⟨?_, fun p hp => ?_, fun y => ?_⟩
        · rw [er, h, List.map_append]
          refine List.nodup_append.mpr ⟨ih.nd, by simp, fun a ha b hb => ?_⟩
          obtain ⟨p, hp, rfl⟩ := List.mem_map.mp ha
          have : b = (evAt es i).k := by simpa using hb
          rw [this]
          exact hk p hp
        · rw [er, h] at hp
          rcases List.mem_append.mp hp with q | q
          · exact hold p (ih.held p q)
          · rw [List.mem_singleton.mp q, ht]
            unfold after
            rw [← ev]
            rw [if_pos rfl]
            exact hd
        · rw [er, h, ec, eo, cnt_snoc, ← ih.cnt y]
          rcases hx with ⟨c, rfl⟩ | ⟨w, j, rfl⟩
          · show (if y = c then cnO L es i y + 1 else cnO L es i y) = _ + if decide (c = y) = true then 1 else 0
            by_cases z : y = c
            · subst z; simp
            · rw [if_neg z, if_neg (by simpa using fun q => z q.symm)]; omega
          · show cnO L es i y = _ + if false = true then 1 else 0
            rw [if_neg (by decide)]; omega
    · have hd' : es[i].d = false := by rw [← ev]; exact hd
      have eo : outM L es i = outR ((getB (runS L es i).bd (evAt es i).k).getD .none) := by unfold outM; rw [if_neg (by rw [hd]; decide), relO_eq]
      have er := runS_up (L := L) hd
      have ec : cnO L es (i + 1) = bump (cnO L es i) (outM L es i) := rfl
      have hb : (runS L es (i + 1)).bd = dropB (runS L es i).bd (evAt es i).k := by rw [er]; rfl
      refine ⟨?_, fun p hp => ?_, fun y => ?_⟩
      · rw [hb]
        exact ih.nd.sublist ((List.filter_sublist).map _)
      · rw [hb] at hp
        have h1 := ih.held p (dropB_mem hp)
        have h2 : p.1 ≠ (evAt es i).k := of_decide_eq_true (List.mem_filter.mp hp).2
        rw [ht]
        unfold after
        rw [ev] at h2
        rw [if_neg h2]
        exact h1
      · rw [hb, ec, eo, cnt_drop ih.nd, ← ih.cnt y]
        cases getB (runS L es i).bd (evAt es i).k with
        | none => show cnO L es i y = cnO L es i y - 0; omega
        | some x =>
          cases x with
          | code c =>
            show (if y = c then cnO L es i y - 1 else cnO L es i y) = _ - if decide (c = y) = true then 1 else 0
            by_cases z : y = c
            · subst z; simp
            · rw [if_neg z, if_neg (by simpa using fun q => z q.symm)]; omega
          | _ => show cnO L es i y = _ - if false = true then 1 else 0; rw [if_neg (by decide)]; omega
/-- nothing is down behind a whole record -/
theorem whole_none {L : List (List Actn)} {es : List Ev} (hV : Valid es) (h : ∀ k, heldB es k = false) (y : Str) : cnO L es es.length y = 0 := by
  have b := binv (L := L) hV es.length (Nat.le_refl _)
  have e : (runS L es es.length).bd = [] := by
    refine List.eq_nil_iff_forall_not_mem.mpr fun p hp => ?_
    have := b.held p hp
    rw [List.take_length, h] at this
    cases this
  rw [b.cnt y, e]
  rfl
/-! ### the downs without an up, with their outputs -/
def dlM (L : List (List Actn)) (es : List Ev) : Nat → List (Int × Outp)
  | 0 => []
  | i + 1 => if (evAt es i).d then dlM L es i ++ [((evAt es i).k, outM L es i)] else (dlM L es i).filter fun p => decide (p.1 ≠ (evAt es i).k)
def toRe : Outp → Outp
  | .pr c => .re c
  | _ => .no
structure DInv (L : List (List Actn)) (es : List Ev) (i : Nat) : Prop where
  nd : ((dlM L es i).map (·.1)).Nodup
  mem : ∀ k, k ∈ (dlM L es i).map (·.1) ↔ heldB (es.take i) k = true
  re : ∀ p ∈ dlM L es i, relO (runS L es i) p.1 = toRe p.2
  len : (dlM L es i).length ≤ i
theorem dinv {L : List (List Actn)} {es : List Ev} (hV : Valid es) : ∀ i, i ≤ es.length → DInv L es i
  | 0, _ => ⟨List.nodup_nil, fun k => ⟨fun h => (by cases h), fun h => (by cases h)⟩, fun p hp => (by cases hp), Nat.le_refl 0⟩
  | i + 1, hi => by
    have ih := dinv (L := L) hV i (by omega)
    have bi := binv (L := L) hV i (by omega)
    have hq : es[i]? = some es[i] := List.getElem?_eq_getElem (by omega)
    have ev := evAt_eq (es := es) (i := i) (by omega)
    obtain ⟨v1, v2, v3⟩ := hV i _ hq
    have ht := heldB_take hq
    rw [← ev] at ht v2
    rcases Bool.eq_false_or_eq_true (evAt es i).d with hd | hd
    · have hu : heldB (es.take i) (evAt es i).k = false := by rw [v2, hd]; rfl
      have e : dlM L es (i + 1) = dlM L es i ++ [((evAt es i).k, outM L es i)] := if_pos hd
      have hk : ∀ p ∈ (runS L es i).bd, p.1 ≠ (evAt es i).k := fun p hp z => by
        have := bi.held p hp
        rw [z, hu] at this
        cases this
      have eo : outM L es i = outP (whatM (xAt L es i) (kindM es i (xAt L es i))) := by unfold outM; rw [if_pos hd]
      have er := runS_dn (L := L) hd
      generalize whatM (xAt L es i) (kindM es i (xAt L es i)) = x at eo er
      refine ⟨?_, fun k => ?_, fun p hp => ?_, by rw [e, List.length_append]; have := ih.len; simp; omega⟩
      · rw [e, List.map_append]
        refine List.nodup_append.mpr ⟨ih.nd, by simp, fun a ha b hb => ?_⟩
        have hb : b = (evAt es i).k := by simpa using hb
        rintro rfl
        rw [hb] at ha
        have := (ih.mem _).mp ha
        rw [hu] at this
        cases this
      · rw [e, List.map_append, List.mem_append, ih.mem, ht]
        unfold after
        by_cases z : k = (evAt es i).k
        · rw [if_pos z]
          exact ⟨fun _ => hd, fun _ => .inr (by simp [z])⟩
        · rw [if_neg z]
          exact ⟨fun h => h.elim id fun h => absurd (by simpa using h) z, .inl⟩
      · rw [e] at hp
        rcases List.mem_append.mp hp with q | q
        · have ne : p.1 ≠ (evAt es i).k := fun z => by
            have := (ih.mem p.1).mp (List.mem_map.mpr ⟨p, q, rfl⟩)
            rw [z, hu] at this
            cases this
          rw [← ih.re p q, er, relO_eq, relO_eq]
          rcases press_bd (s := runS L es i) (k := (evAt es i).k) (x := x) with h | ⟨h, _⟩
          · rw [h]
          · rw [h, get_putB hk, if_neg ne]
        · have hp : p = ((evAt es i).k, outM L es i) := List.mem_singleton.mp q
          rw [hp, er, relO_eq]
          show outR ((getB (press (runS L es i) (evAt es i).k x).bd (evAt es i).k).getD .none) = toRe (outM L es i)
          rw [eo]
          rcases press_bd (s := runS L es i) (k := (evAt es i).k) (x := x) with h | ⟨h, hx⟩
          · have : ∀ c, x ≠ .code c := fun c z => by
              rw [z, press_code, put_new hk] at h
              have := congrArg List.length h
              rw [List.length_append] at this
              simp at this
            rw [h, get_none hk]
            cases x with
            | code c => exact absurd rfl (this c)
            | _ => rfl
          · rw [h, get_putB hk, if_pos rfl]
            rcases hx with ⟨c, rfl⟩ | ⟨w, j, rfl⟩ <;> rfl
    · have e : dlM L es (i + 1) = (dlM L es i).filter fun p => decide (p.1 ≠ (evAt es i).k) := if_neg (by rw [hd]; decide)
      have er := runS_up (L := L) hd
      refine ⟨?_, fun k => ?_, fun p hp => ?_, by rw [e]; have := ih.len; have := List.length_filter_le (fun p : Int × Outp => decide (p.1 ≠ (evAt es i).k)) (dlM L es i); omega⟩
      · rw [e]
        exact ih.nd.sublist ((List.filter_sublist).map _)
      · rw [e, ht]
        unfold after
        by_cases z : k = (evAt es i).k
        · rw [if_pos z, hd]
          refine ⟨fun h => ?_, fun h => by cases h⟩
          obtain ⟨p, hp, rfl⟩ := List.mem_map.mp h
          exact absurd z (of_decide_eq_true (List.mem_filter.mp hp).2)
        · rw [if_neg z, ← ih.mem]
          constructor
          · intro h
            obtain ⟨p, hp, rfl⟩ := List.mem_map.mp h
            exact List.mem_map.mpr ⟨p, (List.mem_filter.mp hp).1, rfl⟩
          · intro h
            obtain ⟨p, hp, rfl⟩ := List.mem_map.mp h
            exact List.mem_map.mpr ⟨p, List.mem_filter.mpr ⟨hp, decide_eq_true z⟩, rfl⟩
      · rw [e] at hp
        obtain ⟨h1, h2⟩ := List.mem_filter.mp hp
        have ne : p.1 ≠ (evAt es i).k := of_decide_eq_true h2
        rw [← ih.re p h1, er, relO_eq, relO_eq]
        show outR ((getB (dropB (runS L es i).bd (evAt es i).k) p.1).getD .none) = _
        rw [get_dropB ne]
/-- sorted by keys, none twice: one list -/
theorem one_asc {as bs : List Int} (h1 : as.Pairwise (· ≤ ·)) (h2 : bs.Pairwise (· ≤ ·)) (n1 : as.Nodup) (n2 : bs.Nodup) (h : ∀ x, x ∈ as ↔ x ∈ bs) : as = bs :=
  List.Perm.eq_of_pairwise (fun x y _ _ a b => Int.le_antisymm a b) h1 h2 ((List.perm_ext_iff_of_nodup n1 n2).mpr h)
/-! ### a record with an up for each key that is down -/
def endM (es : List Ev) (ns : List Int) : List Ev := es ++ ns.map (upAt (lastT es + 1000000000))
theorem endM_len (es : List Ev) (ns : List Int) : (endM es ns).length = es.length + ns.length := by unfold endM; rw [List.length_append, List.length_map]
theorem endM_take (es : List Ev) (ns : List Int) : (endM es ns).take es.length = es := by unfold endM; rw [List.take_left']; rfl
theorem endM_old {es : List Ev} {ns : List Int} {i : Nat} (h : i < es.length) : evAt (endM es ns) i = es[i] := by
  rw [evAt_eq (by rw [endM_len]; omega)]
  unfold endM
  exact List.getElem_append_left h
theorem endM_new {es : List Ev} {ns : List Int} {j : Nat} (h : j < ns.length) : evAt (endM es ns) (es.length + j) = ⟨lastT es + 1000000000, ns[j], false⟩ := by
  rw [evAt_eq (by rw [endM_len]; omega)]
  unfold endM
  rw [List.getElem_append_right (by omega), List.getElem_map]
  congr 2
  omega
theorem le_last {es : List Ev} (hV : Valid es) : ∀ e ∈ es, e.t ≤ lastT es := fun e he => by
  obtain ⟨i, hi⟩ := List.getElem?_of_mem he
  have hil := (List.getElem?_eq_some_iff.mp hi).1
  have hl : es[es.length - 1]? = some es[es.length - 1] := List.getElem?_eq_getElem (by omega)
  have el : lastT es = es[es.length - 1].t := by
    unfold lastT
    rw [List.getLast?_eq_getElem?, hl]
    rfl
  rw [el]
  rcases Nat.lt_or_ge i (es.length - 1) with q | q
  · exact hV.mono i _ _ _ q hi hl
  · have : i = es.length - 1 := by omega
    subst this
    rw [Option.some.inj (hi.symm.trans hl)]
    exact Int.le_refl _
theorem endM_valid {es : List Ev} {ns : List Int} (hV : Valid es) (nd : ns.Nodup) (hm : ∀ k, k ∈ ns ↔ heldB es k = true) : Valid (endM es ns) := by
  refine Valid.ups (t := lastT es + 1000000000) ns hV nd (fun k hk => ⟨(hm k).mp hk, ?_⟩) (fun e he => by have := le_last hV e he; omega)
  obtain ⟨e, he, rfl⟩ := held_mem ((hm k).mp hk)
  obtain ⟨i, hi⟩ := List.getElem?_of_mem he
  exact (hV i e hi).1
theorem endM_none {es : List Ev} {ns : List Int} (hm : ∀ k, k ∈ ns ↔ heldB es k = true) (k : Int) : heldB (endM es ns) k = false := by
  have h := heldB_ups (t := lastT es + 1000000000) ns es k
  have : heldB (endM es ns) k = (heldB es k && !decide (k ∈ ns)) := h
  rw [this]
  cases hk : heldB es k with
  | false => rfl
  | true => rw [decide_eq_true ((hm k).mpr hk)]; rfl
theorem time_le {n i : Int} {x : Actn} (h : ActOk n i x) : timeOf x ≤ 1000000000 := by
  cases x with
  | dualC c d t r => exact h.2.2.1.2
  | dualL c j t r => exact h.2.2.1.2
  | _ => exact (by decide : (0 : Int) ≤ 1000000000)
theorem end_good {L : List (List Actn)} {es : List Ev} {ns : List Int} {m : Nat} (hO : LayOk L m) (hV : Valid es) (hk : ∀ e ∈ es, e.k < (m : Int)) : ∀ j, j < es.length → Good L (endM es ns) es.length j := by
  intro j hj _
  rcases kind_take (es := endM es ns) (c := es.length) (x := xAt L (endM es ns) j) hj with h | ⟨_, _, _, n, h4, h5, _⟩
  · exact h
  · exfalso
    have hn := (sureM_lt h4).2
    rw [endM_len] at hn
    have e1 := endM_old (ns := ns) hj
    obtain ⟨i, rfl⟩ : ∃ i, n = es.length + i := ⟨n - es.length, by omega⟩
    have e2 := endM_new (es := es) (ns := ns) (j := i) (by omega)
    have k0 := (hV j _ (List.getElem?_eq_getElem hj)).1
    have k1 := hk _ (List.getElem_mem hj)
    obtain ⟨_, t2, _⟩ := taken_ok hO (runS L (endM es ns) j) (k := (evAt (endM es ns) j).k.toNat) (by rw [e1]; omega)
    have tl := time_le t2
    have tl : timeOf (xAt L (endM es ns) j) ≤ 1000000000 := tl
    have hle := le_last hV _ (List.getElem_mem hj)
    unfold sureM at h4
    cases hd : decM (endM es ns) j (ruleOf (xAt L (endM es ns) j)) with
    | none => rw [hd] at h4; cases h4
    | some q =>
      rw [hd] at h4
      dsimp only at h4
      split at h4
      · cases h4
      · rename_i hx
        have eq : q = es.length + i := Option.some.inj h4
        rw [eq, e1, e2] at hx
        exact hx (by show es[j].t + _ ≤ lastT es + 1000000000; omega)
theorem end_run {L : List (List Actn)} {es : List Ev} {ns : List Int} {m : Nat} (hO : LayOk L m) (hV : Valid es) (hk : ∀ e ∈ es, e.k < (m : Int)) : runS L (endM es ns) es.length = runS L es es.length := by
  have := run_take (L := L) (es := endM es ns) (c := es.length) es.length (Nat.le_refl _) (end_good hO hV hk)
  rw [endM_take] at this
  exact this.symm
theorem end_outs {L : List (List Actn)} {es : List Ev} {ns : List Int} {m : Nat} (hO : LayOk L m) (hV : Valid es) (hk : ∀ e ∈ es, e.k < (m : Int)) : outsM L (endM es ns) es.length = outsM L es es.length := by
  have := outs_take (L := L) (es := endM es ns) (c := es.length) (by rw [endM_len]; omega) (Nat.le_refl _) (end_good hO hV hk)
  rw [endM_take] at this
  exact this.symm
theorem end_ups {L : List (List Actn)} {es : List Ev} {ns : List Int} (nd : ns.Nodup) : ∀ j, j ≤ ns.length → ∀ k, (∀ i, i < j → ns[i]? ≠ some k) → getB (runS L (endM es ns) (es.length + j)).bd k = getB (runS L (endM es ns) es.length).bd k
  | 0, _, k, _ => rfl
  | j + 1, hj, k, h => by
    have ih := end_ups (L := L) (es := es) nd j (by omega) k fun i hi => h i (by omega)
    have ev := endM_new (es := es) (ns := ns) (j := j) (by omega)
    have er := runS_up (L := L) (es := endM es ns) (i := es.length + j) (by rw [ev])
    rw [show es.length + (j + 1) = es.length + j + 1 by omega, er, ← ih]
    have ne : k ≠ ns[j] := fun z => h j (by omega) (by rw [z]; exact List.getElem?_eq_getElem (by omega))
    show getB (dropB _ _) k = _
    rw [ev]
    exact get_dropB ne
/-- the outputs of the ups behind a record -/
theorem end_more {L : List (List Actn)} {es : List Ev} {ns : List Int} {m : Nat} (hO : LayOk L m) (hV : Valid es) (hk : ∀ e ∈ es, e.k < (m : Int)) (nd : ns.Nodup) {j : Nat} (hj : j < ns.length) : outM L (endM es ns) (es.length + j) = relO (runS L es es.length) ns[j] := by
  have ev := endM_new (es := es) (ns := ns) hj
  unfold outM
  rw [ev]
  rw [if_neg Bool.false_ne_true, relO_eq, relO_eq]
  show outR ((getB (runS L (endM es ns) (es.length + j)).bd ns[j]).getD .none) = _
  rw [end_ups nd j (by omega) ns[j] fun i hi z => by
    have := (List.getElem_inj nd).mp ((Option.some.inj ((List.getElem?_eq_getElem (show i < ns.length by omega)).symm.trans z)))
    omega, end_run hO hV hk]
end K15

set_option Elab.async false
set_option linter.all false
set_option maxRecDepth 100000
set_option maxHeartbeats 8000000
namespace K15
open PySem PySem.Spec PyProof.Rows L2 Gd Rm La Cb Pl
theorem AllV.atM {α : Type} {R : Hp → α → V → Prop} {H : Hp} {vs : List V} {f : Nat → α} {n i : Nat} (h : AllV R H vs ((List.range n).map f)) (hi : i < n) : ∃ v, vs[i]? = some v ∧ R H (f i) v := by
  have hl := h.1
  rw [List.length_map, List.length_range] at hl
  have hv : vs[i]? = some vs[i] := List.getElem?_eq_getElem (by omega)
  exact ⟨_, hv, h.2 i _ _ hv (by rw [List.getElem?_map, List.getElem?_range hi]; rfl)⟩
theorem AllV.take {α : Type} {R : Hp → α → V → Prop} {H : Hp} {vs : List V} {xs : List α} (h : AllV R H vs xs) (k : Nat) : AllV R H (vs.take k) (xs.take k) := by
  refine ⟨by rw [List.length_take, List.length_take, h.1], fun i v x a b => ?_⟩
  rw [List.getElem?_take] at a b
  split at a
  · rename_i z
    rw [if_pos z] at b
    exact h.2 i v x a b
  · cases a
theorem OutsV.take {H : Hp} {vs : List V} {xs : List Outp} (h : OutsV H vs xs) (k : Nat) : OutsV H (vs.take k) (xs.take k) := by
  refine ⟨by rw [List.length_take, List.length_take, h.1], fun i v x a b => ?_⟩
  rw [List.getElem?_take] at a b
  split at a
  · rename_i z
    rw [if_pos z] at b
    exact h.2 i v x a b
  · cases a
theorem tups_take {H : Hp} {as : List Addr} {es : List Ev} (h : Tups H evV as es) (n : Nat) : Tups H evV (as.take n) (es.take n) := by
  refine ⟨by rw [List.length_take, List.length_take, h.1], fun i a e u v => ?_⟩
  rw [List.getElem?_take] at u v
  split at u
  · rename_i z
    rw [if_pos z] at v
    exact h.2 i a e u v
  · cases u
theorem range_take {α : Type} {f : Nat → α} {n k : Nat} (h : k ≤ n) : ((List.range n).map f).take k = (List.range k).map f := by
  rw [← List.map_take, List.take_range, Nat.min_eq_left h]
theorem lay_of {n : Nat} : ∀ ds : List PyData, (∀ d ∈ ds, d.canLay0 = true ∧ PyData.depth d ≤ n) → PyData.canLayAll0 ds = true ∧ PyData.depthAll ds ≤ n
  | [], _ => ⟨rfl, Nat.zero_le _⟩
  | d :: ds, h => by
    obtain ⟨a, b⟩ := lay_of ds fun x hx => h x (List.mem_cons_of_mem _ hx)
    obtain ⟨c1, c2⟩ := h d List.mem_cons_self
    refine ⟨?_, ?_⟩
    · show (PyData.canLay0 d && PyData.canLayAll0 ds) = true
      rw [a, c1]
      rfl
    · show max (PyData.depth d) (PyData.depthAll ds) ≤ n
      omega
theorem shaped_list {n : Nat} (hn : n ≤ 60) {ds : List PyData} (h : ∀ d ∈ ds, d.canLay0 = true ∧ PyData.depth d ≤ n) : SeqAt.shaped (.list ds) = true ∧ (PyData.list ds).canLay0 = true := by
  obtain ⟨a, b⟩ := lay_of ds h
  refine ⟨?_, a⟩
  show (PyData.canLayAll0 ds && decide (PyData.depthAll ds + 1 ≤ 64)) = true
  rw [a, decide_eq_true (by omega)]
  rfl
theorem shaped_canlay {d : PyData} (h : SeqAt.shaped d = true) : d.canLay0 = true := (Bool.and_eq_true_iff.mp h).1
theorem out_can {o : Outp} (h : OutOk o) : (outD o).canLay0 = true ∧ PyData.depth (outD o) ≤ 5 := by
  refine ⟨shaped_canlay (out_lay h), ?_⟩
  cases o <;> (show _ ≤ 5; first | exact (by decide : (1 : Nat) ≤ 5) | exact (by decide : (0 : Nat) + 1 ≤ 5))
theorem shaped_outs {os : List Outp} (h : ∀ o ∈ os, OutOk o) : SeqAt.shaped (.list (os.map outD)) = true ∧ (PyData.list (os.map outD)).canLay0 = true := shaped_list (n := 5) (by decide) fun d hd => by
  obtain ⟨o, ho, rfl⟩ := List.mem_map.mp hd
  exact out_can (h o ho)
theorem shaped_optN (os : List (Option Nat)) : SeqAt.shaped (.list (os.map optND)) = true ∧ (PyData.list (os.map optND)).canLay0 = true := shaped_list (n := 5) (by decide) fun d hd => by
  obtain ⟨o, ho, rfl⟩ := List.mem_map.mp hd
  cases o <;> exact ⟨rfl, (by decide : (0 : Nat) ≤ 5)⟩
theorem outs_ok2 {L : List (List Actn)} {es : List Ev} {m n : Nat} (hO : LayOk L m) (hV : Valid es) (hk : ∀ e ∈ es, e.k < (m : Int)) (hn : n ≤ es.length) : ∀ o ∈ outsM L es n, OutOk o := fun o ho => by
  unfold outsM at ho
  obtain ⟨i, hi, rfl⟩ := List.mem_map.mp ho
  exact outM_ok hO hV hk (by have := List.mem_range.mp hi; omega)
theorem eqVt (x : V) : V.bl (decide (x = x)) = V.bl true := by simp
/-- decided in a beginning, or not -/
def behindM (c : Nat) (o : Option Nat) : Option Nat := o.bind fun n => if n < c then some n else none
theorem sures_take {L : List (List Actn)} {es : List Ev} {c : Nat} (hg : ∀ j, j < c → Good L es c j) : suresM L (es.take c) c = (suresM L es c).map (behindM c) := by
  unfold suresM
  rw [List.map_map]
  refine List.map_congr_left fun j hj => ?_
  have := List.mem_range.mp hj
  exact (td_good (by omega) (fun k hk => hg k (by omega)) (hg j (by omega))).2
section
variable {P : Program} {w : World} {K : PySem.W.Frag} {mg : Str → Option Value} {base : Heap}
def spCutR : Sp := fun vs H Q _ => ∃ (c g : Addr) (L : List (List Actn)) (m : Nat) (es : List Ev) (cn : Nat), vs = [.ref c, .ref g, .int (cn : Int)] ∧ Lay H c L ∧ LayOk L m ∧ Lst evV H g es ∧ Valid es ∧ es.length ≤ 400 ∧ (∀ e ∈ es, e.k < (m : Int)) ∧ cn ≤ es.length ∧
  ∀ H', Same H H' → Q (.bl true) H'
theorem ok__law_cut_right (bt : Bt mg) {C : Addr} (a : At K mg "_law_cut_right" s__law_cut_right ["_law_layout_here", "_law_record_here", "_law_cut"]) (c_meanings : Cl P w K mg base 9 "meanings" spMeanings) (c_played : Cl P w K mg base 9 "played" spPlayed) (c_sure_by : Cl P w K mg base 9 "sure_by" spSureBy) (c_is_whole : Cl P w K mg base 5 "is_whole" spWhole) : Cl P w K mg base 10 "_law_cut_right" spCutR := by
  refine clG a sc__law_cut_right (fun vs H Q E h => ?_) (fun f cdv A0 outer s H vs Q hg hr h => ?_)
  · obtain ⟨c, g, L, m, es, cn, rfl, _⟩ := h
    rfl
  · obtain ⟨c, g, L, m, es, cn, rfl, hL, hO, hG, hV, h4, hkm, hcn, q⟩ := h
    refine ⟨_, (pss_cons (ps_asg (pe_tup (pa_cons (pe_slice sl_list (pv 1) po_none (po_some (pv 2))) (pa_cons (pe_slice sl_list (pe_cl c_meanings hg hr (by decide) (by rfl) (pa_cons (pv 0) (pa_cons (pv 1) pa_nil))) po_none (po_some (pv 2))) pa_nil))) (pg_tup rfl (pgs_cons (pg_name (i := 3) sc__law_cut_right.nd rfl (Or.inl rfl)) (pgs_cons (pg_name (i := 4) sc__law_cut_right.nd rfl (Or.inr rfl)) pgs_nil))))
      (pss_cons (ps_par (i := 5) (j := 6) rfl sc__law_cut_right.nd rfl rfl (by decide) rfl rfl (pa_cons (pe_cl c_played hg hr (by decide) (by rfl) (pa_cons (pv 0) (pa_cons (pv 3) pa_nil))) (pa_cons (pe_slice sl_list (pe_cl c_played hg hr (by decide) (by rfl) (pa_cons (pv 0) (pa_cons (pv 1) pa_nil))) po_none (po_some (pv 2))) pa_nil)) (by rfl))
      (pss_cons (ps_asg (pe_tup (pa_cons (pe_cl c_meanings hg hr (by decide) (by rfl) (pa_cons (pv 0) (pa_cons (pv 3) pa_nil))) (pa_cons (pe_cl c_sure_by hg hr (by decide) (by rfl) (pa_cons (pv 0) (pa_cons (pv 1) pa_nil))) pa_nil))) (pg_tup rfl (pgs_cons (pg_name (i := 7) sc__law_cut_right.nd rfl (Or.inr rfl)) (pgs_cons (pg_name (i := 8) sc__law_cut_right.nd rfl (Or.inl rfl)) pgs_nil))))
      (pss_cons (ps_set (i := 10) sc__law_cut_right.nd rfl (Or.inl rfl) (pe_slice sl_list (pe_lc (own := [("_law_at", 9)]) (g := (gName 9)) (by rfl) sc__law_cut_right.nd (pi_range1 (by rfl) bt.m_range (pa_cons (pv 2) pa_nil)) (blkOk_by (N := n__law_cut_right) (sc := defScope s__law_cut_right) (by decide +kernel)) (fun _ _ _ _ _ => (pg_name (i := 9) sc__law_cut_right.nd rfl (Or.inl rfl))) (fun _ _ _ _ _ => (pts_one (pt_cmpR (r := rNeD K) (op_neD hr.units) (pe_ix (r := rIxL K) ix_list (pv 7) (pv 9) (fun _ _ => rfl)) (pe_ix (r := rIxL K) ix_list (pv 4) (pv 9) (fun _ _ => rfl)) (nomark _)))) (fun _ _ _ _ _ => (pv 9))) po_none (po_some pe_int)))
      (pss_cons (ps_if (pt_cmpR (op_eqD hr.units) (pv 10) (pe_lst pa_nil) (nomark _)) (pss_cons (ps_setLc (i := 11) (own := [("_law_one", 12)]) (g := (gName 12)) (by rfl) sc__law_cut_right.nd rfl rfl (sw_true rfl rfl rfl (by decide +kernel)) (pi_list (pe_slice sl_list (pv 8) po_none (po_some (pv 2)))) (blkOk_by (N := n__law_cut_right) (sc := defScope s__law_cut_right) (by decide +kernel)) (fun _ _ _ _ _ => (pg_name (i := 12) sc__law_cut_right.nd rfl (Or.inl rfl))) (fun _ _ _ _ _ => pts_nil) (fun _ _ _ _ _ => (pe_ifExp (PW.pt (pw_and (pt_cmpR op_notN (pv 12) pe_non (nomark _)) (pw_and1 (pt_cmpR op_ge (pv 12) (pv 2) (nomark _))))) pe_non (pv 12))))
      (pss_one (ps_ret (pe_and (pe_cmpR (op_eqD hr.units) (pv 5) (pv 6) (nomark _)) (pe_one (pe_cmpR (op_eqD hr.units) (pe_cl c_sure_by hg hr (by decide) (by rfl) (pa_cons (pv 0) (pa_cons (pv 3) pa_nil))) (pv 11) (nomark _))))))) pss_nil)
      (pss_cons (ps_set (i := 9) sc__law_cut_right.nd rfl (Or.inl rfl) (pe_ix ix_list (pv 10) pe_int (fun _ _ => rfl)))
      (pss_cons (ps_if (PW.pt (pw_or (pt_cmpR (op_neD hr.units) (pe_slice sl_list (pv 5) po_none (po_some (pv 9))) (pe_slice sl_list (pv 6) po_none (po_some (pv 9))) (nomark _)) (pw_or1 (pt_val (pe_cl c_is_whole hg hr (by decide) (by rfl) (pa_cons (pv 3) pa_nil)))))) (pss_one (ps_ret pe_bl)) pss_nil)
      (pss_one (ps_ret (pe_and (pe_cmpR op_eq (pe_ix ix_tup (pe_ix ix_list (pv 7) (pv 9) (fun _ _ => rfl)) pe_int (fun _ _ => rfl)) pe_str (nomark _)) (pe_and (pe_cmpR op_eq (pe_ix ix_tup (pe_ix ix_list (pv 4) (pv 9) (fun _ _ => rfl)) pe_int (fun _ _ => rfl)) pe_str (nomark _)) (pe_and (pe_cmpR op_ge (pe_ix ix_list (pv 8) (pv 9) (fun _ _ => rfl)) (pv 2) (nomark _)) (pe_one (pe_cmpR op_eq (pe_ix ix_tup (pe_ix ix_list (pv 1) (pe_ix ix_list (pv 8) (pv 9) (fun _ _ => rfl)) (fun _ _ => rfl)) pe_int (fun _ _ => rfl)) (pe_ix ix_tup (pe_ix ix_list (pv 1) (pv 9) (fun _ _ => rfl)) pe_int (fun _ _ => rfl)) (nomark _))))))))))))))), ?_⟩
    have hV' := hV.take cn
    have hlen' : (es.take cn).length = cn := by rw [List.length_take]; omega
    have hkm' : ∀ e ∈ es.take cn, e.k < (m : Int) := fun e he => hkm e (List.mem_of_mem_take he)
    obtain ⟨as, hg0, hT⟩ := id hG
    refine ⟨_, rfl, _, rfl, _, rfl, g, _, rfl, SqL.of hg0, fun B nB => ?_⟩
    rw [cutTake, ← List.map_take]
    have kB := same_upd (o := .lst ((as.take cn).map V.ref)) nB
    have hB : Lst evV (upd H B (.lst ((as.take cn).map V.ref))) B (es.take cn) := ⟨as.take cn, upd_same, (tups_take hT cn).same kB⟩
    refine ⟨_, rfl, _, rfl, c, g, L, m, es, rfl, hL.same kB, hO, hG.same kB, hV, h4, hkm, fun H1 D1 s1 nD1 hD1 => ?_⟩
    obtain ⟨ms, hms, hMs⟩ := hD1
    refine ⟨_, rfl, _, rfl, D1, _, rfl, SqL.of hms, fun K1 nK1 => ?_⟩
    rw [cutTake]
    have kK := same_upd (o := .lst (ms.take cn)) nK1
    refine ⟨(by show 2 ≤ sizeLine; decide), fun T nT => ⟨T, _, rfl, SqT.of upd_same, rfl, _, _, rfl, _, _, rfl, rfl, ?_⟩⟩
    have kT := same_upd (o := .tup [.ref B, .ref K1]) nT
    have s02 := (kB.trans s1).trans (kK.trans kT)
    have hB2 := hB.same (s1.trans (kK.trans kT))
    have hKn := kT _ _ (upd_same (H := H1) (a := K1) (o := .lst (ms.take cn)))
    have hKnV : AllV MeanV (upd (upd H1 K1 (.lst (ms.take cn))) T (.tup [.ref B, .ref K1])) (ms.take cn) ((List.range cn).map (runT L es)) := by
      have := (hMs.take cn).keep fun x v z => z.keep (Tk.of (kK.trans kT))
      unfold tdsM at this
      rw [range_take hcn] at this
      exact this
    generalize upd (upd H1 K1 (.lst (ms.take cn))) T (.tup [.ref B, .ref K1]) = H2 at s02 hB2 hKn hKnV ⊢
    -- what is played
    refine ⟨_, rfl, _, rfl, c, B, L, m, es.take cn, rfl, hL.same s02, hO, hB2, hV', by omega, hkm', fun H3 P3 s3 nP3 hP3 => ?_⟩
    have s03 := s02.trans s3
    refine ⟨_, rfl, _, rfl, c, g, L, m, es, rfl, hL.same s03, hO, hG.same s03, hV, h4, hkm, fun H4 P4 s4 nP4 hP4 => ?_⟩
    obtain ⟨os, hos, hOs⟩ := hP4
    refine ⟨_, rfl, _, rfl, P4, _, rfl, SqL.of hos, fun D4 nD4 => ⟨_, _, rfl, ?_⟩⟩
    rw [cutTake]
    have kD := same_upd (o := .lst (os.take cn)) nD4
    have s04 := s03.trans (s4.trans kD)
    have hTold := hP3.same (s4.trans kD)
    have hDue : Outs (upd H4 D4 (.lst (os.take cn))) D4 (outsM L es cn) := by
      refine ⟨os.take cn, upd_same, ?_⟩
      have := (hOs.take cn).keep (Tk.of kD)
      unfold outsM at this
      rw [range_take hcn] at this
      exact this
    have hB4 := hB2.same (s3.trans (s4.trans kD))
    have hKn4 := (s3.trans (s4.trans kD)) _ _ hKn
    have hKnV4 := hKnV.keep fun x v z => z.keep (Tk.of (s3.trans (s4.trans kD)))
    rw [hlen'] at hTold
    generalize upd H4 D4 (.lst (os.take cn)) = H5 at s04 hTold hDue hB4 hKn4 hKnV4 ⊢
    -- meanings and deciding events
    refine ⟨_, rfl, _, rfl, c, B, L, m, es.take cn, rfl, hL.same s04, hO, hB4, hV', by omega, hkm', fun H6 S6 s6 nS6 hS6 => ?_⟩
    have s06 := s04.trans s6
    refine ⟨_, rfl, _, rfl, c, g, L, m, es, rfl, hL.same s06, hO, hG.same s06, hV, h4, hkm, fun H7 Y7 s7 nY7 hY7 => ?_⟩
    refine ⟨(by show 2 ≤ sizeLine; decide), fun T nT => ⟨T, _, rfl, SqT.of upd_same, rfl, _, _, rfl, _, _, rfl, rfl, ?_⟩⟩
    have kT := same_upd (o := .tup [.ref S6, .ref Y7]) nT
    have s57 := s6.trans (s7.trans kT)
    have s07 := s04.trans s57
    obtain ⟨ss, hss, hSsV⟩ := hS6.same (s7.trans kT)
    have hY := kT _ _ hY7
    have hTold7 := hTold.same s57
    have hDue7 := hDue.same s57
    have hB7 := hB4.same s57
    have hKn7 := s57 _ _ hKn4
    have hKnV7 := hKnV4.keep fun x v z => z.keep (Tk.of s57)
    rw [hlen'] at hSsV
    unfold tdsM at hSsV
    generalize upd H7 T (.tup [.ref S6, .ref Y7]) = H8 at s07 hss hSsV hY hTold7 hDue7 hB7 hKn7 hKnV7 ⊢
    have okT : ∀ j, j < cn → TdOk L.length (runT L es j) := fun j hj => runT_ok hO hV hkm (by omega)
    have okT' : ∀ j, j < cn → TdOk L.length (runT L (es.take cn) j) := fun j hj => runT_ok hO hV' hkm' (by omega)
    have shp : ∀ {t : Td}, TdOk L.length t → SeqAt.shaped (meanD t) = true := fun {t} ok => by
      obtain ⟨a, b⟩ := shaped_mean ok
      show (PyData.canLay0 (meanD t) && decide (PyData.depth (meanD t) ≤ 64)) = true
      rw [a, decide_eq_true (by omega)]
      rfl
    -- the first that differs
    refine ⟨_, rfl, (cn : Int), rfl, by omega, by omega, fun M nM => lc_it walk_range (fun j H' => Same H8 H' ∧ H' M = some (.lst ((((List.range j).filter (bad L es cn)).map fun i : Nat => (i : Int)).map V.int))) ⟨same_upd nM, upd_same⟩ (fun _ _ _ _ => True.intro) (fun j x Hx Hy hj p y => ?_) (fun H9 p => ?_)⟩
    · obtain ⟨sx, hM⟩ := p
      obtain ⟨rfl, hx⟩ := y
      have hx : x = .int ((j : Nat) : Int) := hx.trans (congrArg V.int (Int.zero_add _))
      subst hx
      have hj : j < cn := by rw [Int.toNat_natCast] at hj; exact hj
      obtain ⟨v1, e1, r1⟩ := hSsV.atM hj
      obtain ⟨v2, e2, r2⟩ := hKnV7.atM hj
      refine ⟨rfl, _, rfl, _, rfl, S6, _, (j : Int), v1, rfl, rfl, SqL.of (sx _ _ hss), atI_nat e1, _, rfl, _, rfl, K1, _, (j : Int), v2, rfl, rfl, SqL.of (sx _ _ hKn7), atI_nat e2, _, _, (r1.keep (Tk.of sx)).dp, (r2.keep (Tk.of sx)).dp, shp (okT' j hj), shp (okT j hj), bad L es cn j, rfl, ?_⟩
      have fl : ((List.range j).filter (bad L es cn)).length ≤ 400 := Nat.le_trans (List.length_filter_le ..) (by rw [List.length_range]; omega)
      rw [List.range_succ, List.filter_append, List.map_append, List.map_append]
      cases hb : bad L es cn j with
      | true =>
        refine iteT ⟨_, rfl, _, hM, small1000 (by rw [List.length_map, List.length_map]; omega), Same.off sx nM off_upd, ?_⟩
        rw [upd_same, List.filter_cons_of_pos hb]
        rfl
      | false =>
        refine iteF ⟨sx, ?_⟩
        rw [List.filter_cons_of_neg (by rw [hb]; decide), hM]
        show _ = some (HO.lst (_ ++ []))
        rw [List.append_nil]
    obtain ⟨s9, hM⟩ := p
    rw [Int.toNat_natCast] at hM
    refine ⟨1, rfl, M, _, rfl, SqL.of hM, fun F nF => ?_⟩
    rw [show (1 : Int) = ((1 : Nat) : Int) from rfl, cutTake, ← List.map_take, ← List.map_take]
    have kF := same_upd (o := .lst (((((List.range cn).filter (bad L es cn)).take 1).map fun i : Nat => (i : Int)).map V.int)) nF
    refine ⟨_, rfl, Nat.zero_le _, fun E nE => ?_⟩
    have kE := same_upd (o := .lst []) nE
    have hF := kE _ _ (upd_same (H := H9) (a := F) (o := .lst (((((List.range cn).filter (bad L es cn)).take 1).map fun i : Nat => (i : Int)).map V.int)))
    refine ⟨_, _, .lst (SqL.of hF) (dpInts _), .lst (SqL.of upd_same) .nil, shaped_ints _, shaped_nil, _, congrArg V.bl (eqv_nil _), ?_⟩
    have sA := s9.trans (kF.trans kE)
    have s0A := s07.trans sA
    have hssA := sA _ _ hss
    have hSsVA := hSsV.keep fun x v z => z.keep (Tk.of sA)
    have hYA := sA _ _ hY
    have hToldA := hTold7.same sA
    have hDueA := hDue7.same sA
    have hBA := hB7.same sA
    have hKnA := sA _ _ hKn7
    have hKnVA := hKnV7.keep fun x v z => z.keep (Tk.of sA)
    generalize upd (upd H9 F (.lst (((((List.range cn).filter (bad L es cn)).take 1).map fun i : Nat => (i : Int)).map V.int))) E (.lst []) = HA at s0A hssA hSsVA hYA hToldA hDueA hBA hKnA hKnVA hF ⊢
    obtain ⟨f1, f2⟩ := filt_first (p := bad L es cn) cn
    cases hfl : (List.range cn).filter (bad L es cn) with
    | nil =>
      have hgood := all_good cn (Nat.le_refl _) (f1 hfl)
      refine iteT ?_
      have eo := outs_take (L := L) hcn (Nat.le_refl cn) hgood
      have hys : suresM L es es.length = suresM L es es.length := rfl
      refine ⟨_, rfl, _, rfl, _, rfl, Y7, _, rfl, SqL.of hYA, fun Z nZ => ?_⟩
      rw [cutTake, ← List.map_take]
      have eS : (suresM L es es.length).take cn = suresM L es cn := by unfold suresM; exact range_take hcn
      rw [eS]
      have kZ := same_upd (o := .lst ((suresM L es cn).map optN)) nZ
      refine ⟨Z, rfl, ⟨_, SqL.of upd_same⟩, fun W nW => lc_it (walk_list (xs := (suresM L es cn).map optN)) (fun j H' => Same (upd HA Z (.lst ((suresM L es cn).map optN))) H' ∧ H' W = some (.lst (((((suresM L es cn).take j).map (behindM cn))).map optN))) ⟨same_upd nW, upd_same⟩ (fun j H' _ p => SqL.of (p.1 _ _ upd_same)) (fun j x Hx Hy hj p y => ?_) (fun HB p => ?_)⟩
      · obtain ⟨sx, hW⟩ := p
        obtain ⟨rfl, hx⟩ := y
        have hj' : j < (suresM L es cn).length := by rw [List.length_map] at hj; exact hj
        have hq : (suresM L es cn)[j]? = some (suresM L es cn)[j] := List.getElem?_eq_getElem hj'
        have ex : optN (suresM L es cn)[j] = x := by
          rw [List.getElem?_map, hq] at hx
          exact Option.some.inj hx
        subst ex
        have fin : ∀ v, v = optN (behindM cn (suresM L es cn)[j]) → ∃ acc, Hy W = some (.lst acc) ∧ acc.length < sizeLine ∧ Same (upd HA Z (.lst ((suresM L es cn).map optN))) (upd Hy W (.lst (acc ++ [v]))) ∧ upd Hy W (.lst (acc ++ [v])) W = some (.lst (((((suresM L es cn).take (j + 1)).map (behindM cn))).map optN)) := fun v hv => by
          refine ⟨_, hW, small1000 (by rw [List.length_map, List.length_map, List.length_take, suresM_len]; omega), Same.off sx nW off_upd, ?_⟩
          rw [upd_same, List.take_add_one, hq, hv, List.map_append, List.map_append]
          rfl
        refine ⟨rfl, ?_⟩
        generalize (suresM L es cn)[j] = o at fin
        cases o with
        | none => exact ⟨_, rfl, rfl, false, rfl, iteF ⟨_, rfl, fin _ rfl⟩⟩
        | some n =>
          refine ⟨_, rfl, rfl, true, rfl, iteT ⟨_, rfl, _, rfl, _, _, rfl, rfl, decide ((cn : Int) ≤ (n : Int)), rfl, ?_⟩⟩
          by_cases z : n < cn
          · rw [decide_eq_false (by omega)]
            exact iteF ⟨_, rfl, fin _ (by show _ = optN (if n < cn then some n else none); rw [if_pos z])⟩
          · rw [decide_eq_true (by omega)]
            exact iteT (fin _ (by show _ = optN (if n < cn then some n else none); rw [if_neg z]; rfl))
      · obtain ⟨sx, hW⟩ := p
        have hl2 : ((suresM L es cn).map optN).length = (suresM L es cn).length := List.length_map ..
        rw [hl2, List.take_length] at hW
        have sB := kZ.trans sx
        have s0B := s0A.trans sB
        have okO := outs_ok2 hO hV hkm hcn
        obtain ⟨sh1, cl1⟩ := shaped_outs okO
        have hT2 := (hToldA.same sB).dp (K := K)
        rw [eo] at hT2
        refine ⟨_, rfl, _, rfl, _, _, hT2, (hDueA.same sB).dp, sh1, sh1, true, congrArg V.bl (SeqAt.eqv_refl _ cl1), iteT ?_⟩
        refine ⟨_, rfl, _, rfl, c, B, L, m, es.take cn, rfl, hL.same s0B, hO, hBA.same sB, hV', by omega, hkm', fun HC YC sC nYC hYC => ?_⟩
        rw [hlen', sures_take hgood] at hYC
        obtain ⟨sh2, cl2⟩ := shaped_optN ((suresM L es cn).map (behindM cn))
        refine ⟨_, rfl, _, _, .lst (SqL.of hYC) (dpOptN _), .lst (SqL.of (sC _ _ hW)) (dpOptN _), sh2, sh2, ?_⟩
        rw [SeqAt.eqv_refl _ cl2]
        exact q _ (s0B.trans sC)
    | cons f rest =>
      obtain ⟨f3, f4, f5⟩ := f2 f rest hfl
      have hgood := all_good f (by omega) f5
      obtain ⟨b1, b2, b3, b4, n, b5, b6, b7⟩ := bad_first f3 hgood (okT f f3) f4
      rw [hfl] at hF
      have hF : HA F = some (.lst [.int (f : Int)]) := hF
      refine iteF ⟨_, rfl, F, _, 0, .int (f : Int), rfl, rfl, SqL.of hF, atI_nat (j := 0) rfl, ?_⟩
      -- told ahead of it
      obtain ⟨us, hu, hUV⟩ := id hToldA
      obtain ⟨ds, hd, hDV⟩ := id hDueA
      have hn := (sureM_lt b5).2
      have eU : outsM L (es.take cn) f = outsM L es f := outs_take hcn (by omega) hgood
      have okO := outs_ok2 (n := f) hO hV hkm (by omega)
      obtain ⟨sh1, cl1⟩ := shaped_outs okO
      refine ⟨_, rfl, _, rfl, _, rfl, P3, _, rfl, SqL.of hu, fun U nU => ?_⟩
      rw [cutTake]
      have kU := same_upd (o := .lst (us.take f)) nU
      refine ⟨_, rfl, _, rfl, _, rfl, D4, _, rfl, SqL.of (kU _ _ hd), fun W nW => ?_⟩
      rw [cutTake]
      have kW := same_upd (o := .lst (ds.take f)) nW
      have hU1 : Outs (upd (upd HA U (.lst (us.take f))) W (.lst (ds.take f))) U (outsM L es f) := by
        refine ⟨us.take f, kW _ _ upd_same, ?_⟩
        have := (hUV.take f).keep (Tk.of (kU.trans kW))
        rw [← eU]
        unfold outsM at this
        rw [range_take (by omega)] at this
        exact this
      have hW1 : Outs (upd (upd HA U (.lst (us.take f))) W (.lst (ds.take f))) W (outsM L es f) := by
        refine ⟨ds.take f, upd_same, ?_⟩
        have := (hDV.take f).keep (Tk.of (kU.trans kW))
        unfold outsM at this
        rw [range_take (by omega)] at this
        exact this
      refine ⟨_, _, hU1.dp, hW1.dp, sh1, sh1, false, congrArg V.bl (by rw [SeqAt.eqv_refl _ cl1]; rfl), iteF ?_⟩
      have sB := kU.trans kW
      have s0B := s0A.trans sB
      refine ⟨_, rfl, B, es.take cn, false, rfl, hBA.same sB, hV', by omega, ⟨fun h => (by cases h), fun h => ?_⟩, fun HB sC => ⟨_, rfl, iteF ?_⟩⟩
      · have := bad_held (L := L) hV hcn f3 b1 b5 b6
        rw [h] at this
        cases this
      have sAC := sB.trans sC
      have s0C := s0A.trans sAC
      obtain ⟨v1, e1, r1⟩ := (hSsVA.keep fun x v z => z.keep (Tk.of sAC)).atM f3
      obtain ⟨v2, e2, r2⟩ := (hKnVA.keep fun x v z => z.keep (Tk.of sAC)).atM f3
      rw [runT_dn (by rw [evAt_take f3]; exact b1), xAt_take f3 hgood, b3] at r1
      rw [runT_dn b1, b4] at r2
      obtain ⟨M1, u1, rfl, r1, _⟩ := r1
      obtain ⟨M2, u2, rfl, r2, _⟩ := r2
      have hsu : ((suresM L es es.length).map optN)[f]? = some (.int (n : Int)) := by
        unfold suresM
        rw [List.getElem?_map, List.getElem?_map, List.getElem?_range (by omega)]
        show some (optN (sureT (runT L es f))) = _
        rw [runT_dn b1]
        show some (optN (if isDl (xAt L es f) then sureM es f (xAt L es f) else none)) = _
        rw [if_pos b2, b5]
        rfl
      obtain ⟨bf, hbf, hbft⟩ := hT.at_ (show f < es.length by omega)
      obtain ⟨bn, hbn, hbnt⟩ := hT.at_ hn
      have hYC := sAC _ _ hYA
      have hgC := s0C _ _ hg0
      refine ⟨_, rfl, _, rfl, S6, _, (f : Int), _, rfl, rfl, SqL.of (sAC _ _ hssA), atI_nat e1, M1, _, 1, _, rfl, rfl, SqT.of r1, atI_nat (j := 1) rfl, rfl, true, eqVt _, iteT ?_⟩
      refine ⟨_, rfl, _, rfl, K1, _, (f : Int), _, rfl, rfl, SqL.of (sAC _ _ hKnA), atI_nat e2, M2, _, 1, _, rfl, rfl, SqT.of r2, atI_nat (j := 1) rfl, rfl, true, eqVt _, iteT ?_⟩
      refine ⟨_, rfl, _, rfl, Y7, _, (f : Int), _, rfl, rfl, SqL.of hYC, atI_nat hsu, _, rfl, _, _, rfl, rfl, true, congrArg V.bl (decide_eq_true (by omega)), iteT ?_⟩
      refine ⟨_, rfl, _, rfl, _, rfl, Y7, _, (f : Int), _, rfl, rfl, SqL.of hYC, atI_nat hsu, g, _, (n : Int), _, rfl, rfl, SqL.of hgC, atI_nat (get_map_ref hbn), bn, _, 1, _, rfl, rfl, SqT.of (s0C _ _ hbnt), atI_nat (j := 1) rfl, ?_⟩
      refine ⟨_, rfl, _, rfl, g, _, (f : Int), _, rfl, rfl, SqL.of hgC, atI_nat (get_map_ref hbf), bf, _, 1, _, rfl, rfl, SqT.of (s0C _ _ hbft), atI_nat (j := 1) rfl, rfl, ?_⟩
      rw [evAt_eq hn, evAt_eq (show f < es.length by omega)] at b7
      rw [b7, eqVt]
      exact q _ s0C
end
end K15

set_option Elab.async false
set_option linter.all false
set_option maxRecDepth 100000
set_option maxHeartbeats 8000000
namespace K15
open PySem PySem.Spec PyProof.Rows L2 Gd Rm La Cb Pl
def DlV (H : Hp) (p : Int × Outp) (v : V) : Prop := ∃ T ov, v = .ref T ∧ H T = some (.tup [.int p.1, ov]) ∧ OutV H p.2 ov
theorem DlV.keep {H H' : Hp} {p : Int × Outp} {v : V} (h : DlV H p v) (k : Tk H H') : DlV H' p v := by
  obtain ⟨T, ov, a, b, c⟩ := h
  exact ⟨T, ov, a, k _ _ b, c.keep k⟩
def dlD (p : Int × Outp) : PyData := .tuple [.int p.1, outD p.2]
theorem DlV.dp {K : PySem.W.Frag} {H : Hp} {p : Int × Outp} {v : V} (h : DlV H p v) : Dp K H v (dlD p) := by
  obtain ⟨T, ov, rfl, b, c⟩ := h
  exact .tup (SqT.of b) (.cons (.int _) (.cons c.dp .nil))
theorem alike_out (a b : Outp) : PySem.W.alike (outD a) (outD b) = true := by cases a <;> cases b <;> rfl
theorem alike_dl (p q : Int × Outp) : PySem.W.alike (dlD p) (dlD q) = true := by
  show (PySem.W.alike (.int p.1) (.int q.1) && (PySem.W.alike (outD p.2) (outD q.2) && true)) = true
  rw [alike_out]
  rfl
theorem dl_le {p q : Int × Outp} (h : (!PySem.W.dataLt (dlD q) (dlD p)) = true) : p.1 ≤ q.1 := by
  have h : PySem.W.dataLt (dlD q) (dlD p) = false := by simpa using h
  unfold dlD at h
  rw [PySem.W.dataLt_pair rfl (alike_out _ _)] at h
  by_cases e : q.1 = p.1
  · omega
  · have e2 : PyData.eqv (.int q.1) (.int p.1) = false := decide_eq_false e
    rw [e2, if_neg (by decide), PySem.W.dataLt_int] at h
    have := of_decide_eq_false h
    omega
theorem sort_dl {H : Hp} {vs : List V} {dl : List (Int × Outp)} (h : AllV DlV H vs dl) : ∃ dl' : List (Int × Outp), dl'.Perm dl ∧ (dl'.map (·.1)).Pairwise (· ≤ ·) ∧ AllV DlV H (((vs.zip (dl.map dlD)).mergeSort (PySem.W.dataLe false (·.2))).map (·.1)) dl' := by
  have e1 : vs.zip (dl.map dlD) = (vs.zip dl).map fun q => (q.1, dlD q.2) := by
    rw [← List.map_id vs, List.zip_map, List.map_id]
    rfl
  have e2 : ((vs.zip dl).mergeSort (fun a b => PySem.W.dataLe false (·.2) ((a.1, dlD a.2) : V × PyData) (b.1, dlD b.2))).map (fun q => (q.1, dlD q.2)) = ((vs.zip dl).map fun q => (q.1, dlD q.2)).mergeSort (PySem.W.dataLe false (·.2)) := List.map_mergeSort fun a _ b _ => rfl
  have pm := List.mergeSort_perm (vs.zip dl) (fun a b => PySem.W.dataLe false (·.2) ((a.1, dlD a.2) : V × PyData) (b.1, dlD b.2))
  have so : ((vs.zip dl).mergeSort (fun a b => PySem.W.dataLe false (·.2) ((a.1, dlD a.2) : V × PyData) (b.1, dlD b.2))).Pairwise (fun a b => PySem.W.dataLe false (·.2) ((a.1, dlD a.2) : V × PyData) (b.1, dlD b.2) = true) := by
    have t := PySem.W.sortLe_total (PyProof.Rows.listOrd PyProof.Rows.itemOrd) false fun q : V × (Int × Outp) => PySem.W.keyToks (dlD q.2)
    exact List.pairwise_mergeSort (fun a b c => t.trans a b c) (fun a b => by rcases t.total a b with h | h <;> (first | exact Bool.or_eq_true_iff.mpr (.inl h) | exact Bool.or_eq_true_iff.mpr (.inr h))) _
  rw [e1, ← e2, List.map_map]
  generalize (vs.zip dl).mergeSort (fun a b => PySem.W.dataLe false (·.2) ((a.1, dlD a.2) : V × PyData) (b.1, dlD b.2)) = S at pm so ⊢
  have hl := h.1
  refine ⟨S.map (·.2), ?_, ?_, ?_⟩
  · have := pm.map (·.2)
    rw [show (vs.zip dl).map (·.2) = dl from List.map_snd_zip (by omega)] at this
    exact this
  · rw [List.map_map]
    exact List.pairwise_map.mpr (so.imp fun {a b} z => dl_le z)
  · refine ⟨by rw [List.length_map, List.length_map], fun i v x a b => ?_⟩
    rw [List.getElem?_map] at a b
    cases hs : S[i]? with
    | none => rw [hs] at a; cases a
    | some q =>
      rw [hs] at a b
      have e1 : q.1 = v := Option.some.inj a
      have e2 : q.2 = x := Option.some.inj b
      subst e1 e2
      have hm := pm.mem_iff.mp (List.mem_of_getElem? hs)
      obtain ⟨j, hj⟩ := List.getElem?_of_mem hm
      rw [List.getElem?_zip_eq_some] at hj
      exact h.2 j _ _ hj.1 hj.2
theorem AllV.filter {α : Type} {R : Hp → α → V → Prop} {H : Hp} {ws : List V} {ys : List α} {v : V} {x : α} {p : α → Bool} {xs : List α} {j : Nat} (h : AllV R H ws ((xs.take j).filter p)) (hx : xs[j]? = some x) (hv : R H x v) : AllV R H (if p x = true then ws ++ [v] else ws) ((xs.take (j + 1)).filter p) := by
  rw [List.take_add_one, hx, List.filter_append]
  show AllV R H _ (_ ++ List.filter p [x])
  by_cases hp : p x = true
  · rw [if_pos hp, List.filter_cons_of_pos hp]
    exact h.snoc hv
  · rw [if_neg hp, List.filter_cons_of_neg hp, List.filter_nil, List.append_nil]
    exact h
theorem eqv_nilS (ds : List Str) : PyData.eqv (.list (ds.map PyData.str)) (.list []) = ds.isEmpty := by cases ds <;> rfl
theorem shaped_strs {ds : List Str} (h : ds = []) : SeqAt.shaped (.list (ds.map PyData.str)) = true := by subst h; rfl
theorem dp_strs {K : PySem.W.Frag} {H : Hp} : ∀ is : List Str, DpAll K H (is.map V.str) (is.map PyData.str)
  | [] => .nil
  | i :: is => .cons (.str i) (dp_strs is)
theorem outs_drop {H : Hp} {os : List Outp} {vs : List V} (h : OutsV H vs os) (k : Nat) : OutsV H (vs.drop k) (os.drop k) := by
  refine ⟨by rw [List.length_drop, List.length_drop, h.1], fun i v x a b => ?_⟩
  rw [List.getElem?_drop] at a b
  exact h.2 _ v x a b
/-- the outputs of the ups are those of what was pressed -/
theorem end_due {L : List (List Actn)} {es : List Ev} {ns : List Int} {m : Nat} (hO : LayOk L m) (hV : Valid es) (hk : ∀ e ∈ es, e.k < (m : Int)) (pw : ns.Pairwise (· ≤ ·)) (nd : ns.Nodup) (hm : ∀ k, k ∈ ns ↔ heldB es k = true)
    {dl : List (Int × Outp)} (pm : dl.Perm (dlM L es es.length)) (so : (dl.map (·.1)).Pairwise (· ≤ ·)) : (outsM L (endM es ns) (endM es ns).length).drop es.length = dl.map fun p => toRe p.2 := by
  have di := dinv (L := L) hV es.length (Nat.le_refl _)
  have e1 : dl.map (·.1) = ns := one_asc so pw ((pm.map _).nodup_iff.mpr di.nd) nd fun k => by
    rw [(pm.map (·.1)).mem_iff, di.mem, List.take_length, hm]
  have ll : dl.length = ns.length := by rw [← e1, List.length_map]
  refine List.ext_getElem? fun j => ?_
  rw [List.getElem?_drop]
  rcases Nat.lt_or_ge j ns.length with q | q
  · have hd : dl[j]? = some dl[j] := List.getElem?_eq_getElem (by omega)
    have hn : ns[j] = dl[j].1 := by
      have : (dl.map (·.1))[j]? = ns[j]? := by rw [e1]
      rw [List.getElem?_map, hd, List.getElem?_eq_getElem q] at this
      exact (Option.some.inj this).symm
    have hmem : dl[j] ∈ dlM L es es.length := pm.mem_iff.mp (List.getElem_mem _)
    unfold outsM
    rw [List.getElem?_map, List.getElem?_range (by rw [endM_len]; omega), List.getElem?_map, hd]
    show some (outM L (endM es ns) (es.length + j)) = some (toRe dl[j].2)
    rw [end_more hO hV hk nd q, hn, di.re _ hmem]
  · rw [List.getElem?_eq_none (by rw [outsM_len, endM_len]; omega), List.getElem?_eq_none (by rw [List.length_map]; omega)]
section
variable {P : Program} {w : World} {K : PySem.W.Frag} {mg : Str → Option Value} {base : Heap}
def spEndR : Sp := fun vs H Q _ => ∃ (c g : Addr) (L : List (List Actn)) (m : Nat) (es : List Ev), vs = [.ref c, .ref g] ∧ Lay H c L ∧ LayOk L m ∧ Lst evV H g es ∧ Valid es ∧ es.length ≤ 200 ∧ (∀ e ∈ es, e.k < (m : Int)) ∧
  ∀ H', Same H H' → Q (.bl true) H'
theorem ok__law_ended_right (bt : Bt mg) {C : Addr} (a : At K mg "_law_ended_right" s__law_ended_right ["_law_layout_here", "_law_record_here"]) (c_ended : Cl P w K mg base 5 "ended" spEnded) (c_played : Cl P w K mg base 9 "played" spPlayed) (c_codes_down : Cl P w K mg base 9 "codes_down" spCodesDown) (c_is_whole : Cl P w K mg base 5 "is_whole" spWhole) : Cl P w K mg base 10 "_law_ended_right" spEndR := by
  refine clG a sc__law_ended_right (fun vs H Q E h => ?_) (fun f cdv A0 outer s H vs Q hg hr h => ?_)
  · obtain ⟨c, g, L, m, es, rfl, _⟩ := h
    rfl
  · obtain ⟨c, g, L, m, es, rfl, hL, hO, hG, hV, h4, hkm, q⟩ := h
    refine ⟨_, (pss_cons (ps_par (i := 2) (j := 3) rfl sc__law_ended_right.nd rfl rfl (by decide) rfl rfl (pa_cons (pe_cl c_ended hg hr (by decide) (by rfl) (pa_cons (pv 1) pa_nil)) (pa_cons (pe_cl c_played hg hr (by decide) (by rfl) (pa_cons (pv 0) (pa_cons (pv 1) pa_nil))) pa_nil)) (by rfl))
      (pss_cons (ps_set (i := 4) sc__law_ended_right.nd rfl (Or.inl rfl) (pe_cl c_played hg hr (by decide) (by rfl) (pa_cons (pv 0) (pa_cons (pv 2) pa_nil))))
      (pss_cons (ps_if (PW.pt (pw_or (pt_cmpR (op_neD hr.units) (pe_slice sl_list (pv 4) po_none (po_some (pe_callB call_len_seq (by rfl) bt.m_len (by decide +kernel) (pa_cons (pv 3) pa_nil)))) (pv 3) (nomark _)) (pw_or (pt_cmpR (op_neD hr.units) (pe_cl c_codes_down hg hr (by decide) (by rfl) (pa_cons (pv 0) (pa_cons (pv 2) pa_nil))) (pe_lst pa_nil) (nomark _)) (pw_or1 (pt_not (pt_val (pe_cl c_is_whole hg hr (by decide) (by rfl) (pa_cons (pv 2) pa_nil)))))))) (pss_one (ps_ret pe_bl)) pss_nil)
      (pss_cons (ps_set (i := 5) sc__law_ended_right.nd rfl (Or.inl rfl) (pe_lst pa_nil))
      (pss_cons (ps_for PassesOwn.never rfl (pi_enum (by rfl) bt.m_enumerate (pa_cons (pv 1) pa_nil)) (pg_tup rfl (pgs_cons (pg_name (i := 6) sc__law_ended_right.nd rfl (Or.inl rfl)) (pgs_cons (pg_tup rfl (pgs_cons (pg_name (i := 7) sc__law_ended_right.nd rfl (Or.inl rfl)) (pgs_cons (pg_name (i := 8) sc__law_ended_right.nd rfl (Or.inr rfl)) (pgs_cons (pg_name (i := 9) sc__law_ended_right.nd rfl (Or.inl rfl)) pgs_nil)))) pgs_nil))) (pss_one (ps_if (pt_cmpR op_eq (pv 9) pe_str (nomark _)) (pss_one (ps_setLc (i := 5) (own := [("_law_row", 12)]) (g := (gName 12)) (by rfl) sc__law_ended_right.nd rfl rfl (sw_true rfl rfl rfl (by decide +kernel)) (pi_list (pv 5)) (blkOk_by (N := n__law_ended_right) (sc := defScope s__law_ended_right) (by decide +kernel)) (fun _ _ _ _ _ => (pg_name (i := 12) sc__law_ended_right.nd rfl (Or.inl rfl))) (fun _ _ _ _ _ => (pts_one (pt_cmpR op_ne (pe_ix (r := rIxT K) ix_tup (pv 12) pe_int (fun _ _ => rfl)) (pv 8) (nomark _)))) (fun _ _ _ _ _ => (pv 12)))) (pss_one (ps_expr (pe_bm PySem.F.plainAttrs_list PySem.F.slot_list_append PySem.F.type_list_append mt_append (pv 5) (pa_cons (pe_tup (pa_cons (pv 8) (pa_cons (pe_ix ix_list (pv 3) (pv 6) (fun _ _ => rfl)) pa_nil))) pa_nil)))))))
      (pss_cons (ps_setLc (i := 10) (own := [("_law_key", 8), ("_law_output", 11)]) (g := (gTup K 2 (gCons (gName 8) (gCons (gName 11) gNil)))) (by rfl) sc__law_ended_right.nd rfl rfl (sw_true rfl rfl rfl (by decide +kernel)) (pi_list (pe_callB (Sd.call_sortedD hr) (by rfl) bt.m_sorted (by decide +kernel) (pa_cons (pv 5) pa_nil))) (blkOk_by (N := n__law_ended_right) (sc := defScope s__law_ended_right) (by decide +kernel)) (fun _ _ _ _ _ => (pg_tup rfl (pgs_cons (pg_name (i := 8) sc__law_ended_right.nd rfl (Or.inl rfl)) (pgs_cons (pg_name (i := 11) sc__law_ended_right.nd rfl (Or.inl rfl)) pgs_nil)))) (fun _ _ _ _ _ => pts_nil) (fun _ _ _ _ _ => (pe_ifExp (pt_cmpR (r := rNeD K) (op_neD hr.units) (pv 11) (pe_tup pa_nil) (nomark _)) (pe_tup (pa_cons pe_str (pa_cons (pe_ix (r := rIxT K) ix_tup (pv 11) pe_int (fun _ _ => rfl)) pa_nil))) (pe_tup pa_nil))))
      (pss_one (ps_ret (pe_cmpR (op_eqD hr.units) (pe_slice sl_list (pv 4) (po_some (pe_callB call_len_seq (by rfl) bt.m_len (by decide +kernel) (pa_cons (pv 3) pa_nil))) po_none) (pv 10) (nomark _)))))))))), ?_⟩
    refine ⟨_, rfl, g, es, rfl, hG, hV, by omega, fun H1 P1 ns s1 nP1 hP1 pw nd mem hnl => ?_⟩
    refine ⟨_, rfl, _, rfl, c, g, L, m, es, rfl, hL.same s1, hO, hG.same s1, hV, by omega, hkm, fun H2 D2 s2 nD2 hD2 => ⟨_, _, rfl, ?_⟩⟩
    have s02 := s1.trans s2
    have hP1 : Lst evV H1 P1 (endM es ns) := hP1
    have hVe := endM_valid hV nd mem
    have hle := endM_len es ns
    have hke : ∀ e ∈ endM es ns, e.k < (m : Int) := fun e he => by
      rcases List.mem_append.mp he with h | h
      · exact hkm e h
      · obtain ⟨k, hk, rfl⟩ := List.mem_map.mp h
        obtain ⟨e', he', rfl⟩ := held_mem ((mem k).mp hk)
        exact hkm e' he'
    refine ⟨_, rfl, _, rfl, c, P1, L, m, endM es ns, rfl, hL.same s02, hO, hP1.same s2, hVe, by omega, hke, fun H3 D3 s3 nD3 hD3 => ?_⟩
    have s03 := s02.trans s3
    obtain ⟨us, hu, hUV⟩ := hD2.same s3
    obtain ⟨qs, hw, hWV⟩ := id hD3
    have hul := hUV.1
    rw [outsM_len] at hul
    refine ⟨_, rfl, _, rfl, D2, _, rfl, .inl (SqL.of hu), _, rfl, D3, _, rfl, SqL.of hw, fun U nU => ?_⟩
    rw [cutTake, hul]
    have kU := same_upd (o := .lst (qs.take es.length)) nU
    have hU1 : Outs (upd H3 U (.lst (qs.take es.length))) U (outsM L es es.length) := by
      refine ⟨_, upd_same, ?_⟩
      have := (hWV.take es.length).keep (Tk.of kU)
      rw [← end_outs (ns := ns) hO hV hkm]
      unfold outsM at this
      rw [range_take (by omega)] at this
      exact this
    obtain ⟨sh1, cl1⟩ := shaped_outs (outs_ok2 hO hV hkm (Nat.le_refl _))
    refine ⟨_, rfl, _, _, hU1.dp, Outs.dp ⟨us, kU _ _ hu, hUV.keep (Tk.of kU)⟩, sh1, sh1, false, congrArg V.bl (by rw [SeqAt.eqv_refl _ cl1]; rfl), iteF ?_⟩
    have s23 := s3.trans kU
    refine ⟨_, rfl, _, rfl, c, P1, L, m, endM es ns, rfl, hL.same (s02.trans s23), hO, hP1.same (s2.trans s23), hVe, by omega, hke, fun H4 D4 ds s4 nD4 hD4 _ _ hmem => ⟨Nat.zero_le _, fun E nE => ?_⟩⟩
    have eds : ds = [] := List.eq_nil_iff_forall_not_mem.mpr fun y hy => by
      have := (hmem y).mp hy
      rw [whole_none hVe (endM_none mem) y] at this
      omega
    have kE := same_upd (o := .lst []) nE
    refine ⟨_, _, .lst (SqL.of (kE _ _ hD4)) (dp_strs ds), .lst (SqL.of upd_same) .nil, shaped_strs eds, shaped_nil, false, congrArg V.bl (by rw [eqv_nilS, eds]; rfl), iteF ?_⟩
    have s35 := kU.trans (s4.trans kE)
    refine ⟨_, rfl, P1, endM es ns, true, rfl, hP1.same (s2.trans (s3.trans s35)), hVe, by omega, ⟨fun _ => endM_none mem, fun _ => rfl⟩, fun H5 s5 => ⟨_, rfl, iteF ?_⟩⟩
    have s3x := s35.trans s5
    have s05 := s03.trans s3x
    have hu5 := s3x _ _ hu
    have hw5 := s3x _ _ hw
    have hUV5 := hUV.keep (Tk.of s3x)
    have hWV5 := hWV.keep (Tk.of s3x)
    have hG5 := hG.same s05
    obtain ⟨as, hg5, hT5⟩ := hG5
    have hal : (as.map V.ref).length = es.length := by rw [List.length_map]; exact hT5.1
    refine ⟨Nat.zero_le _, fun Dn nDn => ?_⟩
    refine ⟨_, rfl, g, _, rfl, SqL.of ((same_upd nDn) _ _ hg5), for_it (walk_enum (xs := as.map V.ref)) (fun i σ H' => ∃ (Dn : Addr) (vs : List V) (y6 y7 y8 y9 y10 y11 y12 : Option V), σ = [some (.ref c), some (.ref g), some (.ref P1), some (.ref D2), some (.ref D3), some (.ref Dn), y6, y7, y8, y9, y10, y11, y12] ∧ Same H5 H' ∧ H5 Dn = none ∧ H' Dn = some (.lst vs) ∧ AllV DlV H' vs (dlM L es i))
      ⟨Dn, [], _, _, _, _, _, _, _, rfl, same_upd nDn, nDn, upd_same, AllV.nil⟩ (fun i σ H' _ p => by obtain ⟨_, _, _, _, _, _, _, _, _, _, sx, _⟩ := p; exact SqL.of (sx _ _ hg5)) (fun i x σ Hx Hy hi p y => ?_) (fun σ H6 p => ?_)⟩
    · obtain ⟨Dn, vs, y6, y7, y8, y9, y10, y11, y12, rfl, sx, nDn, hDn, hA⟩ := p
      obtain ⟨T, u, v, rfl, nT, rfl, e1, e2⟩ := y
      have hi' : i < es.length := by omega
      obtain ⟨b, hb, hbt⟩ := hT5.at_ hi'
      have e2' : v = .ref b := Option.some.inj (e2.symm.trans (get_map_ref hb))
      subst e2'
      have e1' : u = .int (i : Nat) := (Option.some.inj e1).symm
      subst e1'
      have kT := same_upd (o := .tup [.int (i : Nat), .ref b]) nT
      have s4' := sx.trans kT
      have hb4 := s4' _ _ hbt
      have hT1 := upd_same (H := Hx) (a := T) (o := .tup [.int (i : Nat), .ref b])
      have hDn' := kT _ _ hDn
      have hA' := hA.keep fun x v z => z.keep (Tk.of kT)
      generalize upd Hx T (.tup [.int (i : Nat), .ref b]) = H6 at s4' hb4 hT1 hDn' hA' ⊢
      have ev := evAt_eq hi'
      have hvl := hA.1
      have dlen := (dinv (L := L) hV i (by omega)).len
      refine ⟨T, _, rfl, SqT.of hT1, rfl, _, _, rfl, _, _, rfl, b, _, rfl, SqT.of hb4, rfl, _, _, rfl, _, _, rfl, _, _, rfl, rfl, rfl, ?_⟩
      refine ⟨_, rfl, rfl, !es[i].d, congrArg V.bl (wayS_up es[i].d), ?_⟩
      rcases Bool.eq_false_or_eq_true es[i].d with hd | hd
      · rw [hd]
        have eD : dlM L es (i + 1) = dlM L es i ++ [((evAt es i).k, outM L es i)] := if_pos (by rw [ev]; exact hd)
        have hoi : (outsM L es es.length)[i]? = some (outM L es i) := by
          unfold outsM
          rw [List.getElem?_map, List.getElem?_range hi']
          rfl
        have hui : us[i]? = some us[i] := List.getElem?_eq_getElem (by omega)
        have hov := (hUV5.2 i _ _ hui hoi).keep (Tk.of s4')
        refine iteF ⟨_, rfl, .inl ⟨rfl, _, SqL.of hDn'⟩, _, rfl, _, rfl, _, rfl, D2, _, (i : Int), _, rfl, rfl, SqL.of (s4' _ _ hu5), atI_nat hui, (by show 2 ≤ sizeLine; decide), fun W nW => ?_⟩
        have kW := same_upd (o := .tup [.int es[i].k, us[i]]) nW
        have hDn2 := kW _ _ hDn'
        refine ⟨Dn, vs, .ref W, rfl, rfl, hDn2, small1000 (by omega), Dn, _, _, _, _, _, _, _, _, rfl, Same.off (s4'.trans kW) nDn off_upd, nDn, upd_same, ?_⟩
        rw [eD, ev]
        exact ((hA'.keep fun x v z => z.keep (Tk.of kW)).snoc (x := (es[i].k, outM L es i)) ⟨W, us[i], rfl, upd_same, hov.keep (Tk.of kW)⟩).keep fun x v z => z.keep (tk_upd hDn2)
      · rw [hd]
        have eD : dlM L es (i + 1) = (dlM L es i).filter fun p => decide (p.1 ≠ (evAt es i).k) := if_neg (by rw [ev, hd]; decide)
        refine iteT ⟨_, rfl, Dn, rfl, ⟨_, SqL.of hDn'⟩, fun M nM => lc_it (walk_list (xs := vs)) (fun j H' => Same H6 H' ∧ ∃ ws, H' M = some (.lst ws) ∧ AllV DlV H' ws (((dlM L es i).take j).filter fun p => decide (p.1 ≠ (evAt es i).k))) ⟨same_upd nM, [], upd_same, AllV.nil⟩ (fun j H' _ p => SqL.of (p.1 _ _ hDn')) (fun j x Hx Hy hj p y => ?_) (fun H7 p => ?_)⟩
        · obtain ⟨sy, ws, hM, hws⟩ := p
          obtain ⟨rfl, hx⟩ := y
          have hj' : j < (dlM L es i).length := by omega
          have hq : (dlM L es i)[j]? = some (dlM L es i)[j] := List.getElem?_eq_getElem hj'
          have hdv := (hA'.2 j x _ hx hq).keep (Tk.of sy)
          have hwl := hws.1
          have hwl2 : ((((dlM L es i).take j).filter fun p => decide (p.1 ≠ (evAt es i).k))).length ≤ 400 := Nat.le_trans (List.length_filter_le ..) (by rw [List.length_take]; omega)
          obtain ⟨W, ov, rfl, hW, hov⟩ := id hdv
          refine ⟨rfl, _, rfl, W, _, 0, _, rfl, rfl, SqT.of hW, atI_nat (j := 0) rfl, _, rfl, rfl, decide ((dlM L es i)[j].1 ≠ (evAt es i).k), neI (by rw [ev]; by_cases z : (dlM L es i)[j].1 = es[i].k <;> simp [z]), ?_⟩
          have hfin := AllV.filter (ys := (dlM L es i)) (p := fun p => decide (p.1 ≠ (evAt es i).k)) hws hq hdv
          cases hp : decide ((dlM L es i)[j].1 ≠ (evAt es i).k) with
          | true =>
            rw [if_pos hp] at hfin
            refine iteT ⟨_, rfl, ws, hM, small1000 (by omega), Same.off sy nM off_upd, _, upd_same, hfin.keep fun x v z => z.keep (tk_upd hM)⟩
          | false =>
            rw [if_neg (by rw [hp]; decide)] at hfin
            exact iteF ⟨sy, ws, hM, hfin⟩
        · obtain ⟨sy, ws, hM, hws⟩ := p
          rw [List.take_of_length_le (by omega)] at hws
          exact ⟨M, ws, _, _, _, _, _, _, _, rfl, s4'.trans sy, none_back s4' nM, hM, by rw [eD]; exact hws⟩
    · obtain ⟨Dn, vs, y6, y7, y8, y9, y10, y11, y12, rfl, sx, nDn, hDn, hA⟩ := p
      rw [hal] at hA
      obtain ⟨dl, pm, so, hS⟩ := sort_dl hA
      have dlen := (dinv (L := L) hV es.length (Nat.le_refl _)).len
      have okO := outs_ok2 hO hV hkm (Nat.le_refl es.length)
      have hal2 : PySem.W.AllAlike ((dlM L es es.length).map dlD) := fun d hd d' hd' => by
        obtain ⟨p, _, rfl⟩ := List.mem_map.mp hd
        obtain ⟨p', _, rfl⟩ := List.mem_map.mp hd'
        exact alike_dl p p'
      have hso : PySem.W.Sortable ((dlM L es es.length).map dlD) := .inl fun d hd => by
        obtain ⟨p, _, rfl⟩ := List.mem_map.mp hd
        exact ⟨_, _, rfl⟩
      refine ⟨_, rfl, Dn, vs, (dlM L es es.length).map dlD, rfl, SqL.of hDn, hA.dp (fun x v z => z.dp), hal2, hso, fun d hd => ?_, fun S nS => ?_⟩
      · obtain ⟨p, _, rfl⟩ := List.mem_map.mp hd
        unfold dlD
        cases p.2 <;> (show _ ≤ 50; first | exact (by decide : (1 : Nat) + 1 ≤ 50) | exact (by decide : (2 : Nat) ≤ 50))
      generalize ((vs.zip ((dlM L es es.length).map dlD)).mergeSort (PySem.W.dataLe false (·.2))).map (·.1) = zs at hS ⊢
      have kS := same_upd (o := .lst zs) nS
      have hS1 := upd_same (H := H6) (a := S) (o := .lst zs)
      have hSV := hS.keep fun x v z => z.keep (Tk.of kS)
      have s6 := sx.trans kS
      generalize upd H6 S (.lst zs) = H7 at hS1 hSV s6 ⊢
      have hzl := hSV.1
      have dl2 : dl.length ≤ 400 := by rw [pm.length_eq]; omega
      have okD : ∀ p ∈ dl, OutOk p.2 ∧ ∀ c, p.2 ≠ .re c := fun p hp => by
        have : ∀ i, i ≤ es.length → ∀ p ∈ dlM L es i, OutOk p.2 ∧ ∀ c, p.2 ≠ .re c := fun i => by
          induction i with
          | zero => exact fun _ p hp => by cases hp
          | succ i ih =>
            intro hi p hp
            unfold dlM at hp
            split at hp
            · rcases List.mem_append.mp hp with z | z
              · exact ih (by omega) p z
              · rw [List.mem_singleton.mp z]
                refine ⟨outM_ok hO hV hkm (by omega), fun c e => ?_⟩
                rename_i hdn
                have e : outM L es i = .re c := e
                unfold outM at e
                rw [if_pos hdn] at e
                generalize whatM (xAt L es i) (kindM es i (xAt L es i)) = W at e
                cases W <;> cases e
            · exact ih (by omega) p (List.mem_filter.mp hp).1
        exact this _ (Nat.le_refl _) p (pm.mem_iff.mp hp)
      refine ⟨S, rfl, ⟨_, SqL.of hS1⟩, fun M nM => lc_it (walk_list (xs := zs)) (fun j H' => Same H7 H' ∧ ∃ ws, H' M = some (.lst ws) ∧ OutsV H' ws ((dl.take j).map fun p => toRe p.2)) ⟨same_upd nM, [], upd_same, OutsV.nil⟩ (fun j H' _ p => SqL.of (p.1 _ _ hS1)) (fun j x Hx Hy hj p y => ?_) (fun H8 p => ?_)⟩
      · obtain ⟨sy, ws, hM, hws⟩ := p
        obtain ⟨rfl, hx⟩ := y
        have hj' : j < dl.length := by omega
        have hq : dl[j]? = some dl[j] := List.getElem?_eq_getElem hj'
        obtain ⟨W, ov, rfl, hW, hov⟩ := (hSV.2 j x _ hx hq).keep (Tk.of sy)
        have hwl := hws.1
        rw [List.length_map, List.length_take] at hwl
        have fin : ∀ (H9 : Hp) (v : V), Same Hy H9 → OutV H9 (toRe dl[j].2) v → ∃ acc, H9 M = some (.lst acc) ∧ acc.length < sizeLine ∧ Same H7 (upd H9 M (.lst (acc ++ [v]))) ∧ ∃ ws, upd H9 M (.lst (acc ++ [v])) M = some (.lst ws) ∧ OutsV (upd H9 M (.lst (acc ++ [v]))) ws ((dl.take (j + 1)).map fun p => toRe p.2) := fun H9 v s9 hv => by
          have hM9 := s9 _ _ hM
          refine ⟨ws, hM9, small1000 (by omega), Same.off (sy.trans s9) nM off_upd, _, upd_same, ?_⟩
          rw [List.take_add_one, hq, List.map_append]
          exact ((hws.keep (Tk.of s9)).snoc hv).keep (tk_upd hM9)
        have okj := okD _ (List.getElem_mem hj')
        refine ⟨W, _, rfl, SqT.of hW, rfl, _, _, rfl, _, _, rfl, rfl, ?_⟩
        refine ⟨rfl, ?_⟩
        refine ⟨_, rfl, Nat.zero_le _, fun E2 nE2 => ?_⟩
        have kE2 := same_upd (o := .tup []) nE2
        refine ⟨_, _, (hov.keep (Tk.of kE2)).dp, .tup (SqT.of upd_same) .nil, out_lay okj.1, by decide +kernel, isOut dl[j].2, by rw [eqv_out, Bool.not_not], ?_⟩
        obtain ⟨To, rfl, hTo⟩ := id hov
        have hTo2 := kE2 _ _ hTo
        generalize hoo : dl[j].2 = o at hTo2 fin
        cases o with
        | no => exact iteF ⟨Nat.zero_le _, fun V1 nV1 => fin _ _ (kE2.trans (same_upd nV1)) ⟨V1, rfl, upd_same⟩⟩
        | pr c => exact iteT ⟨_, rfl, To, _, 1, _, rfl, rfl, SqT.of hTo2, atI_nat (j := 1) rfl, (by show 2 ≤ sizeLine; decide), fun V1 nV1 => fin _ _ (kE2.trans (same_upd nV1)) ⟨V1, rfl, upd_same⟩⟩
        | re c => exact absurd hoo (okj.2 c)
      · obtain ⟨sy, ws, hM, hws⟩ := p
        rw [List.take_of_length_le (by omega)] at hws
        have s8 := s6.trans sy
        have hw8 := s8 _ _ hw5
        refine ⟨_, rfl, _, rfl, D2, _, rfl, .inl (SqL.of (s8 _ _ hu5)), _, rfl, D3, _, rfl, SqL.of hw8, fun R nR => ?_⟩
        have hwl := hWV5.1
        rw [outsM_len] at hwl
        rw [hul, cutDrop (by omega)]
        have kR := same_upd (o := .lst (qs.drop es.length)) nR
        have hR : Outs (upd H8 R (.lst (qs.drop es.length))) R (dl.map fun p => toRe p.2) := by
          refine ⟨_, upd_same, ?_⟩
          rw [← end_due hO hV hkm pw nd mem pm so]
          exact (outs_drop hWV5 es.length).keep (Tk.of (s8.trans kR))
        obtain ⟨sh2, cl2⟩ := shaped_outs (os := dl.map fun p => toRe p.2) (fun o ho => by
          obtain ⟨p, hp, rfl⟩ := List.mem_map.mp ho
          have := (okD p hp).1
          generalize p.2 = o at this ⊢
          cases o with
          | pr c => exact this
          | _ => trivial)
        refine ⟨_, rfl, _, _, hR.dp, Outs.dp ⟨ws, kR _ _ hM, hws.keep (Tk.of kR)⟩, sh2, sh2, ?_⟩
        rw [SeqAt.eqv_refl _ cl2]
        exact q _ (s05.trans (s8.trans kR))
end
end K15

set_option Elab.async false
set_option linter.all false
set_option maxRecDepth 100000
set_option maxHeartbeats 8000000
namespace K15
open PySem PySem.Spec PyProof.Rows L2 Gd Rm La Cb Pl
theorem args4 {r : Addr} {a b n m g : Int} (h1 : a = n) (h2 : b = m) : [V.ref r, .int a, .int b, .int g] = [V.ref r, .int n, .int m, .int g] := by rw [h1, h2]
section
variable {P : Program} {w : World} {K : PySem.W.Frag} {mg : Str → Option Value} {base : Heap}
def spLaw (K : PySem.W.Frag) : Sp := fun vs H Q _ => ∃ (a : Addr) (ns : List Int), vs = [.ref a] ∧ SqL K H a (ns.map V.int) ∧ ns.length ≤ 63 ∧ ∀ H', Q (.bl true) H'
theorem ok_law {f : Addr} {fd : FuncData} (bt : Bt mg) (a : Fun K "law" "law" s_law f fd) (c__law_reel : Cl P w K mg base 1 "_law_reel" (spReel K)) (c__law_spin : Cl P w K mg base 1 "_law_spin" spSpin)
    (c__law_layout : Cl P w K mg base 4 "_law_layout" spLLay) (c__law_record : Cl P w K mg base 2 "_law_record" spRec) (c__law_cut_right : Cl P w K mg base 10 "_law_cut_right" spCutR) (c__law_ended_right : Cl P w K mg base 10 "_law_ended_right" spEndR) : FnG P w K mg base 12 f fd ["_law_script"] (spLaw K) := by
  refine fnG a sc_law (fun vs H Q E h => ?_) (fun cdv A outer s H vs Q hg hr h => ?_)
  · obtain ⟨a, e, rfl, _⟩ := h
    rfl
  · obtain ⟨sc, ns, rfl, hS, hl, q⟩ := h
    refine ⟨_, (pss_cons (ps_for PassesOwn.never rfl (pi_range1 (by rfl) bt.m_range (pa_cons (pe_callB (call_max2 rfl) (by rfl) bt.m_max (by decide +kernel) (pa_cons pe_int (pa_cons (pe_callB (call_min2 rfl) (by rfl) bt.m_min (by decide +kernel) (pa_cons pe_int (pa_cons (pe_callB call_len_seq (by rfl) bt.m_len (by decide +kernel) (pa_cons (pv 0) pa_nil)) pa_nil))) pa_nil))) pa_nil)) (pg_name (i := 1) sc_law.nd rfl (Or.inl rfl)) (pss_cons (ps_set (i := 2) sc_law.nd rfl (Or.inr rfl) (pe_cl c__law_reel hg hr (by decide) (by rfl) (pa_cons (pv 0) (pa_cons (pv 1) pa_nil))))
      (pss_one (ps_for PassesOwn.never rfl (pi_range1 (by rfl) bt.m_range (pa_cons pe_int pa_nil)) (pg_name (i := 3) sc_law.nd rfl (Or.inl rfl)) (pss_cons (ps_par3 (i := 4) (j := 5) (l := 6) rfl sc_law.nd rfl rfl rfl (by decide) (by decide) (by decide) rfl rfl rfl (pa_cons (pe_op op_add pe_int (pe_cl c__law_spin hg hr (by decide) (by rfl) (pa_cons (pv 2) (pa_cons pe_int pa_nil)))) (pa_cons (pe_op op_add pe_int (pe_cl c__law_spin hg hr (by decide) (by rfl) (pa_cons (pv 2) (pa_cons pe_int pa_nil)))) (pa_cons (pe_callTy call_int1 (by rfl) bt.m_int (by decide +kernel) (pa_cons (pe_cmpR op_eq (pv 3) pe_int (nomark _)) pa_nil)) pa_nil))) (by rfl))
      (pss_cons (ps_set (i := 7) sc_law.nd rfl (Or.inl rfl) (pe_ix ix_list (pe_lst (pa_cons pe_int (pa_cons (pe_op op_powW pe_int pe_int) pa_nil))) (pv 6) (fun _ _ => rfl)))
      (pss_cons (ps_set (i := 8) sc_law.nd rfl (Or.inl rfl) (pe_cl c__law_layout hg hr (by decide) (by rfl) (pa_cons (pv 2) (pa_cons (pv 4) (pa_cons (pv 5) (pa_cons (pv 7) pa_nil))))))
      (pss_cons (ps_set (i := 9) sc_law.nd rfl (Or.inr rfl) (pe_cl c__law_spin hg hr (by decide) (by rfl) (pa_cons (pv 2) (pa_cons (pe_ix ix_list (pe_lst (pa_cons pe_int (pa_cons pe_int pa_nil))) (pv 6) (fun _ _ => rfl)) pa_nil))))
      (pss_cons (ps_set (i := 10) sc_law.nd rfl (Or.inl rfl) (pe_cl c__law_record hg hr (by decide) (by rfl) (pa_cons (pv 2) (pa_cons (pv 5) (pa_cons (pv 9) (pa_cons (pe_lst (pa_cons pe_int (pa_cons pe_int (pa_cons pe_int (pa_cons (pe_op op_sub (pv 7) pe_int) (pa_cons (pv 7) pa_nil)))))) pa_nil))))))
      (C8.pss_cut (ps_set (i := 11) sc_law.nd rfl (Or.inl rfl) (pe_ifExp (pt_cmpR op_eq (pv 6) pe_int (nomark _)) (pe_lc (own := [("_law_number", 13)]) (g := (gName 13)) (by rfl) sc_law.nd (pi_range1 (by rfl) bt.m_range (pa_cons pe_int pa_nil)) (blkOk_by (N := n_law) (sc := defScope s_law) (by decide +kernel)) (fun _ _ _ _ _ => (pg_name (i := 13) sc_law.nd rfl (Or.inl rfl))) (fun _ _ _ _ _ => pts_nil) (fun _ _ _ _ _ => (pe_cl c__law_spin hg hr (by decide) (by rfl) (pa_cons (pv 2) (pa_cons (pe_op op_add (pv 9) pe_int) pa_nil))))) (pe_listRg rfl (by rfl) bt.m_list (prg_1 (by rfl) bt.m_range (pe_op op_add (pv 9) pe_int)))))
      (pss_one (ps_for PassesOwn.never rfl (pi_list (pv 11)) (pg_name (i := 12) sc_law.nd rfl (Or.inl rfl)) (pss_one (ps_if (PW.pt (pw_or (pt_not (pt_val (pe_cl c__law_cut_right hg hr (by decide) (by rfl) (pa_cons (pv 8) (pa_cons (pv 10) (pa_cons (pv 12) pa_nil)))))) (pw_or1 (pt_not (pt_val (pe_cl c__law_ended_right hg hr (by decide) (by rfl) (pa_cons (pv 8) (pa_cons (pe_slice sl_list (pv 10) po_none (po_some (pv 12))) pa_nil)))))))) (pss_one (ps_ret pe_bl)) pss_nil))))))))))))))
      (pss_one (ps_ret pe_bl))), ?_⟩
    refine ⟨_, rfl, sc, _, rfl, .inl hS, _, _, rfl, ?_⟩
    refine ⟨1, _, rfl, _, rfl, ?_, ?_, ?_⟩
    · (repeat' split) <;> omega
    · (repeat' split) <;> omega
    refine for_it walk_range (fun i σ H' => Same H H' ∧ ∃ y1 y2 y3 y4 y5 y6 y7 y8 y9 y10 y11 y12 y13, σ = [some (.ref sc), y1, y2, y3, y4, y5, y6, y7, y8, y9, y10, y11, y12, y13]) ⟨Same.refl _, _, _, _, _, _, _, _, _, _, _, _, _, _, rfl⟩ (fun _ _ _ _ _ => True.intro) (fun i x σ Hx H1 hi p y => ?_) (fun σ H1 p => q _)
    obtain ⟨s1, y1, y2, y3, y4, y5, y6, y7, y8, y9, y10, y11, y12, y13, rfl⟩ := p
    obtain ⟨rfl, hx⟩ := y
    have hx : x = .int (0 + (i : Int)) := hx
    have e0 : (0 : Int) + (i : Int) = ((i : Nat) : Int) := Int.zero_add _
    rw [e0] at hx
    subst hx
    have hi4 : i < 60 := by
      refine Nat.lt_of_lt_of_le hi ?_
      (repeat' split) <;> omega
    have hS1 : SqL K H1 sc (ns.map V.int) := s1.seq hS
    refine ⟨_, rfl, _, rfl, sc, ns, i, rfl, hS1, hl, by omega, fun r H2 s2 nr R2 => ?_⟩
    refine ⟨3, rfl, by decide, by decide, for_it walk_range (fun t σ H' => Off r H2 H' ∧ Reel H' r (30000 * t) ∧ ∃ y3 y4 y5 y6 y7 y8 y9 y10 y11 y12 y13, σ = [some (.ref sc), some (.int (i : Int)), some (.ref r), y3, y4, y5, y6, y7, y8, y9, y10, y11, y12, y13]) ⟨Off.refl _, R2, _, _, _, _, _, _, _, _, _, _, _, rfl⟩ (fun _ _ _ _ _ => True.intro) (fun t x σ Hx H3 ht p y => ?_) (fun σ H3 p => ?_)⟩
    · obtain ⟨o3, R3, y3, y4, y5, y6, y7, y8, y9, y10, y11, y12, y13, rfl⟩ := p
      obtain ⟨rfl, hx⟩ := y
      subst hx
      have ht : t < 3 := ht
      obtain ⟨_, _, _, hr2, _⟩ := id R2
      refine ⟨_, rfl, r, 3, 30000 * t, rfl, by decide, by decide, by show _ < 1000000000; omega, R3, fun d1 H4 d10 d11 R4 o4 => ⟨_, _, rfl, rfl, ?_⟩⟩
      refine ⟨_, rfl, r, 4, 30000 * t + 1, rfl, by decide, by decide, by show _ < 1000000000; omega, R4, fun d2 H5 d20 d21 R5 o5 => ⟨_, _, rfl, rfl, ?_⟩⟩
      refine ⟨_, rfl, rfl, .inr ⟨decide (0 + (t : Int) = 2), congrArg (fun z => [z]) (eqI rfl), _, _, _, rfl, ?_⟩⟩
      have hb2 : (if decide (0 + (t : Int) = 2) = true then (1 : Int) else 0) = 0 ∨ (if decide (0 + (t : Int) = 2) = true then (1 : Int) else 0) = 1 := by
        cases decide (0 + (t : Int) = 2) <;> decide
      generalize (if decide (0 + (t : Int) = 2) = true then (1 : Int) else 0) = lg at hb2 ⊢
      have o25 : Off r H2 H5 := (o3.trans o4).trans o5
      refine ⟨_, _, rfl, rfl, powW (n := 40) (k := 9) (by decide) (by decide), (by show 2 ≤ sizeLine; decide), fun M3 n3 => ?_⟩
      have k3 := same_upd (o := .lst ([6, 10 ^ 9].map V.int)) n3
      obtain ⟨lo, hlo, hm3⟩ := getI (ns := [6, 10 ^ 9]) (d := lg) (by omega) (by show lg < 2; omega)
      have hlob : 6 ≤ lo ∧ lo ≤ 1000000000 := by
        have := List.mem_of_getElem? hm3
        simp only [List.mem_cons, List.mem_nil_iff, or_false] at this
        omega
      have R5' := R5.same k3
      have o25' := o25.sameTrans k3
      refine ⟨_, rfl, M3, _, lg, .int lo, rfl, rfl, SqL.of upd_same, hlo, ?_⟩
      show tSeq _ _ _ _ (upd H5 M3 (.lst ([6, 10 ^ 9].map V.int)))
      generalize upd H5 M3 (.lst ([6, 10 ^ 9].map V.int)) = H5 at R5' o25' ⊢
      clear k3 n3 R5 o25
      obtain ⟨nk, hnk⟩ : ∃ nk : Nat, 1 + d1 = (nk : Int) := ⟨(1 + d1).toNat, by omega⟩
      obtain ⟨mk, hmk⟩ : ∃ mk : Nat, 1 + d2 = (mk : Int) := ⟨(1 + d2).toNat, by omega⟩
      refine ⟨_, rfl, _, rfl, _, rfl, _, rfl, r, 30000 * t + 1 + 1, nk, mk, lo, args4 hnk hmk, R5', by show _ < 1000000000; omega, by omega, by omega, by omega, by omega, by omega, by omega, fun H6 c L o6 nc R6 fl hO hLn => ?_⟩
      have o26 : Off r H2 H6 := o25'.trans o6
      obtain ⟨rs, hc, hRows, _, hrs⟩ := fl
      have cr : c ≠ r := R5'.new nc
      have rr : ∀ x ∈ rs, x ≠ r := fun x hx => R5'.new (hrs x hx).1
      have lay : ∀ {H' : Hp} {k : Nat}, Off r H6 H' → Reel H6 r k → Lay H' c L := fun {H' k} o R => ⟨rs, o _ _ hc cr, hRows.1, fun i x row a b => row_off (hRows.2 i x row a b) (rr x (List.mem_of_getElem? a)) o (R.tk o)⟩
      refine ⟨_, rfl, (by show 2 ≤ sizeLine; decide), fun M4 n4 => ?_⟩
      have k4 := same_upd (o := .lst ([21, 201].map V.int)) n4
      obtain ⟨a4, ha4, hm4⟩ := getI (ns := [21, 201]) (d := lg) (by omega) (by show lg < 2; omega)
      have ha4b : 1 ≤ a4 ∧ a4 ≤ 201 := by
        have := List.mem_of_getElem? hm4
        simp only [List.mem_cons, List.mem_nil_iff, or_false] at this
        omega
      refine ⟨_, rfl, M4, _, lg, .int a4, rfl, rfl, SqL.of upd_same, ha4, r, a4, _, rfl, by omega, small40 (by omega), by show _ < 1000000000; omega, R6.same k4, fun sz H7 z0 z1 R7 o7 => ?_⟩
      obtain ⟨sn, hsn⟩ : ∃ sn : Nat, sz = (sn : Int) := ⟨sz.toNat, by omega⟩
      subst hsn
      refine ⟨_, rfl, _, rfl, _, rfl, _, rfl, _, _, rfl, rfl, _, rfl, (by show 5 ≤ sizeLine; decide), fun G nG => ?_⟩
      have kG := same_upd (o := .lst ([0, 1, 2, lo - 1, lo].map V.int)) nG
      have o67 : Off r H6 H7 := (Off.of k4).trans o7
      have gl : ∀ x ∈ ([0, 1, 2, lo - 1, lo] : List Int), 0 ≤ x ∧ x ≤ 10 ^ 10 := fun x hx => by
        simp only [List.mem_cons, List.mem_nil_iff, or_false] at hx
        omega
      refine ⟨r, G, _, sn, 1 + d2, [0, 1, 2, lo - 1, lo], rfl, R7.same kG, by show _ < 1000000000; omega, by omega, by omega, by omega, upd_same, R7.new nG, (by show 0 < 5; decide), (by show 5 ≤ 10; decide), gl, fun H9 p es o9 np R9 hL9 ok9 => ?_⟩
      have o69 : Off r H6 H9 := (o67.sameTrans kG).trans o9
      have o29 := o26.trans o69
      have pr : p ≠ r := R7.new (none_back kG np)
      have hkm : ∀ e ∈ es, e.k < (mk : Int) := fun e he => by have := (ok9.key e he).2; omega
      have hlen := ok9.len
      have hV := ok9.valid
      refine ⟨fun σ' H' => ∃ (B : Addr) (cs : List Int) (y12 y13 : Option V), σ' = [some (.ref sc), some (.int (i : Int)), some (.ref r), some (.int (0 + (t : Int))), some (.int (1 + d1)), some (.int (1 + d2)), some (.int lg), some (.int lo), some (.ref c), some (.int (sn : Int)), some (.ref p), some (.ref B), y12, y13] ∧ Off r H9 H' ∧ Reel H' r (30000 * t + 1 + 1 + 10000 + 1 + 2000 + 4) ∧ H' B = some (.lst (cs.map V.int)) ∧ (∀ x ∈ cs, 0 ≤ x ∧ x ≤ (sn : Int)), ?_, ?_⟩
      · refine ⟨_, rfl, rfl, decide (lg = 1), eqI rfl, ite2 (fun z => ?_) (fun z => ?_)⟩
        · refine ⟨4, rfl, by decide, by decide, fun M nM => lc_it walk_range (fun j H' => Off r H9 H' ∧ Reel H' r (30000 * t + 1 + 1 + 10000 + 1 + 2000 + j) ∧ ∃ ds : List Int, H' M = some (.lst (ds.map V.int)) ∧ ds.length = j ∧ ∀ x ∈ ds, 0 ≤ x ∧ x ≤ (sn : Int)) ⟨Off.of (same_upd nM), R9.same (same_upd nM), [], upd_same, rfl, fun x h => by simp at h⟩ (fun _ _ _ _ => True.intro) (fun j x Hx Hy hj p y => ?_) (fun Hz p => ?_)⟩
          · obtain ⟨ox, Rx, ds, hM, hdl, hdb⟩ := p
            obtain ⟨rfl, hx⟩ := y
            have Mr : M ≠ r := R9.new nM
            have hj : j < 4 := hj
            refine ⟨rfl, _, rfl, _, rfl, _, _, rfl, rfl, r, _, _, rfl, by omega, small40 (by omega), by show _ < 1000000000; omega, Rx, fun d Hv d0 d1 Rv ov => ?_⟩
            have hM' := ov _ _ hM Mr
            refine ⟨_, hM', small1000 (by rw [List.length_map]; omega), (ox.trans ov).new nM, Rv.upd Mr, ds ++ [d], by rw [upd_same, List.map_append]; rfl, by rw [List.length_append, hdl]; rfl, fun x hx => ?_⟩
            rcases List.mem_append.mp hx with h | h
            · exact hdb x h
            · rw [List.mem_singleton.mp h]
              omega
          · obtain ⟨ox, Rx, ds, hM, hdl, hdb⟩ := p
            exact ⟨M, ds, _, _, rfl, ox, Rx, hM, hdb⟩
        · refine ⟨_, rfl, _, _, rfl, rfl, _, rfl, RgOk.of_le (by decide) (by omega) (by decide) (by omega), fun B nB => ?_⟩
          have kB := same_upd (o := .lst (rgV 0 ((sn : Int) + 1))) nB
          refine ⟨B, (List.range (sn + 1)).map fun i : Nat => (i : Int), _, _, rfl, Off.of kB, (R9.same kB).mono (by omega), ?_, fun x hx => ?_⟩
          · rw [upd_same]
            unfold rgV
            rw [List.map_map, show ((sn : Int) + 1 - 0).toNat = sn + 1 by omega]
            exact congrArg (fun z => some (HO.lst z)) (List.map_congr_left fun i _ => congrArg V.int (Int.zero_add _))
          · obtain ⟨i, hi, rfl⟩ := List.mem_map.mp hx
            have := List.mem_range.mp hi
            omega
      · rintro σ' H10 ⟨B, cs, y12, y13, rfl, o10, R10, hB, hcs⟩
        have hL10 : Lst evV H10 p es := by
          obtain ⟨as, a, b⟩ := hL9
          exact ⟨as, o10 _ _ a pr, b.1, fun i x e u v => (R9.tk o10) _ _ (b.2 i x e u v)⟩
        have lay10 := lay (o69.trans o10) R6
        obtain ⟨as, hp10, hT10⟩ := id hL10
        refine ⟨_, rfl, B, rfl, ⟨_, SqL.of hB⟩, for_it (walk_list (xs := cs.map V.int)) (fun j σ H' => Same H10 H' ∧ ∃ y12 y13, σ = [some (.ref sc), some (.int (i : Int)), some (.ref r), some (.int (0 + (t : Int))), some (.int (1 + d1)), some (.int (1 + d2)), some (.int lg), some (.int lo), some (.ref c), some (.int (sn : Int)), some (.ref p), some (.ref B), y12, y13]) ⟨Same.refl _, _, _, rfl⟩ (fun j σ H' _ p => SqL.of (p.1 _ _ hB)) (fun j x σ Hx Hy hj z y => ?_) (fun σ H11 z => ?_)⟩
        · obtain ⟨sx, y12, y13, rfl⟩ := z
          obtain ⟨rfl, hx⟩ := y
          have hj' : j < cs.length := by rw [List.length_map] at hj; exact hj
          rw [List.getElem?_map, List.getElem?_eq_getElem hj'] at hx
          have ex : V.int cs[j] = x := Option.some.inj hx
          subst ex
          have hb := hcs _ (List.getElem_mem hj')
          obtain ⟨cn, hcn⟩ : ∃ cn : Nat, cs[j] = (cn : Int) := ⟨cs[j].toNat, by omega⟩
          rw [hcn]
          refine ⟨_, rfl, _, rfl, _, rfl, c, p, L, mk, es, cn, rfl, lay10.same sx, hO, hL10.same sx, hV, by omega, hkm, by omega, fun H12 s12 => ⟨_, rfl, iteF ?_⟩⟩
          have sy := sx.trans s12
          refine ⟨_, rfl, _, rfl, _, rfl, _, rfl, p, _, rfl, SqL.of (sy _ _ hp10), fun B2 nB2 => ?_⟩
          rw [cutTake, ← List.map_take]
          have kB2 := same_upd (o := .lst ((as.take cn).map V.ref)) nB2
          have sz := sy.trans kB2
          have hB2 : Lst evV (upd H12 B2 (.lst ((as.take cn).map V.ref))) B2 (es.take cn) := ⟨as.take cn, upd_same, (tups_take hT10 cn).same sz⟩
          exact ⟨c, B2, L, mk, es.take cn, rfl, lay10.same sz, hO, hB2, hV.take cn, by rw [List.length_take]; omega, fun e he => hkm e (List.mem_of_mem_take he), fun H14 s14 => ⟨_, rfl, iteF ⟨sz.trans s14, _, _, rfl⟩⟩⟩
        · obtain ⟨sx, y12, y13, rfl⟩ := z
          exact ⟨(o29.trans o10).sameTrans sx, (R10.same sx).mono (by omega), _, _, _, _, _, _, _, _, _, _, _, rfl⟩
    · obtain ⟨o3, R3, y3, y4, y5, y6, y7, y8, y9, y10, y11, y12, y13, rfl⟩ := p
      exact ⟨s1.trans (fun b u hb => o3 _ _ (s2 _ _ hb) (ne_of_none hb nr)), _, _, _, _, _, _, _, _, _, _, _, _, _, rfl⟩
end
end K15

set_option Elab.async false
set_option linter.all false
set_option maxRecDepth 100000
set_option maxHeartbeats 8000000
namespace K15
open PySem PySem.Spec PyProof.Rows L2 Gd Rm
theorem at_mk {K : PySem.W.Frag} {h : Heap} {mg : Str → Option Value} {x : Str} {st : Stmt} {ps : List Str} {f : Addr} {od an : Option Addr} {sl : Array (Option Value)} {oc kV dc pm cd ct : Value} (X : K.In h) (G : h.Ns mainGlobals mg)
    (a : PySem.W.nsIn K mainGlobals x = some (some (.ref f))) (l : K.lookup f = some ⟨oc, od, .func (PySem.W.fnOf x x (defArgs st) (defBody st) (defScope st) .none kV dc pm an cd ct), sl⟩) (c : PySem.W.codeIn K cd x = true) (k : PySem.W.keepIn K (.ref f) = true)
    (hb : ∀ (kV doc pm : Value) (an : Option Addr) (cdv ct : Value) (us : List Value), us.length = ps.length → bindArgs (PySem.W.fnOf x x (defArgs st) (defBody st) (defScope st) .none kV doc pm an cdv ct) ⟨us, []⟩ = pure (ps.zip us)) : At K mg x st ps :=
  ⟨_, _, fun_mk l c k, PySem.W.mg_of X G a, (fun_mk l c k).binds hb⟩
theorem all_mk {l : PySem.W.OpenLaw} {w : World} {K : PySem.W.Frag} {h : Heap} {mg : Str → Option Value} {fa : Addr} (X : K.In h) (G : h.Ns mainGlobals mg) (hfa : mg "law" = some (.ref fa))
    {f0 : Addr} {od0 an0 : Option Addr} {sl0 : Array (Option Value)} {oc0 kV0 dc0 pm0 cd0 ct0 : Value}
    {f1 : Addr} {od1 an1 : Option Addr} {sl1 : Array (Option Value)} {oc1 kV1 dc1 pm1 cd1 ct1 : Value}
    {f2 : Addr} {od2 an2 : Option Addr} {sl2 : Array (Option Value)} {oc2 kV2 dc2 pm2 cd2 ct2 : Value}
    {f3 : Addr} {od3 an3 : Option Addr} {sl3 : Array (Option Value)} {oc3 kV3 dc3 pm3 cd3 ct3 : Value}
    {f4 : Addr} {od4 an4 : Option Addr} {sl4 : Array (Option Value)} {oc4 kV4 dc4 pm4 cd4 ct4 : Value}
    {f5 : Addr} {od5 an5 : Option Addr} {sl5 : Array (Option Value)} {oc5 kV5 dc5 pm5 cd5 ct5 : Value}
    {f6 : Addr} {od6 an6 : Option Addr} {sl6 : Array (Option Value)} {oc6 kV6 dc6 pm6 cd6 ct6 : Value}
    {f7 : Addr} {od7 an7 : Option Addr} {sl7 : Array (Option Value)} {oc7 kV7 dc7 pm7 cd7 ct7 : Value}
    {f8 : Addr} {od8 an8 : Option Addr} {sl8 : Array (Option Value)} {oc8 kV8 dc8 pm8 cd8 ct8 : Value}
    {f9 : Addr} {od9 an9 : Option Addr} {sl9 : Array (Option Value)} {oc9 kV9 dc9 pm9 cd9 ct9 : Value}
    {f10 : Addr} {od10 an10 : Option Addr} {sl10 : Array (Option Value)} {oc10 kV10 dc10 pm10 cd10 ct10 : Value}
    {f11 : Addr} {od11 an11 : Option Addr} {sl11 : Array (Option Value)} {oc11 kV11 dc11 pm11 cd11 ct11 : Value}
    {f12 : Addr} {od12 an12 : Option Addr} {sl12 : Array (Option Value)} {oc12 kV12 dc12 pm12 cd12 ct12 : Value}
    {f13 : Addr} {od13 an13 : Option Addr} {sl13 : Array (Option Value)} {oc13 kV13 dc13 pm13 cd13 ct13 : Value}
    {f14 : Addr} {od14 an14 : Option Addr} {sl14 : Array (Option Value)} {oc14 kV14 dc14 pm14 cd14 ct14 : Value}
    {f15 : Addr} {od15 an15 : Option Addr} {sl15 : Array (Option Value)} {oc15 kV15 dc15 pm15 cd15 ct15 : Value}
    {f16 : Addr} {od16 an16 : Option Addr} {sl16 : Array (Option Value)} {oc16 kV16 dc16 pm16 cd16 ct16 : Value}
    {T16 : Addr} {td16 : Option Addr} {ts16 : Array (Option Value)} {tn16 : Nat}
    {f17 : Addr} {od17 an17 : Option Addr} {sl17 : Array (Option Value)} {oc17 kV17 dc17 pm17 cd17 ct17 : Value}
    {f18 : Addr} {od18 an18 : Option Addr} {sl18 : Array (Option Value)} {oc18 kV18 dc18 pm18 cd18 ct18 : Value}
    {f19 : Addr} {od19 an19 : Option Addr} {sl19 : Array (Option Value)} {oc19 kV19 dc19 pm19 cd19 ct19 : Value}
    {f20 : Addr} {od20 an20 : Option Addr} {sl20 : Array (Option Value)} {oc20 kV20 dc20 pm20 cd20 ct20 : Value}
    {f21 : Addr} {od21 an21 : Option Addr} {sl21 : Array (Option Value)} {oc21 kV21 dc21 pm21 cd21 ct21 : Value}
    {f22 : Addr} {od22 an22 : Option Addr} {sl22 : Array (Option Value)} {oc22 kV22 dc22 pm22 cd22 ct22 : Value}
    {f23 : Addr} {od23 an23 : Option Addr} {sl23 : Array (Option Value)} {oc23 kV23 dc23 pm23 cd23 ct23 : Value}
    {f24 : Addr} {od24 an24 : Option Addr} {sl24 : Array (Option Value)} {oc24 kV24 dc24 pm24 cd24 ct24 : Value}
    {f25 : Addr} {od25 an25 : Option Addr} {sl25 : Array (Option Value)} {oc25 kV25 dc25 pm25 cd25 ct25 : Value}
    {f26 : Addr} {od26 an26 : Option Addr} {sl26 : Array (Option Value)} {oc26 kV26 dc26 pm26 cd26 ct26 : Value}
    {f27 : Addr} {od27 an27 : Option Addr} {sl27 : Array (Option Value)} {oc27 kV27 dc27 pm27 cd27 ct27 : Value}
    {f28 : Addr} {od28 an28 : Option Addr} {sl28 : Array (Option Value)} {oc28 kV28 dc28 pm28 cd28 ct28 : Value}
    {f29 : Addr} {od29 an29 : Option Addr} {sl29 : Array (Option Value)} {oc29 kV29 dc29 pm29 cd29 ct29 : Value}
    {f30 : Addr} {od30 an30 : Option Addr} {sl30 : Array (Option Value)} {oc30 kV30 dc30 pm30 cd30 ct30 : Value}
    {f31 : Addr} {od31 an31 : Option Addr} {sl31 : Array (Option Value)} {oc31 kV31 dc31 pm31 cd31 ct31 : Value}
    {f32 : Addr} {od32 an32 : Option Addr} {sl32 : Array (Option Value)} {oc32 kV32 dc32 pm32 cd32 ct32 : Value}
    {f33 : Addr} {od33 an33 : Option Addr} {sl33 : Array (Option Value)} {oc33 kV33 dc33 pm33 cd33 ct33 : Value}
    {f34 : Addr} {od34 an34 : Option Addr} {sl34 : Array (Option Value)} {oc34 kV34 dc34 pm34 cd34 ct34 : Value}
    {f35 : Addr} {od35 an35 : Option Addr} {sl35 : Array (Option Value)} {oc35 kV35 dc35 pm35 cd35 ct35 : Value}
    {f36 : Addr} {od36 an36 : Option Addr} {sl36 : Array (Option Value)} {oc36 kV36 dc36 pm36 cd36 ct36 : Value}
    {f37 : Addr} {od37 an37 : Option Addr} {sl37 : Array (Option Value)} {oc37 kV37 dc37 pm37 cd37 ct37 : Value}
    {f38 : Addr} {od38 an38 : Option Addr} {sl38 : Array (Option Value)} {oc38 kV38 dc38 pm38 cd38 ct38 : Value}
    {f39 : Addr} {od39 an39 : Option Addr} {sl39 : Array (Option Value)} {oc39 kV39 dc39 pm39 cd39 ct39 : Value}
    {tk0 : Tok}
    {tk1 : Tok}
    {tk2 : Tok}
    {g3 : Addr} {gs3 : Array (Option Value)} {gn3 : Nat} {tk3_0 tk3_1 tk3_2 : Tok}
    {g4 : Addr} {gs4 : Array (Option Value)} {gn4 : Nat} {tk4_0 tk4_1 tk4_2 : Tok}
    {tk5 : Tok}
    {tk6 : Tok}
    {tk7 : Tok}
    {tk8 : Tok}
    {tk9 : Tok}
    {C : Addr}
    {mf0 : Addr} {mod0 man0 : Option Addr} {msl0 : Array (Option Value)} {moc0 mkV0 mdc0 mpm0 mcd0 mct0 : Value}
    {mf1 : Addr} {mod1 man1 : Option Addr} {msl1 : Array (Option Value)} {moc1 mkV1 mdc1 mpm1 mcd1 mct1 : Value}
    {mf2 : Addr} {mod2 man2 : Option Addr} {msl2 : Array (Option Value)} {moc2 mkV2 mdc2 mpm2 mcd2 mct2 : Value}
    {mf3 : Addr} {mod3 man3 : Option Addr} {msl3 : Array (Option Value)} {moc3 mkV3 mdc3 mpm3 mcd3 mct3 : Value}
    {mf4 : Addr} {mod4 man4 : Option Addr} {msl4 : Array (Option Value)} {moc4 mkV4 mdc4 mpm4 mcd4 mct4 : Value}
    {mf5 : Addr} {mod5 man5 : Option Addr} {msl5 : Array (Option Value)} {moc5 mkV5 mdc5 mpm5 mcd5 mct5 : Value}
    (a0 : PySem.W.nsIn K mainGlobals "is_an_integer" = some (some (.ref f0))) (l0 : K.lookup f0 = some ⟨oc0, od0, .func (PySem.W.fnOf "is_an_integer" "is_an_integer" (defArgs s_is_an_integer) (defBody s_is_an_integer) (defScope s_is_an_integer) .none kV0 dc0 pm0 an0 cd0 ct0), sl0⟩) (c0 : PySem.W.codeIn K cd0 "is_an_integer" = true) (k0 : PySem.W.keepIn K (.ref f0) = true)
    (a1 : PySem.W.nsIn K mainGlobals "is_between" = some (some (.ref f1))) (l1 : K.lookup f1 = some ⟨oc1, od1, .func (PySem.W.fnOf "is_between" "is_between" (defArgs s_is_between) (defBody s_is_between) (defScope s_is_between) .none kV1 dc1 pm1 an1 cd1 ct1), sl1⟩) (c1 : PySem.W.codeIn K cd1 "is_between" = true) (k1 : PySem.W.keepIn K (.ref f1) = true)
    (a2 : PySem.W.nsIn K mainGlobals "is_code" = some (some (.ref f2))) (l2 : K.lookup f2 = some ⟨oc2, od2, .func (PySem.W.fnOf "is_code" "is_code" (defArgs s_is_code) (defBody s_is_code) (defScope s_is_code) .none kV2 dc2 pm2 an2 cd2 ct2), sl2⟩) (c2 : PySem.W.codeIn K cd2 "is_code" = true) (k2 : PySem.W.keepIn K (.ref f2) = true)
    (a3 : PySem.W.nsIn K mainGlobals "is_code_action" = some (some (.ref f3))) (l3 : K.lookup f3 = some ⟨oc3, od3, .func (PySem.W.fnOf "is_code_action" "is_code_action" (defArgs s_is_code_action) (defBody s_is_code_action) (defScope s_is_code_action) .none kV3 dc3 pm3 an3 cd3 ct3), sl3⟩) (c3 : PySem.W.codeIn K cd3 "is_code_action" = true) (k3 : PySem.W.keepIn K (.ref f3) = true)
    (a4 : PySem.W.nsIn K mainGlobals "is_layer_action" = some (some (.ref f4))) (l4 : K.lookup f4 = some ⟨oc4, od4, .func (PySem.W.fnOf "is_layer_action" "is_layer_action" (defArgs s_is_layer_action) (defBody s_is_layer_action) (defScope s_is_layer_action) .none kV4 dc4 pm4 an4 cd4 ct4), sl4⟩) (c4 : PySem.W.codeIn K cd4 "is_layer_action" = true) (k4 : PySem.W.keepIn K (.ref f4) = true)
    (a5 : PySem.W.nsIn K mainGlobals "is_hold" = some (some (.ref f5))) (l5 : K.lookup f5 = some ⟨oc5, od5, .func (PySem.W.fnOf "is_hold" "is_hold" (defArgs s_is_hold) (defBody s_is_hold) (defScope s_is_hold) .none kV5 dc5 pm5 an5 cd5 ct5), sl5⟩) (c5 : PySem.W.codeIn K cd5 "is_hold" = true) (k5 : PySem.W.keepIn K (.ref f5) = true)
    (a6 : PySem.W.nsIn K mainGlobals "is_dual_action" = some (some (.ref f6))) (l6 : K.lookup f6 = some ⟨oc6, od6, .func (PySem.W.fnOf "is_dual_action" "is_dual_action" (defArgs s_is_dual_action) (defBody s_is_dual_action) (defScope s_is_dual_action) .none kV6 dc6 pm6 an6 cd6 ct6), sl6⟩) (c6 : PySem.W.codeIn K cd6 "is_dual_action" = true) (k6 : PySem.W.keepIn K (.ref f6) = true)
    (a7 : PySem.W.nsIn K mainGlobals "can_stand" = some (some (.ref f7))) (l7 : K.lookup f7 = some ⟨oc7, od7, .func (PySem.W.fnOf "can_stand" "can_stand" (defArgs s_can_stand) (defBody s_can_stand) (defScope s_can_stand) .none kV7 dc7 pm7 an7 cd7 ct7), sl7⟩) (c7 : PySem.W.codeIn K cd7 "can_stand" = true) (k7 : PySem.W.keepIn K (.ref f7) = true)
    (a8 : PySem.W.nsIn K mainGlobals "has_layout_form" = some (some (.ref f8))) (l8 : K.lookup f8 = some ⟨oc8, od8, .func (PySem.W.fnOf "has_layout_form" "has_layout_form" (defArgs s_has_layout_form) (defBody s_has_layout_form) (defScope s_has_layout_form) .none kV8 dc8 pm8 an8 cd8 ct8), sl8⟩) (c8 : PySem.W.codeIn K cd8 "has_layout_form" = true) (k8 : PySem.W.keepIn K (.ref f8) = true)
    (a9 : PySem.W.nsIn K mainGlobals "check_layout" = some (some (.ref f9))) (l9 : K.lookup f9 = some ⟨oc9, od9, .func (PySem.W.fnOf "check_layout" "check_layout" (defArgs s_check_layout) (defBody s_check_layout) (defScope s_check_layout) .none kV9 dc9 pm9 an9 cd9 ct9), sl9⟩) (c9 : PySem.W.codeIn K cd9 "check_layout" = true) (k9 : PySem.W.keepIn K (.ref f9) = true)
    (a10 : PySem.W.nsIn K mainGlobals "is_step" = some (some (.ref f10))) (l10 : K.lookup f10 = some ⟨oc10, od10, .func (PySem.W.fnOf "is_step" "is_step" (defArgs s_is_step) (defBody s_is_step) (defScope s_is_step) .none kV10 dc10 pm10 an10 cd10 ct10), sl10⟩) (c10 : PySem.W.codeIn K cd10 "is_step" = true) (k10 : PySem.W.keepIn K (.ref f10) = true)
    (a11 : PySem.W.nsIn K mainGlobals "is_event" = some (some (.ref f11))) (l11 : K.lookup f11 = some ⟨oc11, od11, .func (PySem.W.fnOf "is_event" "is_event" (defArgs s_is_event) (defBody s_is_event) (defScope s_is_event) .none kV11 dc11 pm11 an11 cd11 ct11), sl11⟩) (c11 : PySem.W.codeIn K cd11 "is_event" = true) (k11 : PySem.W.keepIn K (.ref f11) = true)
    (a12 : PySem.W.nsIn K mainGlobals "is_short_list" = some (some (.ref f12))) (l12 : K.lookup f12 = some ⟨oc12, od12, .func (PySem.W.fnOf "is_short_list" "is_short_list" (defArgs s_is_short_list) (defBody s_is_short_list) (defScope s_is_short_list) .none kV12 dc12 pm12 an12 cd12 ct12), sl12⟩) (c12 : PySem.W.codeIn K cd12 "is_short_list" = true) (k12 : PySem.W.keepIn K (.ref f12) = true)
    (a13 : PySem.W.nsIn K mainGlobals "takes_turn" = some (some (.ref f13))) (l13 : K.lookup f13 = some ⟨oc13, od13, .func (PySem.W.fnOf "takes_turn" "takes_turn" (defArgs s_takes_turn) (defBody s_takes_turn) (defScope s_takes_turn) .none kV13 dc13 pm13 an13 cd13 ct13), sl13⟩) (c13 : PySem.W.codeIn K cd13 "takes_turn" = true) (k13 : PySem.W.keepIn K (.ref f13) = true)
    (a14 : PySem.W.nsIn K mainGlobals "is_below" = some (some (.ref f14))) (l14 : K.lookup f14 = some ⟨oc14, od14, .func (PySem.W.fnOf "is_below" "is_below" (defArgs s_is_below) (defBody s_is_below) (defScope s_is_below) .none kV14 dc14 pm14 an14 cd14 ct14), sl14⟩) (c14 : PySem.W.codeIn K cd14 "is_below" = true) (k14 : PySem.W.keepIn K (.ref f14) = true)
    (a15 : PySem.W.nsIn K mainGlobals "can_follow" = some (some (.ref f15))) (l15 : K.lookup f15 = some ⟨oc15, od15, .func (PySem.W.fnOf "can_follow" "can_follow" (defArgs s_can_follow) (defBody s_can_follow) (defScope s_can_follow) .none kV15 dc15 pm15 an15 cd15 ct15), sl15⟩) (c15 : PySem.W.codeIn K cd15 "can_follow" = true) (k15 : PySem.W.keepIn K (.ref f15) = true)
    (a16 : PySem.W.nsIn K mainGlobals "check_record" = some (some (.ref f16))) (l16 : K.lookup f16 = some ⟨oc16, od16, .func (PySem.W.fnOf "check_record" "check_record" (defArgs s_check_record) (defBody s_check_record) (defScope s_check_record) (.ref T16) kV16 dc16 pm16 an16 cd16 ct16), sl16⟩) (c16 : PySem.W.codeIn K cd16 "check_record" = true) (k16 : PySem.W.keepIn K (.ref f16) = true) (u_16 : K.lookup T16 = some ⟨.type "tuple", td16, .seq #[.none] tn16, ts16⟩)
    (a17 : PySem.W.nsIn K mainGlobals "is_dual" = some (some (.ref f17))) (l17 : K.lookup f17 = some ⟨oc17, od17, .func (PySem.W.fnOf "is_dual" "is_dual" (defArgs s_is_dual) (defBody s_is_dual) (defScope s_is_dual) .none kV17 dc17 pm17 an17 cd17 ct17), sl17⟩) (c17 : PySem.W.codeIn K cd17 "is_dual" = true) (k17 : PySem.W.keepIn K (.ref f17) = true)
    (a18 : PySem.W.nsIn K mainGlobals "deciding_event" = some (some (.ref f18))) (l18 : K.lookup f18 = some ⟨oc18, od18, .func (PySem.W.fnOf "deciding_event" "deciding_event" (defArgs s_deciding_event) (defBody s_deciding_event) (defScope s_deciding_event) .none kV18 dc18 pm18 an18 cd18 ct18), sl18⟩) (c18 : PySem.W.codeIn K cd18 "deciding_event" = true) (k18 : PySem.W.keepIn K (.ref f18) = true)
    (a19 : PySem.W.nsIn K mainGlobals "sure_event" = some (some (.ref f19))) (l19 : K.lookup f19 = some ⟨oc19, od19, .func (PySem.W.fnOf "sure_event" "sure_event" (defArgs s_sure_event) (defBody s_sure_event) (defScope s_sure_event) .none kV19 dc19 pm19 an19 cd19 ct19), sl19⟩) (c19 : PySem.W.codeIn K cd19 "sure_event" = true) (k19 : PySem.W.keepIn K (.ref f19) = true)
    (a20 : PySem.W.nsIn K mainGlobals "dual_kind" = some (some (.ref f20))) (l20 : K.lookup f20 = some ⟨oc20, od20, .func (PySem.W.fnOf "dual_kind" "dual_kind" (defArgs s_dual_kind) (defBody s_dual_kind) (defScope s_dual_kind) .none kV20 dc20 pm20 an20 cd20 ct20), sl20⟩) (c20 : PySem.W.codeIn K cd20 "dual_kind" = true) (k20 : PySem.W.keepIn K (.ref f20) = true)
    (a21 : PySem.W.nsIn K mainGlobals "what_is_done" = some (some (.ref f21))) (l21 : K.lookup f21 = some ⟨oc21, od21, .func (PySem.W.fnOf "what_is_done" "what_is_done" (defArgs s_what_is_done) (defBody s_what_is_done) (defScope s_what_is_done) .none kV21 dc21 pm21 an21 cd21 ct21), sl21⟩) (c21 : PySem.W.codeIn K cd21 "what_is_done" = true) (k21 : PySem.W.keepIn K (.ref f21) = true)
    (a22 : PySem.W.nsIn K mainGlobals "play" = some (some (.ref f22))) (l22 : K.lookup f22 = some ⟨oc22, od22, .func (PySem.W.fnOf "play" "play" (defArgs s_play) (defBody s_play) (defScope s_play) .none kV22 dc22 pm22 an22 cd22 ct22), sl22⟩) (c22 : PySem.W.codeIn K cd22 "play" = true) (k22 : PySem.W.keepIn K (.ref f22) = true)
    (a23 : PySem.W.nsIn K mainGlobals "check_playable" = some (some (.ref f23))) (l23 : K.lookup f23 = some ⟨oc23, od23, .func (PySem.W.fnOf "check_playable" "check_playable" (defArgs s_check_playable) (defBody s_check_playable) (defScope s_check_playable) .none kV23 dc23 pm23 an23 cd23 ct23), sl23⟩) (c23 : PySem.W.codeIn K cd23 "check_playable" = true) (k23 : PySem.W.keepIn K (.ref f23) = true)
    (a24 : PySem.W.nsIn K mainGlobals "codes_down" = some (some (.ref f24))) (l24 : K.lookup f24 = some ⟨oc24, od24, .func (PySem.W.fnOf "codes_down" "codes_down" (defArgs s_codes_down) (defBody s_codes_down) (defScope s_codes_down) .none kV24 dc24 pm24 an24 cd24 ct24), sl24⟩) (c24 : PySem.W.codeIn K cd24 "codes_down" = true) (k24 : PySem.W.keepIn K (.ref f24) = true)
    (a25 : PySem.W.nsIn K mainGlobals "played" = some (some (.ref f25))) (l25 : K.lookup f25 = some ⟨oc25, od25, .func (PySem.W.fnOf "played" "played" (defArgs s_played) (defBody s_played) (defScope s_played) .none kV25 dc25 pm25 an25 cd25 ct25), sl25⟩) (c25 : PySem.W.codeIn K cd25 "played" = true) (k25 : PySem.W.keepIn K (.ref f25) = true)
    (a26 : PySem.W.nsIn K mainGlobals "meanings" = some (some (.ref f26))) (l26 : K.lookup f26 = some ⟨oc26, od26, .func (PySem.W.fnOf "meanings" "meanings" (defArgs s_meanings) (defBody s_meanings) (defScope s_meanings) .none kV26 dc26 pm26 an26 cd26 ct26), sl26⟩) (c26 : PySem.W.codeIn K cd26 "meanings" = true) (k26 : PySem.W.keepIn K (.ref f26) = true)
    (a27 : PySem.W.nsIn K mainGlobals "sure_by" = some (some (.ref f27))) (l27 : K.lookup f27 = some ⟨oc27, od27, .func (PySem.W.fnOf "sure_by" "sure_by" (defArgs s_sure_by) (defBody s_sure_by) (defScope s_sure_by) .none kV27 dc27 pm27 an27 cd27 ct27), sl27⟩) (c27 : PySem.W.codeIn K cd27 "sure_by" = true) (k27 : PySem.W.keepIn K (.ref f27) = true)
    (a28 : PySem.W.nsIn K mainGlobals "held_keys" = some (some (.ref f28))) (l28 : K.lookup f28 = some ⟨oc28, od28, .func (PySem.W.fnOf "held_keys" "held_keys" (defArgs s_held_keys) (defBody s_held_keys) (defScope s_held_keys) .none kV28 dc28 pm28 an28 cd28 ct28), sl28⟩) (c28 : PySem.W.codeIn K cd28 "held_keys" = true) (k28 : PySem.W.keepIn K (.ref f28) = true)
    (a29 : PySem.W.nsIn K mainGlobals "is_whole" = some (some (.ref f29))) (l29 : K.lookup f29 = some ⟨oc29, od29, .func (PySem.W.fnOf "is_whole" "is_whole" (defArgs s_is_whole) (defBody s_is_whole) (defScope s_is_whole) .none kV29 dc29 pm29 an29 cd29 ct29), sl29⟩) (c29 : PySem.W.codeIn K cd29 "is_whole" = true) (k29 : PySem.W.keepIn K (.ref f29) = true)
    (a30 : PySem.W.nsIn K mainGlobals "ended" = some (some (.ref f30))) (l30 : K.lookup f30 = some ⟨oc30, od30, .func (PySem.W.fnOf "ended" "ended" (defArgs s_ended) (defBody s_ended) (defScope s_ended) .none kV30 dc30 pm30 an30 cd30 ct30), sl30⟩) (c30 : PySem.W.codeIn K cd30 "ended" = true) (k30 : PySem.W.keepIn K (.ref f30) = true)
    (a31 : PySem.W.nsIn K mainGlobals "_law_reel" = some (some (.ref f31))) (l31 : K.lookup f31 = some ⟨oc31, od31, .func (PySem.W.fnOf "_law_reel" "_law_reel" (defArgs s__law_reel) (defBody s__law_reel) (defScope s__law_reel) .none kV31 dc31 pm31 an31 cd31 ct31), sl31⟩) (c31 : PySem.W.codeIn K cd31 "_law_reel" = true) (k31 : PySem.W.keepIn K (.ref f31) = true)
    (a32 : PySem.W.nsIn K mainGlobals "_law_spin" = some (some (.ref f32))) (l32 : K.lookup f32 = some ⟨oc32, od32, .func (PySem.W.fnOf "_law_spin" "_law_spin" (defArgs s__law_spin) (defBody s__law_spin) (defScope s__law_spin) .none kV32 dc32 pm32 an32 cd32 ct32), sl32⟩) (c32 : PySem.W.codeIn K cd32 "_law_spin" = true) (k32 : PySem.W.keepIn K (.ref f32) = true)
    (a33 : PySem.W.nsIn K mainGlobals "_law_code" = some (some (.ref f33))) (l33 : K.lookup f33 = some ⟨oc33, od33, .func (PySem.W.fnOf "_law_code" "_law_code" (defArgs s__law_code) (defBody s__law_code) (defScope s__law_code) .none kV33 dc33 pm33 an33 cd33 ct33), sl33⟩) (c33 : PySem.W.codeIn K cd33 "_law_code" = true) (k33 : PySem.W.keepIn K (.ref f33) = true)
    (a34 : PySem.W.nsIn K mainGlobals "_law_action" = some (some (.ref f34))) (l34 : K.lookup f34 = some ⟨oc34, od34, .func (PySem.W.fnOf "_law_action" "_law_action" (defArgs s__law_action) (defBody s__law_action) (defScope s__law_action) .none kV34 dc34 pm34 an34 cd34 ct34), sl34⟩) (c34 : PySem.W.codeIn K cd34 "_law_action" = true) (k34 : PySem.W.keepIn K (.ref f34) = true)
    (a35 : PySem.W.nsIn K mainGlobals "_law_layout" = some (some (.ref f35))) (l35 : K.lookup f35 = some ⟨oc35, od35, .func (PySem.W.fnOf "_law_layout" "_law_layout" (defArgs s__law_layout) (defBody s__law_layout) (defScope s__law_layout) .none kV35 dc35 pm35 an35 cd35 ct35), sl35⟩) (c35 : PySem.W.codeIn K cd35 "_law_layout" = true) (k35 : PySem.W.keepIn K (.ref f35) = true)
    (a36 : PySem.W.nsIn K mainGlobals "_law_record" = some (some (.ref f36))) (l36 : K.lookup f36 = some ⟨oc36, od36, .func (PySem.W.fnOf "_law_record" "_law_record" (defArgs s__law_record) (defBody s__law_record) (defScope s__law_record) .none kV36 dc36 pm36 an36 cd36 ct36), sl36⟩) (c36 : PySem.W.codeIn K cd36 "_law_record" = true) (k36 : PySem.W.keepIn K (.ref f36) = true)
    (a37 : PySem.W.nsIn K mainGlobals "_law_cut_right" = some (some (.ref f37))) (l37 : K.lookup f37 = some ⟨oc37, od37, .func (PySem.W.fnOf "_law_cut_right" "_law_cut_right" (defArgs s__law_cut_right) (defBody s__law_cut_right) (defScope s__law_cut_right) .none kV37 dc37 pm37 an37 cd37 ct37), sl37⟩) (c37 : PySem.W.codeIn K cd37 "_law_cut_right" = true) (k37 : PySem.W.keepIn K (.ref f37) = true)
    (a38 : PySem.W.nsIn K mainGlobals "_law_ended_right" = some (some (.ref f38))) (l38 : K.lookup f38 = some ⟨oc38, od38, .func (PySem.W.fnOf "_law_ended_right" "_law_ended_right" (defArgs s__law_ended_right) (defBody s__law_ended_right) (defScope s__law_ended_right) .none kV38 dc38 pm38 an38 cd38 ct38), sl38⟩) (c38 : PySem.W.codeIn K cd38 "_law_ended_right" = true) (k38 : PySem.W.keepIn K (.ref f38) = true)
    (a39 : PySem.W.nsIn K mainGlobals "law" = some (some (.ref f39))) (l39 : K.lookup f39 = some ⟨oc39, od39, .func (PySem.W.fnOf "law" "law" (defArgs s_law) (defBody s_law) (defScope s_law) .none kV39 dc39 pm39 an39 cd39 ct39), sl39⟩) (c39 : PySem.W.codeIn K cd39 "law" = true) (k39 : PySem.W.keepIn K (.ref f39) = true)
    (v0 : PySem.W.nsIn K mainGlobals "MOST_SIGNS" = some (some (.int 8 tk0)))
    (v1 : PySem.W.nsIn K mainGlobals "CODE_SIGNS" = some (some (.str "abcdefghijklmnopqrstuvwxyz0123456789" tk1)))
    (v2 : PySem.W.nsIn K mainGlobals "GREATEST_TIME" = some (some (.int 1000000000 tk2)))
    (v3 : PySem.W.nsIn K mainGlobals "RULES" = some (some (.ref g3))) (u3 : K.lookup g3 = some ⟨.type "tuple", none, .seq #[.str "time" tk3_0, .str "other" tk3_1, .str "within" tk3_2] gn3, gs3⟩)
    (v4 : PySem.W.nsIn K mainGlobals "LAYER_WORDS" = some (some (.ref g4))) (u4 : K.lookup g4 = some ⟨.type "tuple", none, .seq #[.str "layer" tk4_0, .str "lock" tk4_1, .str "once" tk4_2] gn4, gs4⟩)
    (v5 : PySem.W.nsIn K mainGlobals "MOST_LAYERS" = some (some (.int 6 tk5)))
    (v6 : PySem.W.nsIn K mainGlobals "MOST_KEYS" = some (some (.int 16 tk6)))
    (v7 : PySem.W.nsIn K mainGlobals "MOST_EVENTS" = some (some (.int 400 tk7)))
    (v8 : PySem.W.nsIn K mainGlobals "TICKS_BEHIND" = some (some (.int 1000000000 tk8)))
    (v9 : PySem.W.nsIn K mainGlobals "NO_LAYER" = some (some (.int 0 tk9)))
    (z0 : PySem.W.nsIn K mainGlobals "len" = some none)
    (z1 : PySem.W.nsIn K mainGlobals "abs" = some none)
    (z2 : PySem.W.nsIn K mainGlobals "max" = some none)
    (z3 : PySem.W.nsIn K mainGlobals "min" = some none)
    (z4 : PySem.W.nsIn K mainGlobals "sum" = some none)
    (z5 : PySem.W.nsIn K mainGlobals "repr" = some none)
    (z6 : PySem.W.nsIn K mainGlobals "isinstance" = some none)
    (z7 : PySem.W.nsIn K mainGlobals "all" = some none)
    (z8 : PySem.W.nsIn K mainGlobals "list" = some none)
    (z9 : PySem.W.nsIn K mainGlobals "tuple" = some none)
    (z10 : PySem.W.nsIn K mainGlobals "int" = some none)
    (z11 : PySem.W.nsIn K mainGlobals "bool" = some none)
    (z12 : PySem.W.nsIn K mainGlobals "str" = some none)
    (z13 : PySem.W.nsIn K mainGlobals "range" = some none)
    (z14 : PySem.W.nsIn K mainGlobals "enumerate" = some none)
    (z15 : PySem.W.nsIn K mainGlobals "sorted" = some none)
    (z16 : PySem.W.nsIn K mainGlobals "zip" = some none)
    (z17 : PySem.W.nsIn K mainGlobals "set" = some none)
    (aC : PySem.W.nsIn K mainGlobals "Player" = some (some (.ref C)))
    (ma0 : PySem.W.findIn K (.ref C) "__init__" = some (some (.ref mf0))) (mi0 : PySem.W.isFn K (.ref mf0) = true) (ml0 : K.lookup mf0 = some ⟨moc0, mod0, .func (PySem.W.fnOf "__init__" "Player.__init__" (defArgs s_Player_init) (defBody s_Player_init) (defScope s_Player_init) .none mkV0 mdc0 mpm0 man0 mcd0 mct0), msl0⟩) (mc0 : PySem.W.codeIn K mcd0 "Player.__init__" = true) (mk0 : PySem.W.keepIn K (.ref mf0) = true)
    (ma1 : PySem.W.findIn K (.ref C) "is_on" = some (some (.ref mf1))) (mi1 : PySem.W.isFn K (.ref mf1) = true) (ml1 : K.lookup mf1 = some ⟨moc1, mod1, .func (PySem.W.fnOf "is_on" "Player.is_on" (defArgs s_is_on) (defBody s_is_on) (defScope s_is_on) .none mkV1 mdc1 mpm1 man1 mcd1 mct1), msl1⟩) (mc1 : PySem.W.codeIn K mcd1 "Player.is_on" = true) (mk1 : PySem.W.keepIn K (.ref mf1) = true)
    (ma2 : PySem.W.findIn K (.ref C) "taken" = some (some (.ref mf2))) (mi2 : PySem.W.isFn K (.ref mf2) = true) (ml2 : K.lookup mf2 = some ⟨moc2, mod2, .func (PySem.W.fnOf "taken" "Player.taken" (defArgs s_taken) (defBody s_taken) (defScope s_taken) .none mkV2 mdc2 mpm2 man2 mcd2 mct2), msl2⟩) (mc2 : PySem.W.codeIn K mcd2 "Player.taken" = true) (mk2 : PySem.W.keepIn K (.ref mf2) = true)
    (ma3 : PySem.W.findIn K (.ref C) "press" = some (some (.ref mf3))) (mi3 : PySem.W.isFn K (.ref mf3) = true) (ml3 : K.lookup mf3 = some ⟨moc3, mod3, .func (PySem.W.fnOf "press" "Player.press" (defArgs s_press) (defBody s_press) (defScope s_press) .none mkV3 mdc3 mpm3 man3 mcd3 mct3), msl3⟩) (mc3 : PySem.W.codeIn K mcd3 "Player.press" = true) (mk3 : PySem.W.keepIn K (.ref mf3) = true)
    (ma4 : PySem.W.findIn K (.ref C) "release" = some (some (.ref mf4))) (mi4 : PySem.W.isFn K (.ref mf4) = true) (ml4 : K.lookup mf4 = some ⟨moc4, mod4, .func (PySem.W.fnOf "release" "Player.release" (defArgs s_release) (defBody s_release) (defScope s_release) .none mkV4 mdc4 mpm4 man4 mcd4 mct4), msl4⟩) (mc4 : PySem.W.codeIn K mcd4 "Player.release" = true) (mk4 : PySem.W.keepIn K (.ref mf4) = true)
    (ma5 : PySem.W.findIn K (.ref C) "down_codes" = some (some (.ref mf5))) (mi5 : PySem.W.isFn K (.ref mf5) = true) (ml5 : K.lookup mf5 = some ⟨moc5, mod5, .func (PySem.W.fnOf "down_codes" "Player.down_codes" (defArgs s_down_codes) (defBody s_down_codes) (defScope s_down_codes) .none mkV5 mdc5 mpm5 man5 mcd5 mct5), msl5⟩) (mc5 : PySem.W.codeIn K mcd5 "Player.down_codes" = true) (mk5 : PySem.W.keepIn K (.ref mf5) = true)
    (pg : PySem.W.plainGet K C Str.empty = true) (hd : PySem.W.hasDictIn K C = true) (po : PySem.W.plainOver K C = true) (sa : PySem.W.findIn K (.ref C) "__setattr__" = some (some (.builtin "object.__setattr__"))) (mkC : PySem.W.makesIn K C = true) (kc : PySem.W.keepIn K (.ref C) = true)
    (nn0 : PySem.W.findIn K (.ref C) "layout" = some none)
    (nn1 : PySem.W.findIn K (.ref C) "locked" = some none)
    (nn2 : PySem.W.findIn K (.ref C) "once" = some none)
    (nn3 : PySem.W.findIn K (.ref C) "bound" = some none)
    (nn4 : PySem.W.findIn K (.ref C) "pressed" = some none) :
    ∃ fd : FuncData, (∀ (s : Shared) (u : Value), BindsTo s fd ⟨[u], []⟩ [("_law_script", u)]) ∧ ∀ base : Heap, K.In base → base.Ns mainGlobals mg → FnG l.prog w K mg base 12 fa fd ["_law_script"] (spLaw K) := by
  have e := hfa.symm.trans (PySem.W.mg_of X G a39)
  cases e
  have A_is_an_integer : At K mg "is_an_integer" s_is_an_integer ["value"] := at_mk X G a0 l0 c0 k0 fun _ _ _ _ _ _ us hl => match us, hl with | [_], _ => rfl
  have A_is_between : At K mg "is_between" s_is_between ["value", "low", "high"] := at_mk X G a1 l1 c1 k1 fun _ _ _ _ _ _ us hl => match us, hl with | [_, _, _], _ => rfl
  have A_is_code : At K mg "is_code" s_is_code ["value"] := at_mk X G a2 l2 c2 k2 fun _ _ _ _ _ _ us hl => match us, hl with | [_], _ => rfl
  have A_is_code_action : At K mg "is_code_action" s_is_code_action ["action"] := at_mk X G a3 l3 c3 k3 fun _ _ _ _ _ _ us hl => match us, hl with | [_], _ => rfl
  have A_is_layer_action : At K mg "is_layer_action" s_is_layer_action ["action", "words", "layer_count"] := at_mk X G a4 l4 c4 k4 fun _ _ _ _ _ _ us hl => match us, hl with | [_, _, _], _ => rfl
  have A_is_hold : At K mg "is_hold" s_is_hold ["value", "layer_count"] := at_mk X G a5 l5 c5 k5 fun _ _ _ _ _ _ us hl => match us, hl with | [_, _], _ => rfl
  have A_is_dual_action : At K mg "is_dual_action" s_is_dual_action ["action", "layer_count"] := at_mk X G a6 l6 c6 k6 fun _ _ _ _ _ _ us hl => match us, hl with | [_, _], _ => rfl
  have A_can_stand : At K mg "can_stand" s_can_stand ["action", "layer", "layer_count"] := at_mk X G a7 l7 c7 k7 fun _ _ _ _ _ _ us hl => match us, hl with | [_, _, _], _ => rfl
  have A_has_layout_form : At K mg "has_layout_form" s_has_layout_form ["value"] := at_mk X G a8 l8 c8 k8 fun _ _ _ _ _ _ us hl => match us, hl with | [_], _ => rfl
  have A_check_layout : At K mg "check_layout" s_check_layout ["value"] := at_mk X G a9 l9 c9 k9 fun _ _ _ _ _ _ us hl => match us, hl with | [_], _ => rfl
  have A_is_step : At K mg "is_step" s_is_step ["value"] := at_mk X G a10 l10 c10 k10 fun _ _ _ _ _ _ us hl => match us, hl with | [_], _ => rfl
  have A_is_event : At K mg "is_event" s_is_event ["value"] := at_mk X G a11 l11 c11 k11 fun _ _ _ _ _ _ us hl => match us, hl with | [_], _ => rfl
  have A_is_short_list : At K mg "is_short_list" s_is_short_list ["value"] := at_mk X G a12 l12 c12 k12 fun _ _ _ _ _ _ us hl => match us, hl with | [_], _ => rfl
  have A_takes_turn : At K mg "takes_turn" s_takes_turn ["held", "key", "way"] := at_mk X G a13 l13 c13 k13 fun _ _ _ _ _ _ us hl => match us, hl with | [_, _, _], _ => rfl
  have A_is_below : At K mg "is_below" s_is_below ["key", "many"] := at_mk X G a14 l14 c14 k14 fun _ _ _ _ _ _ us hl => match us, hl with | [_, _], _ => rfl
  have A_can_follow : At K mg "can_follow" s_can_follow ["event", "last", "held"] := at_mk X G a15 l15 c15 k15 fun _ _ _ _ _ _ us hl => match us, hl with | [_, _, _], _ => rfl
  have A_check_recordN : AtX K mg "check_record" s_check_record ["value", "many"] [.none] := atX_less X G a16 l16 c16 k16 u_16 fun _ _ _ _ _ _ _ us its hl hi => match us, its, hl, hi with | [_], [_], _, _ => ⟨_, rfl, rfl⟩
  have A_check_record : AtX K mg "check_record" s_check_record ["value", "many"] [] := atX_all X G a16 l16 c16 k16 u_16 fun _ _ _ _ _ _ _ us its hl hi => match us, its, hl, hi with | [_, _], [_], _, _ => ⟨_, rfl, rfl⟩
  have A_is_dual : At K mg "is_dual" s_is_dual ["action"] := at_mk X G a17 l17 c17 k17 fun _ _ _ _ _ _ us hl => match us, hl with | [_], _ => rfl
  have A_deciding_event : At K mg "deciding_event" s_deciding_event ["record", "at", "rule"] := at_mk X G a18 l18 c18 k18 fun _ _ _ _ _ _ us hl => match us, hl with | [_, _, _], _ => rfl
  have A_sure_event : At K mg "sure_event" s_sure_event ["record", "at", "dual"] := at_mk X G a19 l19 c19 k19 fun _ _ _ _ _ _ us hl => match us, hl with | [_, _, _], _ => rfl
  have A_dual_kind : At K mg "dual_kind" s_dual_kind ["record", "at", "sure"] := at_mk X G a20 l20 c20 k20 fun _ _ _ _ _ _ us hl => match us, hl with | [_, _, _], _ => rfl
  have A_what_is_done : At K mg "what_is_done" s_what_is_done ["action", "kind"] := at_mk X G a21 l21 c21 k21 fun _ _ _ _ _ _ us hl => match us, hl with | [_, _], _ => rfl
  have A_play : At K mg "play" s_play ["layout", "record"] := at_mk X G a22 l22 c22 k22 fun _ _ _ _ _ _ us hl => match us, hl with | [_, _], _ => rfl
  have A_check_playable : At K mg "check_playable" s_check_playable ["layout", "record"] := at_mk X G a23 l23 c23 k23 fun _ _ _ _ _ _ us hl => match us, hl with | [_, _], _ => rfl
  have A_codes_down : At K mg "codes_down" s_codes_down ["layout", "record"] := at_mk X G a24 l24 c24 k24 fun _ _ _ _ _ _ us hl => match us, hl with | [_, _], _ => rfl
  have A_played : At K mg "played" s_played ["layout", "record"] := at_mk X G a25 l25 c25 k25 fun _ _ _ _ _ _ us hl => match us, hl with | [_, _], _ => rfl
  have A_meanings : At K mg "meanings" s_meanings ["layout", "record"] := at_mk X G a26 l26 c26 k26 fun _ _ _ _ _ _ us hl => match us, hl with | [_, _], _ => rfl
  have A_sure_by : At K mg "sure_by" s_sure_by ["layout", "record"] := at_mk X G a27 l27 c27 k27 fun _ _ _ _ _ _ us hl => match us, hl with | [_, _], _ => rfl
  have A_held_keys : At K mg "held_keys" s_held_keys ["record"] := at_mk X G a28 l28 c28 k28 fun _ _ _ _ _ _ us hl => match us, hl with | [_], _ => rfl
  have A_is_whole : At K mg "is_whole" s_is_whole ["record"] := at_mk X G a29 l29 c29 k29 fun _ _ _ _ _ _ us hl => match us, hl with | [_], _ => rfl
  have A_ended : At K mg "ended" s_ended ["record"] := at_mk X G a30 l30 c30 k30 fun _ _ _ _ _ _ us hl => match us, hl with | [_], _ => rfl
  have A__law_reel : At K mg "_law_reel" s__law_reel ["_law_script", "_law_index"] := at_mk X G a31 l31 c31 k31 fun _ _ _ _ _ _ us hl => match us, hl with | [_, _], _ => rfl
  have A__law_spin : At K mg "_law_spin" s__law_spin ["_law_reel_here", "_law_size"] := at_mk X G a32 l32 c32 k32 fun _ _ _ _ _ _ us hl => match us, hl with | [_, _], _ => rfl
  have A__law_code : At K mg "_law_code" s__law_code ["_law_reel_here"] := at_mk X G a33 l33 c33 k33 fun _ _ _ _ _ _ us hl => match us, hl with | [_], _ => rfl
  have A__law_action : At K mg "_law_action" s__law_action ["_law_reel_here", "_law_layer", "_law_layers", "_law_longest"] := at_mk X G a34 l34 c34 k34 fun _ _ _ _ _ _ us hl => match us, hl with | [_, _, _, _], _ => rfl
  have A__law_layout : At K mg "_law_layout" s__law_layout ["_law_reel_here", "_law_layers", "_law_keys", "_law_longest"] := at_mk X G a35 l35 c35 k35 fun _ _ _ _ _ _ us hl => match us, hl with | [_, _, _, _], _ => rfl
  have A__law_record : At K mg "_law_record" s__law_record ["_law_reel_here", "_law_keys", "_law_size", "_law_gaps"] := at_mk X G a36 l36 c36 k36 fun _ _ _ _ _ _ us hl => match us, hl with | [_, _, _, _], _ => rfl
  have A__law_cut_right : At K mg "_law_cut_right" s__law_cut_right ["_law_layout_here", "_law_record_here", "_law_cut"] := at_mk X G a37 l37 c37 k37 fun _ _ _ _ _ _ us hl => match us, hl with | [_, _, _], _ => rfl
  have A__law_ended_right : At K mg "_law_ended_right" s__law_ended_right ["_law_layout_here", "_law_record_here"] := at_mk X G a38 l38 c38 k38 fun _ _ _ _ _ _ us hl => match us, hl with | [_, _], _ => rfl
  have A_law : At K mg "law" s_law ["_law_script"] := at_mk X G a39 l39 c39 k39 fun _ _ _ _ _ _ us hl => match us, hl with | [_], _ => rfl
  have m_MOST_SIGNS := PySem.W.mg_of X G v0
  have m_CODE_SIGNS := PySem.W.mg_of X G v1
  have m_GREATEST_TIME := PySem.W.mg_of X G v2
  have m_RULES := PySem.W.mg_of X G v3
  have t_RULES : ∀ H, SqT K H g3 ((["time", "other", "within"] : List Str).map V.str) := fun H => .inr ⟨_, _, _, u3, rfl, rfl, (by show 3 ≤ sizeLine; decide), .cons ⟨_, rfl⟩ (.cons ⟨_, rfl⟩ (.cons ⟨_, rfl⟩ (.nil)))⟩
  have n_RULES : ∃ o : Obj, K.lookup g3 = some o ∧ o.cls = .type "tuple" ∧ o.dict = none := ⟨_, u3, rfl, rfl⟩
  have m_LAYER_WORDS := PySem.W.mg_of X G v4
  have t_LAYER_WORDS : ∀ H, SqT K H g4 ((["layer", "lock", "once"] : List Str).map V.str) := fun H => .inr ⟨_, _, _, u4, rfl, rfl, (by show 3 ≤ sizeLine; decide), .cons ⟨_, rfl⟩ (.cons ⟨_, rfl⟩ (.cons ⟨_, rfl⟩ (.nil)))⟩
  have n_LAYER_WORDS : ∃ o : Obj, K.lookup g4 = some o ∧ o.cls = .type "tuple" ∧ o.dict = none := ⟨_, u4, rfl, rfl⟩
  have m_MOST_LAYERS := PySem.W.mg_of X G v5
  have m_MOST_KEYS := PySem.W.mg_of X G v6
  have m_MOST_EVENTS := PySem.W.mg_of X G v7
  have m_TICKS_BEHIND := PySem.W.mg_of X G v8
  have m_NO_LAYER := PySem.W.mg_of X G v9
  have bt : Bt mg := ⟨PySem.W.mg_none_of X G z0, PySem.W.mg_none_of X G z1, PySem.W.mg_none_of X G z2, PySem.W.mg_none_of X G z3, PySem.W.mg_none_of X G z4, PySem.W.mg_none_of X G z5, PySem.W.mg_none_of X G z6, PySem.W.mg_none_of X G z7, PySem.W.mg_none_of X G z8, PySem.W.mg_none_of X G z9, PySem.W.mg_none_of X G z10, PySem.W.mg_none_of X G z11, PySem.W.mg_none_of X G z12, PySem.W.mg_none_of X G z13, PySem.W.mg_none_of X G z14, PySem.W.mg_none_of X G z15, PySem.W.mg_none_of X G z16, PySem.W.mg_none_of X G z17⟩
  have cp : Cp K C := ⟨⟨pg, hd, po, sa⟩, nn0, nn1, nn2, nn3, nn4⟩
  have A_Player : AtI K mg C "Player" "Player.__init__" s_Player_init ["self", "layout"] := ⟨⟨_, _, fun_mk ml0 mc0 mk0, ⟨mkC, ma0, mi0, kc⟩, PySem.W.mg_of X G aC, (fun_mk ml0 mc0 mk0).binds (ps := ["self", "layout"]) fun _ _ _ _ _ _ us hl => match us, hl with | [_, _], _ => rfl⟩⟩
  have A_is_on : AtM K C "is_on" "Player.is_on" s_is_on ["self", "layer"] := ⟨⟨_, _, fun_mk ml1 mc1 mk1, ⟨ma1, mi1, mk1⟩, (fun_mk ml1 mc1 mk1).binds (ps := ["self", "layer"]) fun _ _ _ _ _ _ us hl => match us, hl with | [_, _], _ => rfl⟩⟩
  have A_taken : AtM K C "taken" "Player.taken" s_taken ["self", "key"] := ⟨⟨_, _, fun_mk ml2 mc2 mk2, ⟨ma2, mi2, mk2⟩, (fun_mk ml2 mc2 mk2).binds (ps := ["self", "key"]) fun _ _ _ _ _ _ us hl => match us, hl with | [_, _], _ => rfl⟩⟩
  have A_press : AtM K C "press" "Player.press" s_press ["self", "key", "what"] := ⟨⟨_, _, fun_mk ml3 mc3 mk3, ⟨ma3, mi3, mk3⟩, (fun_mk ml3 mc3 mk3).binds (ps := ["self", "key", "what"]) fun _ _ _ _ _ _ us hl => match us, hl with | [_, _, _], _ => rfl⟩⟩
  have A_release : AtM K C "release" "Player.release" s_release ["self", "key"] := ⟨⟨_, _, fun_mk ml4 mc4 mk4, ⟨ma4, mi4, mk4⟩, (fun_mk ml4 mc4 mk4).binds (ps := ["self", "key"]) fun _ _ _ _ _ _ us hl => match us, hl with | [_, _], _ => rfl⟩⟩
  have A_down_codes : AtM K C "down_codes" "Player.down_codes" s_down_codes ["self"] := ⟨⟨_, _, fun_mk ml5 mc5 mk5, ⟨ma5, mi5, mk5⟩, (fun_mk ml5 mc5 mk5).binds (ps := ["self"]) fun _ _ _ _ _ _ us hl => match us, hl with | [_], _ => rfl⟩⟩
  refine ⟨PySem.W.fnOf "law" "law" (defArgs s_law) (defBody s_law) (defScope s_law) .none kV39 dc39 pm39 an39 cd39 ct39, fun s u => .of_eq rfl, fun base _ _ => ?_⟩
  have C1 := ok_is_an_integer (P := l.prog) (w := w) (base := base) bt A_is_an_integer
  have C2 := ok_is_between bt A_is_between C1
  have C3 := ok_is_code (P := l.prog) (w := w) (base := base) bt m_MOST_SIGNS m_CODE_SIGNS A_is_code
  have C4 := ok_is_code_action bt A_is_code_action C3
  have C5 := ok_is_layer_action bt A_is_layer_action C2
  have C6 := ok_is_hold bt A_is_hold C4 C5
  have C7 := ok_is_dual_action bt m_GREATEST_TIME m_RULES t_RULES A_is_dual_action C3 C6 C2
  have C8 := ok_can_stand bt m_LAYER_WORDS t_LAYER_WORDS A_can_stand C4 C5 C7
  have C9 := ok_has_layout_form (P := l.prog) (w := w) (base := base) bt m_MOST_LAYERS m_MOST_KEYS A_has_layout_form
  have C10 := ok_check_layout bt A_check_layout C9 C8
  have E3 := ok_is_step bt A_is_step C1
  have E4 := ok_is_event bt A_is_event C1 E3
  have E5 := ok_is_short_list (P := l.prog) (w := w) (base := base) bt _ m_MOST_EVENTS A_is_short_list
  have E6 := ok_takes_turn (P := l.prog) (w := w) (base := base) A_takes_turn
  have E7 := ok_is_below (P := l.prog) (w := w) (base := base) A_is_below
  have E8 := ok_can_follow A_can_follow E6
  have E9 := ok_check_record bt A_check_record E5 E4 E8 E7
  have P1 := ok_Player_init (P := l.prog) (w := w) (base := base) bt cp m_NO_LAYER A_Player
  have P2 := ok_is_on (P := l.prog) (w := w) (mg := mg) (base := base) bt cp A_is_on
  have P3 := ok_taken bt cp A_taken P2
  have P4 := ok_press (P := l.prog) (w := w) (base := base) bt cp m_NO_LAYER A_press
  have P5 := ok_release (P := l.prog) (w := w) (base := base) bt cp m_NO_LAYER A_release
  have Q1 := ok_is_dual (P := l.prog) (w := w) (base := base) bt A_is_dual
  have Q2 := ok_deciding_event (P := l.prog) (w := w) (base := base) bt A_deciding_event
  have Q3 := ok_sure_event bt A_sure_event Q2
  have Q4 := ok_dual_kind (P := l.prog) (w := w) (base := base) bt A_dual_kind
  have Q5 := ok_what_is_done (P := l.prog) (w := w) (base := base) A_what_is_done
  have Q6 := ok_play bt cp A_play P1 P5 P3 P4 Q1 Q3 Q4 Q5
  have Q7 := ok_check_playable bt A_check_playable C10 E9
  have S1 := ok_down_codes (P := l.prog) (w := w) (base := base) bt cp A_down_codes
  have S2 := ok_codes_down bt cp A_codes_down Q7 Q6 S1
  have S3 := ok_played bt A_played Q7 Q6
  have S4 := ok_meanings bt A_meanings Q7 Q6
  have S5 := ok_sure_by bt A_sure_by Q7 Q6
  have N1 := ok_is_belowN (P := l.prog) (w := w) (base := base) A_is_below
  have N2 := ok_check_recordN bt A_check_recordN E5 E4 E8 N1
  have N3 := ok_held_keys (P := l.prog) (w := w) (base := base) bt A_held_keys
  have N4 := ok_is_whole bt A_is_whole N2 N3
  have N5 := ok_ended bt m_TICKS_BEHIND A_ended N2 N3
  have D1 := ok__law_spin (P := l.prog) (w := w) (base := base) A__law_spin
  have D2 := ok__law_reel (P := l.prog) (w := w) (base := base) bt A__law_reel
  have D4 := ok__law_code bt A__law_code D1
  have D6 := ok__law_action bt A__law_action D1 D4
  have D7 := ok__law_layout bt A__law_layout D6
  have D9 := ok__law_record bt A__law_record D1
  have D17 := ok__law_cut_right (C := C) bt A__law_cut_right S4 S3 S5 N4
  have D18 := ok__law_ended_right (C := C) bt A__law_ended_right N5 S3 S2 N4
  exact ok_law bt (fun_mk l39 c39 k39) D2 D1 D7 D9 D17 D18
end K15
open PySem PySem.W PyProof.Rows
set_option maxHeartbeats 0 in
theorem PySem.Challenge.cw_holdtap_k15_whole_beginnings_of_records_holds : PySem.Challenge.rw_holdtap_k15_whole_beginnings_of_records.Holds := by
  w_on; o_law; k_head; (case hw => w_witness2)
  k_fill
  refine Gd.walkG (l := PySem.Challenge.rw_holdtap_k15_whole_beginnings_of_records) (n := 63) (k := 12) (x := "_law_script") (sp := fun K => K15.spLaw K) rfl (by decide) rfl ⟨rfl, by decide, by decide⟩ (fun w h Y => PySem.W.kIn_of Y) ?F (fun _ _ a ns hl hS => ⟨a, ns, rfl, hS, hl, fun _ => rfl⟩)
  case F =>
    intro w mg fa h KX G hmg
    refine' K15.all_mk KX G hmg ?a0 ?l0 ?c0 ?k0 ?a1 ?l1 ?c1 ?k1 ?a2 ?l2 ?c2 ?k2 ?a3 ?l3 ?c3 ?k3 ?a4 ?l4 ?c4 ?k4 ?a5 ?l5 ?c5 ?k5 ?a6 ?l6 ?c6 ?k6 ?a7 ?l7 ?c7 ?k7 ?a8 ?l8 ?c8 ?k8 ?a9 ?l9 ?c9 ?k9 ?a10 ?l10 ?c10 ?k10 ?a11 ?l11 ?c11 ?k11 ?a12 ?l12 ?c12 ?k12 ?a13 ?l13 ?c13 ?k13 ?a14 ?l14 ?c14 ?k14 ?a15 ?l15 ?c15 ?k15 ?a16 ?l16 ?c16 ?k16 ?u_16 ?a17 ?l17 ?c17 ?k17 ?a18 ?l18 ?c18 ?k18 ?a19 ?l19 ?c19 ?k19 ?a20 ?l20 ?c20 ?k20 ?a21 ?l21 ?c21 ?k21 ?a22 ?l22 ?c22 ?k22 ?a23 ?l23 ?c23 ?k23 ?a24 ?l24 ?c24 ?k24 ?a25 ?l25 ?c25 ?k25 ?a26 ?l26 ?c26 ?k26 ?a27 ?l27 ?c27 ?k27 ?a28 ?l28 ?c28 ?k28 ?a29 ?l29 ?c29 ?k29 ?a30 ?l30 ?c30 ?k30 ?a31 ?l31 ?c31 ?k31 ?a32 ?l32 ?c32 ?k32 ?a33 ?l33 ?c33 ?k33 ?a34 ?l34 ?c34 ?k34 ?a35 ?l35 ?c35 ?k35 ?a36 ?l36 ?c36 ?k36 ?a37 ?l37 ?c37 ?k37 ?a38 ?l38 ?c38 ?k38 ?a39 ?l39 ?c39 ?k39 ?v0 ?v1 ?v2 ?v3 ?u3 ?v4 ?u4 ?v5 ?v6 ?v7 ?v8 ?v9 ?z0 ?z1 ?z2 ?z3 ?z4 ?z5 ?z6 ?z7 ?z8 ?z9 ?z10 ?z11 ?z12 ?z13 ?z14 ?z15 ?z16 ?z17 ?aC ?ma0 ?mi0 ?ml0 ?mc0 ?mk0 ?ma1 ?mi1 ?ml1 ?mc1 ?mk1 ?ma2 ?mi2 ?ml2 ?mc2 ?mk2 ?ma3 ?mi3 ?ml3 ?mc3 ?mk3 ?ma4 ?mi4 ?ml4 ?mc4 ?mk4 ?ma5 ?mi5 ?ml5 ?mc5 ?mk5 ?pg ?hd ?po ?sa ?mkC ?kc ?nn0 ?nn1 ?nn2 ?nn3 ?nn4
    (case a0 => k_is); (case l0 => k_is); (case c0 => k_is); (case k0 => k_is); (case a1 => k_is); (case l1 => k_is); (case c1 => k_is); (case k1 => k_is); (case a2 => k_is); (case l2 => k_is); (case c2 => k_is); (case k2 => k_is); (case a3 => k_is); (case l3 => k_is); (case c3 => k_is); (case k3 => k_is); (case a4 => k_is); (case l4 => k_is); (case c4 => k_is); (case k4 => k_is); (case a5 => k_is); (case l5 => k_is); (case c5 => k_is); (case k5 => k_is); (case a6 => k_is); (case l6 => k_is); (case c6 => k_is); (case k6 => k_is); (case a7 => k_is); (case l7 => k_is); (case c7 => k_is); (case k7 => k_is); (case a8 => k_is); (case l8 => k_is); (case c8 => k_is); (case k8 => k_is); (case a9 => k_is); (case l9 => k_is); (case c9 => k_is); (case k9 => k_is); (case a10 => k_is); (case l10 => k_is); (case c10 => k_is); (case k10 => k_is); (case a11 => k_is); (case l11 => k_is); (case c11 => k_is); (case k11 => k_is); (case a12 => k_is); (case l12 => k_is); (case c12 => k_is); (case k12 => k_is); (case a13 => k_is); (case l13 => k_is); (case c13 => k_is); (case k13 => k_is); (case a14 => k_is); (case l14 => k_is); (case c14 => k_is); (case k14 => k_is); (case a15 => k_is); (case l15 => k_is); (case c15 => k_is); (case k15 => k_is); (case a16 => k_is); (case l16 => k_is); (case c16 => k_is); (case k16 => k_is); (case u_16 => k_is); (case a17 => k_is); (case l17 => k_is); (case c17 => k_is); (case k17 => k_is); (case a18 => k_is); (case l18 => k_is); (case c18 => k_is); (case k18 => k_is); (case a19 => k_is); (case l19 => k_is); (case c19 => k_is); (case k19 => k_is); (case a20 => k_is); (case l20 => k_is); (case c20 => k_is); (case k20 => k_is); (case a21 => k_is); (case l21 => k_is); (case c21 => k_is); (case k21 => k_is); (case a22 => k_is); (case l22 => k_is); (case c22 => k_is); (case k22 => k_is); (case a23 => k_is); (case l23 => k_is); (case c23 => k_is); (case k23 => k_is); (case a24 => k_is); (case l24 => k_is); (case c24 => k_is); (case k24 => k_is); (case a25 => k_is); (case l25 => k_is); (case c25 => k_is); (case k25 => k_is); (case a26 => k_is); (case l26 => k_is); (case c26 => k_is); (case k26 => k_is); (case a27 => k_is); (case l27 => k_is); (case c27 => k_is); (case k27 => k_is); (case a28 => k_is); (case l28 => k_is); (case c28 => k_is); (case k28 => k_is); (case a29 => k_is); (case l29 => k_is); (case c29 => k_is); (case k29 => k_is); (case a30 => k_is); (case l30 => k_is); (case c30 => k_is); (case k30 => k_is); (case a31 => k_is); (case l31 => k_is); (case c31 => k_is); (case k31 => k_is); (case a32 => k_is); (case l32 => k_is); (case c32 => k_is); (case k32 => k_is); (case a33 => k_is); (case l33 => k_is); (case c33 => k_is); (case k33 => k_is); (case a34 => k_is); (case l34 => k_is); (case c34 => k_is); (case k34 => k_is); (case a35 => k_is); (case l35 => k_is); (case c35 => k_is); (case k35 => k_is); (case a36 => k_is); (case l36 => k_is); (case c36 => k_is); (case k36 => k_is); (case a37 => k_is); (case l37 => k_is); (case c37 => k_is); (case k37 => k_is); (case a38 => k_is); (case l38 => k_is); (case c38 => k_is); (case k38 => k_is); (case a39 => k_is); (case l39 => k_is); (case c39 => k_is); (case k39 => k_is); (case v0 => k_is); (case v1 => k_is); (case v2 => k_is); (case v3 => k_is); (case u3 => k_is); (case v4 => k_is); (case u4 => k_is); (case v5 => k_is); (case v6 => k_is); (case v7 => k_is); (case v8 => k_is); (case v9 => k_is); (case z0 => k_is); (case z1 => k_is); (case z2 => k_is); (case z3 => k_is); (case z4 => k_is); (case z5 => k_is); (case z6 => k_is); (case z7 => k_is); (case z8 => k_is); (case z9 => k_is); (case z10 => k_is); (case z11 => k_is); (case z12 => k_is); (case z13 => k_is); (case z14 => k_is); (case z15 => k_is); (case z16 => k_is); (case z17 => k_is); (case aC => k_is); (case ma0 => k_is); (case mi0 => k_is); (case ml0 => k_is); (case mc0 => k_is); (case mk0 => k_is); (case ma1 => k_is); (case mi1 => k_is); (case ml1 => k_is); (case mc1 => k_is); (case mk1 => k_is); (case ma2 => k_is); (case mi2 => k_is); (case ml2 => k_is); (case mc2 => k_is); (case mk2 => k_is); (case ma3 => k_is); (case mi3 => k_is); (case ml3 => k_is); (case mc3 => k_is); (case mk3 => k_is); (case ma4 => k_is); (case mi4 => k_is); (case ml4 => k_is); (case mc4 => k_is); (case mk4 => k_is); (case ma5 => k_is); (case mi5 => k_is); (case ml5 => k_is); (case mc5 => k_is); (case mk5 => k_is); (case pg => k_is); (case hd => k_is); (case po => k_is); (case sa => k_is); (case mkC => k_is); (case kc => k_is); (case nn0 => k_is); (case nn1 => k_is); (case nn2 => k_is); (case nn3 => k_is); (case nn4 => k_is)

