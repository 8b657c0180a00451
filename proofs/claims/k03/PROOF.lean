import PyProof.Rows.All
import Wide.All
import OpenK.AllK
import Wide.FinOn
import HandS.ForMost
import HandS.EndBits
import HandS.Wide
import HandS.IsInst
import PyProof.ReprRoads
import PyProof.ReprBulk
import HandS.ForExc
import HandS.ExcInit
import KE.KExcSuper
import KE.KExcInit
import HandS.ExcIs
import HandS.ExcField
import KE.KExcIs
import HandS.ExcValue
import HandS.OwnEq
import HandS.Dict
import PySem.Challenge.RW_fewturnsover_k03_refusals_apart
set_option Elab.async false
set_option linter.all false
set_option maxRecDepth 100000
set_option maxHeartbeats 4000000
namespace G0
open PySem PySem.Spec PyProof.Rows L2

/-! what repr tells of data of any depth -/
mutual
theorem nodict {K : PySem.W.Frag} {H : Hp} : ∀ (d : PyData) (v : V), Dp K H v d → d.hasDict = false
  | .none, _, _ => by simp [PyData.hasDict]
  | .bool _, _, _ => by simp [PyData.hasDict]
  | .int _, _, _ => by simp [PyData.hasDict]
  | .str _, _, _ => by simp [PyData.hasDict]
  | .list ds, _, h => by
    cases h with
    | lst _ ha => simp only [PyData.hasDict]; exact nodictAll ds _ ha
  | .tuple ds, _, h => by
    cases h with
    | tup _ ha => simp only [PyData.hasDict]; exact nodictAll ds _ ha
  | .dict _, _, h => by cases h
theorem nodictAll {K : PySem.W.Frag} {H : Hp} : ∀ (ds : List PyData) (vs : List V), DpAll K H vs ds → PyData.hasDictAll ds = false
  | [], _, _ => by simp [PyData.hasDictAll]
  | d :: ds, _, h => by
    cases h with
    | cons h1 h2 => simp only [PyData.hasDictAll, nodict d _ h1, nodictAll ds _ h2, Bool.or_self]
end

section
variable {X : Cx}
/-- repr(x) where nothing is being shown around -/
def rRepr (K : PySem.W.Frag) : List V → Hp → VK → Prop := fun xs H Q =>
  ∃ x d, xs = [x] ∧ Dp K H x d ∧ d.showable = true ∧ d.depth ≤ 60 ∧ d.shown.length ≤ sizeLine ∧ Q (.str d.shown) H
theorem call_reprD (gu : X.A.guards = some []) (ro : X.A.units + 64 < cLine) : CallR X (.builtin "repr") (rRepr X.K) := by
  intro pins s σ H xs us Q I rel hyp
  obtain ⟨x, d, rfl, dp, sh, dep, siz, fin⟩ := hyp
  obtain ⟨u, rfl, ru⟩ := vals1 rel
  cases dp with
  | non =>
    cases ru
    rw [PyData.shown_none] at fin
    exact PySem.P.repr_of_none ⟨.str _, H, I.tok _, ⟨_, rfl⟩, fin⟩
  | bl b =>
    cases ru
    rw [PyData.shown_bool] at fin
    exact PySem.P.repr_of_bool ⟨.str _, H, I.tok _, ⟨_, rfl⟩, by cases b <;> exact fin⟩
  | int i =>
    obtain ⟨t, rfl⟩ := ru
    rw [PyData.shown_int] at fin
    exact PySem.P.repr_of_int (by simpa [PyData.showable] using sh) ⟨.str _, H, I.tok _, ⟨_, rfl⟩, fin⟩
  | str z =>
    obtain ⟨t, rfl⟩ := ru
    rw [PyData.shown_str] at fin siz
    exact PySem.P.repr_of_str ⟨.str _, H, I.tok _, ⟨_, rfl⟩, fin⟩ siz
  | lst hs ha =>
    have hd := nodict _ _ (Dp.lst hs ha)
    obtain ⟨as, rd⟩ := Dp.reads I _ _ _ (Dp.lst hs ha) ru
    cases ru
    exact repr_of_reads' rd sh (fun q => absurd (q.symm.trans hd) (by decide)) gu (by omega) (fun _ _ e => e) (fun h' t k keep => ⟨.str _, H, I.kept keep, ⟨_, rfl⟩, fin⟩) siz
  | tup hs ha =>
    have hd := nodict _ _ (Dp.tup hs ha)
    obtain ⟨as, rd⟩ := Dp.reads I _ _ _ (Dp.tup hs ha) ru
    cases ru
    exact repr_of_reads' rd sh (fun q => absurd (q.symm.trans hd) (by decide)) gu (by omega) (fun _ _ e => e) (fun h' t k keep => ⟨.str _, H, I.kept keep, ⟨_, rfl⟩, fin⟩) siz
end
end G0

set_option maxHeartbeats 4000000
namespace G1
open PySem PySem.Spec PyProof.Rows L2

/-- the law's own def, run where nothing is around: its context knows that no repr is under way -/
structure LawDef (P : Program) (w : World) (K : PySem.W.Frag) (mg : Str → Option Value) (k : Nat) (fa : Addr) (x : Str) (want : Hp → Addr → List Int → Prop) : Prop where
  ex : ∃ (fd : FuncData) (nm ql : Str) (pr : Arguments) (bd : List Stmt) (sc : Scope) (dV kV doc pm cdv ct oc : Value) (an od : Option Addr) (osl : Array (Option Value)) (N : List Str),
    fd = PySem.W.fnOf nm ql pr bd sc dV kV doc pm an cdv ct ∧ K.lookup fa = some ⟨oc, od, .func fd, osl⟩ ∧ PySem.W.codeIn K cdv ql = true ∧ FnScope N [x] sc ∧
    (∀ (s : Shared) (u : Value), BindsTo s fd ⟨[u], []⟩ [(x, u)]) ∧
    ∀ base : Heap, K.In base → base.Ns mainGlobals mg → ∀ (s : Shared) (H : Hp) (a : Addr) (ns : List Int), want H a ns →
      Room k (callerA.deeper (envOfC ql sc s.heap.objs.size fa cdv)) →
      ∃ t, PSs (cxOf CX0 P w K mg base N ql sc fa cdv callerA [] s H (fun _ _ _ => False)) bd t ∧ t { nx := fun _ _ => False, rt := fun v _ => v = .bl true } (start N [.ref a]) H

section
variable {P : Program} {w : World} {K : PySem.W.Frag} {mg : Str → Option Value} {k : Nat} {fa : Addr} {x : Str} {want : Hp → Addr → List Int → Prop}
theorem LawDef.run (L : LawDef P w K mg k fa x want) {base : Heap} (hk : K.In base) (hm : base.Ns mainGlobals mg) {s : Shared} {H : Hp} {a : Addr} {ns : List Int} (hw : want H a ns) (ro : Room (k + 1) callerA)
    (e0 : Env0 P w K mg base callerA [] s H) :
    codeAny (model P w) callerA (.call (.ref fa) ⟨[.ref a], []⟩) (CR CX0 [] P w H s (fun v _ => v = .bl true) fun _ _ _ => False) s := by
  obtain ⟨fd, nm, ql, pr, bd, sc, dV, kV, doc, pm, cdv, ct, oc, an, od, osl, N, rfl, at1, cod, S, bnd, bod⟩ := L.ex
  have inS : K.In s.heap := e0.mod.kin.keeps fun b o e => (e0.bs b o e).1
  have noL : s.heap.NoLimit := e0.mod.nolimit.keeps fun b o e => (e0.bs b o e).1
  refine codeAny_call_function ro.depth (inS _ _ at1) rfl S.co S.gen rfl (PySem.W.codeRec_of inS cod) (bnd s (.ref a) _ _ _ _ ?_)
  refine wpAny_newFunctionEnv_cells S.kind (fun ⟨n, v⟩ hy => ?_) fun env he s1 y => ?_
  · have hn : n ∈ [x] := by
      have h1 := List.mem_singleton.mp hy
      rw [(Prod.mk.inj h1).1]
      exact List.mem_singleton.mpr rfl
    rcases S.par n hn with q | q
    · exact Or.inl q
    · exact Or.inr ⟨q, PySem.W.cellsFrom_some _ _ _ (Or.inl q)⟩
  subst he
  refine ⟨noL.keeps y.toInCall.keep, codeAny_func ?_⟩
  obtain ⟨t, pt, tt⟩ := bod base hk hm s H a ns hw (ro.deeper _)
  have I : Inv (cxOf CX0 P w K mg base N ql sc fa cdv callerA [] s H fun _ _ _ => False) [] (start N [.ref a]) H s1 := inv_start S ro.hd e0 rfl (.cons rfl .nil) y
  refine wpAny_mono (pt.run [] s1 _ H _ I tt) (fun fl s2 h2 => ?_) fun e s2 h2 => h2
  cases fl with
  | ret u =>
    obtain ⟨v, σ2, H2, J, rv, q⟩ := h2
    exact ⟨v, H2, J.os, J.bare, J.base, J.hok, rv, q⟩
  | next =>
    obtain ⟨_, _, _, q⟩ := h2
    exact q.elim
  | brk =>
    obtain ⟨_, _, _, q⟩ := h2
    exact q.elim
  | cont =>
    obtain ⟨_, _, _, q⟩ := h2
    exact q.elim
end
end G1

set_option maxHeartbeats 4000000
namespace G2
open PySem PySem.Spec PyProof.Rows L2 G1
section
variable {P : Program} {w : World} {K : PySem.W.Frag} {mg mb : Str → Option Value} {k : Nat} {fa a : Addr} {x : Str} {want : Hp → Addr → List Int → Prop} {S0 : Shared} {vs : List Value} {ns : List Int}
theorem not_in_nil {α : Type} {b : α} {p : Prop} (h : b ∈ ([] : List α)) : p := absurd h List.not_mem_nil
/-- from the run to what a row asks of it -/
theorem told_true {H : Hp} (fz : Only H) (hok : HOk P w H S0.heap) {r : Result} {S1 : Shared} (h : CR CX0 [] P w H S0 (fun v _ => v = .bl true) (fun _ _ _ => False) r S1) :
    r = .ok (.ret (.bool true)) ∧ OldK S0.heap S1.heap ∧ S1.os = S0.os ∧ AllBare S1.gens := by
  match r, h with
  | .error e, h => exact False.elim h
  | .ok .next, h => exact False.elim h
  | .ok .brk, h => exact False.elim h
  | .ok .cont, h => exact False.elim h
  | .ok (.ret u), ⟨v, H1, os, br, un, hk1, ru, vt⟩ =>
    have vt2 : v = .bl true := vt
    rw [vt2] at ru
    have ru2 : u = Value.bool true := ru
    subst ru2
    refine ⟨rfl, OldK.of_keep fun b o at0 => ?_, os, br⟩
    rcases fz b with free | ⟨ob, xs, frozen⟩
    · exact un.keep b o at0 free (fun z => not_in_nil z) (fun z => not_in_nil z)
    · have was := (hok b _ frozen).1
      have is := (hk1 b _ (un.frzs b ob _ frozen)).1
      rw [at0] at was
      cases was
      exact is
/-- the heap without the script -/
theorem bare_base (KX : K.In S0.heap) (gl : S0.heap.Ns mainGlobals mg) (bu : S0.heap.Ns builtinsNs mb) (bb : ∀ z : Str, z ≠ "__name__" → mb z = bootBuiltins z) (nl : S0.heap.NoLimit)
    (ob : S0.heap.get? a = some { cls := .type "list", data := .seq vs.toArray }) {H : Hp} (own : ∀ b, H b ≠ none → b = a) (out : H a ≠ none → K.lookup a = none) : Mod K mg (hidT S0.heap H) := by
  have plain : ∀ {b : Addr} {m : Str → Option Value}, S0.heap.Ns b m → (hidT S0.heap H).Ns b m := by
    rintro b m ⟨o, es, ep, at0, dat, more⟩
    refine ⟨o, es, ep, hidT_get at0 ?_, dat, more⟩
    cases hb : H b with
    | none => rfl
    | some u =>
      have ba : b = a := own b (by rw [hb]; exact Option.some_ne_none u)
      rw [ba, ob] at at0
      cases at0
      exact absurd dat (by intro z; cases z)
  refine ⟨fun b o lk => hidT_get (KX b o lk) ?_, plain gl, ⟨mb, plain bu, bb⟩, ?_⟩
  · cases hb : H b with
    | none => rfl
    | some u =>
      have ne : H b ≠ none := by rw [hb]; exact Option.some_ne_none u
      have ba : b = a := own b ne
      subst ba
      rw [out ne] at lk
      cases lk
  · obtain ⟨mc, n1, n2⟩ := nl
    exact ⟨mc, plain n1, n2⟩
theorem law_at (KX : K.In S0.heap) (gl : S0.heap.Ns mainGlobals mg) (bu : S0.heap.Ns builtinsNs mb) (bb : ∀ z : Str, z ≠ "__name__" → mb z = bootBuiltins z) (nl : S0.heap.NoLimit) (gn : S0.gens = #[])
    (ob : S0.heap.get? a = some { cls := .type "list", data := .seq vs.toArray }) (ia : IntsAre vs ns) (ln : ns.length ≤ sizeLine) (ro : Room (k + 1) callerA) (L : LawDef P w K mg k fa x want)
    (hw : ∀ H : Hp, SqL K H a (ns.map V.int) → want H a ns) :
    codeAny (model P w) callerA (.call (.ref fa) ⟨[.ref a], []⟩) (fun r S1 => r = .ok (.ret (.bool true)) ∧ OldK S0.heap S1.heap ∧ S1.os = S0.os ∧ AllBare S1.gens) S0 := by
  have lenV := ia.length
  have go : ∀ H : Hp, Only H → SqL K H a (ns.map V.int) → HOk P w H S0.heap → (∀ b, H b ≠ none → b = a) → (H a ≠ none → K.lookup a = none) →
      codeAny (model P w) callerA (.call (.ref fa) ⟨[.ref a], []⟩) (fun r S1 => r = .ok (.ret (.bool true)) ∧ OldK S0.heap S1.heap ∧ S1.os = S0.os ∧ AllBare S1.gens) S0 := by
    intro H fz sq hok own out
    have M := bare_base KX gl bu bb nl ob own out
    have e0 : Env0 P w K mg (hidT S0.heap H) callerA [] S0 H :=
      { frames := rfl, mod := M, bs := fun b o e => of_hidT e, bsz := Nat.le_of_eq (hidT_size _ _), funs := trivial, frf := fun b z => not_in_nil (show b ∈ ([] : List Addr) from z), hok := hok, bare := .of_eq gn }
    exact codeAny_mono (L.run M.kin M.glob (hw H sq) ro e0) fun r S1 h => told_true fz hok h
  by_cases hk : K.lookup a = none
  · let o0 : Obj := { cls := .type "list", data := .seq vs.toArray }
    let H0 : Hp := fun b => if b = a then some (.frz o0 (.lst (ns.map V.int))) else none
    have h1 : H0 a = some (.frz o0 (.lst (ns.map V.int))) := if_pos rfl
    have h2 : ∀ b, b ≠ a → H0 b = none := fun b hb => if_neg hb
    refine go H0 (fun b => ?_) (Or.inl (Or.inr ⟨o0, h1⟩)) (fun b u z => ?_) (fun b z => Decidable.byContradiction fun hb => z (h2 b hb)) (fun _ => hk)
    · by_cases hb : b = a
      · subst hb
        exact Or.inr ⟨_, _, h1⟩
      · exact Or.inl (h2 b hb)
    · by_cases hb : b = a
      · subst hb
        rw [h1] at z
        cases z
        exact ⟨ob, by rw [List.length_map]; exact ln, vs, _, vals_ints ia, ob⟩
      · rw [h2 b hb] at z
        cases z
  · obtain ⟨o, lk⟩ := Option.ne_none_iff_exists'.mp hk
    have same := KX a o lk
    rw [ob] at same
    cases same
    refine go (fun _ => none) (fun _ => Or.inl rfl) (Or.inr ⟨_, vs.toArray, _, lk, rfl, rfl, rfl, by rw [List.size_toArray, lenV]; exact ln, by simpa using vals_ints ia⟩) (fun b u z => by cases z) (fun b z => absurd rfl z) (fun z => absurd rfl z)
end
/-- what k_head leaves, from the law's def -/
theorem walk_G {l : PySem.W.OpenLaw} {n k : Nat} {q : Program} {loose : List Str} {XP : (Str → Option Value) → Heap → Prop} {YP : World → Heap → Prop} {d : DefRec} {K : Params → PySem.W.Frag} {x : Str} (want : PySem.W.Frag → Hp → Addr → List Int → Prop)
    (hn : l.most = some n) (hz : n ≤ sizeLine) (nodef : d.params.defaults = []) (ro : Room (k + 1) callerA) (hY : ∀ (w : World) (h : Heap), YP w h → (K w.params).In h)
    (F : ∀ (w : World) (mg : Str → Option Value) (fa : Addr) (h : Heap), (K w.params).In h → h.Ns mainGlobals mg → mg d.name = some (.ref fa) → LawDef l.prog w (K w.params) mg k fa x (want (K w.params)))
    (hw : ∀ (K : PySem.W.Frag) (H : Hp) (a : Addr) (ns : List Int), ns.length ≤ n → (∀ z ∈ ns, Builtin.Int.intBits z ≤ 1048576) → SqL K H a (ns.map V.int) → want K H a ns) :
    PySem.W.WalkO q loose XP YP l.row.toRowW d [] (fun f vs => PySem.call f vs) :=
  Att.attach_callB hn nodef fun w _ _ mg _ fa _ _ _ _ _ _ _ G Y _ _ _ atl ob ia ln bits gn =>
    law_at (hY w _ Y) G.T.g G.T.b G.T.builtins G.T.nolimit gn ob ia (Nat.le_trans ln hz) ro (F w mg fa _ (hY w _ Y) G.T.g atl) fun H sq => hw _ H _ _ ln bits sq
end G2

set_option maxHeartbeats 4000000
namespace G3
open PySem PySem.Spec PyProof.Rows L2
section
variable {X : Cx} {CX : CXT} {k : Nat} {f : Addr} {fd : FuncData} {ps ks : List Str} {sp : Sp} {E : XK} {x : Str} {p pos : Pos} {kws : List Keyword} {tk : TA} {g : List Value → List Value → List Value} {gV : List V → List V → List V}
/-- f(k = v, ..), nothing by place -/
theorem pe_named (F : FnOk X.prog X.w X.K X.mg X.base CX k f fd ps sp) (ro : Room k X.A) (gl : Gl X x) (at0 : X.mg x = some (.ref f)) (kp : PySem.W.keepIn X.K (.ref f) = true) (kb : KBinds X.K fd ps ks g gV) (px : Passes CX X E) (pk : PK X kws tk)
    (h1 : (backToKw pos (keywordEach kws X.env)).all (·.1.isSome) = true := by rfl) (h2 : (backToKw pos (keywordEach kws X.env)).filterMap (·.1) = ks := by rfl) (h3 : (x == ("__debug__" : Str)) = false := by decide)
    (h4 : ((backTo pos (starEach [] X.env)).any (·.1) || (backToKw pos (keywordEach kws X.env)).any (·.1.isNone)) = false := by rfl) :
    PE X (.Call (.Name x p) [] kws pos) (tCallK sp gV E tNil tk) := by
  refine ⟨fun pins s σ H Q I hyp => wpAny_Call_Name_kw (ld_glob I gl at0 ?_ h3)⟩
  refine PySem.W.callWith_KW0 (h₀ := X.base) I.ok.mod.kin kp h1 (thn (pk.run pos pins s σ H _ I hyp) fun ws s2 ⟨zs, H2, I2, rz, q2⟩ => ⟨I2.kIn, ?_⟩) h4
  rw [h2]
  exact run_fnk (us := []) (vs := []) F ro kb px I2 .nil rz q2
end
/-! heaps -/
theorem same_refl {H : Hp} : Same H H := fun _ _ e => e
theorem same_new {H : Hp} {p : Addr} {o : HO} (h : H p = none) : Same H (upd H p o) := fun b x e => by
  rw [upd_ne (ne_of_none e h)]
  exact e
/-- a store at what was not there at first -/
theorem same_put {H H1 : Hp} {p : Addr} {o : HO} (s : Same H H1) (h : H p = none) : Same H (upd H1 p o) := fun b x e => by
  rw [upd_ne (ne_of_none e h)]
  exact s b x e
theorem same_none {H H1 : Hp} {p : Addr} (s : Same H H1) (h : H1 p = none) : H p = none := by
  cases e : H p with
  | none => rfl
  | some o => rw [s _ _ e] at h; cases h
end G3

set_option maxHeartbeats 4000000
namespace G4
open PySem PySem.Spec PyProof.Rows L2
/-! data that is shown and compared: short leaves, no dicts -/
def nice (d : PyData) : Bool := d.showable && (d.canLay0 && d.leavesShort 13)
theorem nice_show {d : PyData} (h : nice d = true) : d.showable = true := (Bool.and_eq_true_iff.mp h).1
theorem nice_lay {d : PyData} (h : nice d = true) : d.canLay0 = true := (Bool.and_eq_true_iff.mp (Bool.and_eq_true_iff.mp h).2).1
theorem nice_short {d : PyData} (h : nice d = true) : d.leavesShort 13 = true := (Bool.and_eq_true_iff.mp (Bool.and_eq_true_iff.mp h).2).2
theorem nice_mk {d : PyData} (a : d.showable = true) (b : d.canLay0 = true) (c : d.leavesShort 13 = true) : nice d = true := by
  unfold nice
  rw [a, b, c]
  rfl
theorem nice_all : ∀ xs : List PyData, (∀ x ∈ xs, nice x = true) → PyData.showableAll xs = true ∧ PyData.canLayAll0 xs = true ∧ PyData.leavesShortAll 13 xs = true
  | [], _ => by simp only [PyData.showableAll, PyData.canLayAll0, PyData.leavesShortAll]; exact ⟨trivial, trivial, trivial⟩
  | x :: xs, h => by
    have hx := h x List.mem_cons_self
    have ih := nice_all xs fun y hy => h y (List.mem_cons_of_mem _ hy)
    simp only [PyData.showableAll, PyData.canLayAll0, PyData.leavesShortAll, nice_show hx, nice_lay hx, nice_short hx, ih.1, ih.2.1, ih.2.2, Bool.and_self]
    exact ⟨trivial, trivial, trivial⟩
theorem nice_list {xs : List PyData} (h : ∀ x ∈ xs, nice x = true) : nice (.list xs) = true := by
  have q := nice_all xs h
  exact nice_mk (by simp only [PyData.showable]; exact q.1) (by simp only [PyData.canLay0]; exact q.2.1) (by simp only [PyData.leavesShort]; exact q.2.2)
theorem nice_tuple {xs : List PyData} (h : ∀ x ∈ xs, nice x = true) : nice (.tuple xs) = true := by
  have q := nice_all xs h
  exact nice_mk (by simp only [PyData.showable]; exact q.1) (by simp only [PyData.canLay0]; exact q.2.1) (by simp only [PyData.leavesShort]; exact q.2.2)
theorem nice_none : nice .none = true := nice_mk (by simp only [PyData.showable]) (by simp only [PyData.canLay0]) (by simp only [PyData.leavesShort])
theorem nice_bool (b : Bool) : nice (.bool b) = true := nice_mk (by simp only [PyData.showable]) (by simp only [PyData.canLay0]) (by simp only [PyData.leavesShort])
theorem int_few : ∀ n : Nat, n < 200 → nice (.int (n - 100)) = true := by decide +kernel
theorem nice_int {i : Int} (h : -100 ≤ i) (h2 : i < 100) : nice (.int i) = true := by
  have q := int_few (i + 100).toNat (by omega)
  have e : (((i + 100).toNat : Nat) : Int) - 100 = i := by omega
  rw [e] at q
  exact q
theorem depth_all {k : Nat} : ∀ xs : List PyData, (∀ x ∈ xs, x.depth ≤ k) → PyData.depthAll xs ≤ k
  | [], _ => by simp only [PyData.depthAll]; exact Nat.zero_le _
  | x :: xs, h => by
    simp only [PyData.depthAll]
    exact Nat.max_le.mpr ⟨h x List.mem_cons_self, depth_all xs fun y hy => h y (List.mem_cons_of_mem _ hy)⟩
theorem depth_list {k : Nat} {xs : List PyData} (h : ∀ x ∈ xs, x.depth ≤ k) : (PyData.list xs).depth ≤ k + 1 := by
  simp only [PyData.depth]
  exact Nat.add_le_add_right (depth_all xs h) 1
theorem depth_tuple {k : Nat} {xs : List PyData} (h : ∀ x ∈ xs, x.depth ≤ k) : (PyData.tuple xs).depth ≤ k + 1 := by
  simp only [PyData.depth]
  exact Nat.add_le_add_right (depth_all xs h) 1
theorem bulk_all {m : Nat} : ∀ xs : List PyData, (∀ x ∈ xs, x.bulk ≤ m) → PyData.bulkAll xs ≤ (m + 1) * xs.length
  | [], _ => by simp only [PyData.bulkAll]; exact Nat.zero_le _
  | x :: xs, h => by
    have h1 := h x List.mem_cons_self
    have ih := bulk_all xs fun y hy => h y (List.mem_cons_of_mem _ hy)
    simp only [PyData.bulkAll, List.length_cons]
    rw [Nat.mul_add]
    omega
theorem bulk_list {m n : Nat} {xs : List PyData} (h : ∀ x ∈ xs, x.bulk ≤ m) (hn : xs.length ≤ n) : (PyData.list xs).bulk ≤ (m + 1) * n := by
  simp only [PyData.bulk]
  exact Nat.le_trans (bulk_all xs h) (Nat.mul_le_mul_left _ hn)
theorem bulk_tuple {m n : Nat} {xs : List PyData} (h : ∀ x ∈ xs, x.bulk ≤ m) (hn : xs.length ≤ n) : (PyData.tuple xs).bulk ≤ (m + 1) * n := by
  simp only [PyData.bulk]
  exact Nat.le_trans (bulk_all xs h) (Nat.mul_le_mul_left _ hn)
theorem nice_fits {d : PyData} (h : nice d = true) (hb : d.bulk ≤ 2 ^ 20) : d.shown.length ≤ sizeLine := PyData.shown_fits_bulk (B := 13) (by decide) (by decide) (nice_short h) hb
theorem nice_shaped {d : PyData} (h : nice d = true) (hd : d.depth ≤ 60) : SeqAt.shaped d = true := by
  unfold SeqAt.shaped
  rw [nice_lay h, decide_eq_true (show d.depth ≤ 64 by omega)]
  rfl
theorem dpAll_map {α : Type} {K : PySem.W.Frag} {H : Hp} {f : α → V} {g : α → PyData} : ∀ xs : List α, (∀ x ∈ xs, Dp K H (f x) (g x)) → DpAll K H (xs.map f) (xs.map g)
  | [], _ => .nil
  | x :: xs, h => .cons (h x List.mem_cons_self) (dpAll_map xs fun y hy => h y (List.mem_cons_of_mem _ hy))
end G4

set_option maxHeartbeats 4000000
namespace G5
open PySem PySem.Spec PyProof.Rows L2 G3
/-- a def's promise where no repr is under way -/
structure FnG (P : Program) (w : World) (K : PySem.W.Frag) (mg : Str → Option Value) (base : Heap) (CX : CXT) (k : Nat) (f : Addr) (fd : FuncData) (ps : List Str) (sp : Sp) : Prop where
  len : ∀ vs H Q E, sp vs H Q E → vs.length = ps.length
  run : ∀ (A : Around) (outer : List Env) (s : Shared) (H : Hp) (args : Args) (us : List Value) (vs : List V) (Q : VK) (E : XK), A.guards = some [] → Room k A → Env0 P w K mg base A outer s H → BindsTo s fd args (ps.zip us) → Vals vs us → sp vs H Q E →
    codeAny (model P w) A (.call (.ref f) args) (CR CX outer P w H s Q E) s
theorem FnG.of {P : Program} {w : World} {K : PySem.W.Frag} {mg : Str → Option Value} {base : Heap} {CX : CXT} {k : Nat} {f : Addr} {fd : FuncData} {ps : List Str} {sp : Sp} (F : FnOk P w K mg base CX k f fd ps sp) : FnG P w K mg base CX k f fd ps sp :=
  ⟨F.len, fun A outer s H args us vs Q E _ => F.run A outer s H args us vs Q E⟩
section
variable {P : Program} {w : World} {K : PySem.W.Frag} {mg : Str → Option Value} {base : Heap} {CX : CXT}
/-- a def by its body -/
theorem body_of {x ql : Str} {st : Stmt} {f : Addr} {fd : FuncData} {N ps : List Str} {k : Nat} {sp : Sp} (F : Fun K x ql st f fd) (S : FnScope N ps (defScope st)) (len : ∀ vs H Q E, sp vs H Q E → vs.length = ps.length)
    (body : ∀ (cdv : Value) (A : Around) (outer : List Env) (s : Shared) (H : Hp) (vs : List V) (Q : VK) (E : XK), A.guards = some [] → Room k (A.deeper (envOfC ql (defScope st) s.heap.objs.size f cdv)) → sp vs H Q E →
      ∃ t, PSs (cxOf CX P w K mg base N ql (defScope st) f cdv A outer s H E) (defBody st) t ∧ t { nx := fun _ H' => Q .non H', rt := Q } (start N vs) H) : FnG P w K mg base CX (k + 1) f fd ps sp := by
  obtain ⟨oc, od, kV, doc, pm, an, cdv, ct, osl, rfl, lk, hcd⟩ := F.ex
  refine ⟨len, fun A outer s H args us vs Q E gu hr e0 hb r hyp => ?_⟩
  have inS : K.In s.heap := e0.mod.kin.keeps fun b o e => (e0.bs b o e).1
  have noL : s.heap.NoLimit := e0.mod.nolimit.keeps fun b o e => (e0.bs b o e).1
  refine codeAny_call_function hr.depth (inS _ _ lk) rfl S.co S.gen rfl (PySem.W.codeRec_of inS hcd) (hb _ _ _ _ ?_)
  refine wpAny_newFunctionEnv_cells S.kind (fun ⟨n, v⟩ hy => ?_) fun env he s1 y => ?_
  · rcases S.par n (List.of_mem_zip hy).1 with q | q
    · exact Or.inl q
    · exact Or.inr ⟨q, PySem.W.cellsFrom_some _ _ _ (Or.inl q)⟩
  subst he
  refine ⟨noL.keeps y.toInCall.keep, codeAny_func ?_⟩
  obtain ⟨t, pt, tt⟩ := body cdv A outer s H vs Q E gu (hr.deeper _) hyp
  have I : Inv (cxOf CX P w K mg base N ql (defScope st) f cdv A outer s H E) [] (start N vs) H s1 := inv_start S hr.hd e0 (len _ _ _ _ hyp) r y
  refine wpAny_mono (pt.run [] s1 _ H _ I tt) (fun fl s2 h2 => ?_) fun e s2 h2 => h2
  cases fl with
  | ret u =>
    obtain ⟨v, σ2, H2, J, rv, q⟩ := h2
    exact ⟨v, H2, J.os, J.bare, J.base, J.hok, rv, q⟩
  | next =>
    obtain ⟨σ2, H2, J, q⟩ := h2
    exact ⟨.non, H2, J.os, J.bare, J.base, J.hok, rfl, q⟩
  | brk =>
    obtain ⟨_, _, _, q⟩ := h2
    exact q.elim
  | cont =>
    obtain ⟨_, _, _, q⟩ := h2
    exact q.elim
/-- the same where nothing is raised -/
theorem body_of0 {x ql : Str} {st : Stmt} {f : Addr} {fd : FuncData} {N ps : List Str} {k : Nat} {sp : Sp} (F : Fun K x ql st f fd) (S : FnScope N ps (defScope st)) (len : ∀ vs H Q E, sp vs H Q E → vs.length = ps.length)
    (body : ∀ (cdv : Value) (A : Around) (outer : List Env) (s : Shared) (H : Hp) (vs : List V) (Q : VK) (E : XK), A.guards = some [] → Room k (A.deeper (envOfC ql (defScope st) s.heap.objs.size f cdv)) → sp vs H Q E →
      ∃ t, PSs (cxOf CX0 P w K mg base N ql (defScope st) f cdv A outer s H E).nox (defBody st) t ∧ t { nx := fun _ H' => Q .non H', rt := Q } (start N vs) H) : FnG P w K mg base CX0 (k + 1) f fd ps sp :=
  body_of F S len fun cdv A outer s H vs Q E gu hr hyp => by
    obtain ⟨t, h1, h2⟩ := body cdv A outer s H vs Q E gu hr hyp
    exact ⟨t, h1.nox, h2⟩
end
section
variable {X : Cx} {CX : CXT} {k : Nat} {f : Addr} {fd : FuncData} {ps ks : List Str} {sp : Sp} {E : XK} {x : Str} {p pos : Pos} {e : Expr} {es : List Expr} {t tk : TA} {kws : List Keyword} {g : List Value → List Value → List Value} {gV : List V → List V → List V}
theorem run_G {pins : List (Addr × Obj)} {σ : L2.St} {H : Hp} {s : Shared} {Q : VK} {us ws : List Value} {vs zs : List V} (F : FnG X.prog X.w X.K X.mg X.base CX k f fd ps sp) (gu : X.A.guards = some []) (hr : Room k X.A) (kb : KBinds X.K fd ps ks g gV) (hx : Passes CX X E)
    (I : Inv X pins σ H s) (r : Vals vs us) (rz : Vals zs ws) (hyp : sp (gV vs zs) H Q E) : wpAny (model X.prog X.w) X.A (call (.ref f) us (ks.zip ws)) (EP X pins σ Q) X.xe s := by
  have r2 := kb.rel r rz
  have hl : (g us ws).length = ps.length := by rw [← r2.length]; exact F.len _ _ _ _ hyp
  refine wpAny_call (codeAny_mono (F.run X.A X.stack s H ⟨us, ks.zip ws⟩ (g us ws) _ Q E gu hr I.env0 (kb.to s us ws I.kIn hl) r2 hyp) fun rr s' hq => ?_)
  match rr, hq with
  | .error er, z => exact hx pins σ H s er s' I z
  | .ok .next, z => exact False.elim z
  | .ok .brk, z => exact False.elim z
  | .ok .cont, z => exact False.elim z
  | .ok (.ret u), z => exact I.after z
/-- by place alone -/
theorem kb_place {K : PySem.W.Frag} (b : Binds K fd ps []) : KBinds K fd ps [] (fun us _ => us) (fun vs _ => vs) := by
  refine ⟨fun s us ws X hl => ?_, fun r1 _ => r1⟩
  have h := b s us X (by rw [List.append_nil]; exact hl)
  rw [List.append_nil] at h
  cases ws <;> exact h
theorem pe_callG (F : FnG X.prog X.w X.K X.mg X.base CX k f fd ps sp) (gu : X.A.guards = some []) (hr : Room k X.A) (hg : Gl X x) (hm : X.mg x = some (.ref f)) (hk : PySem.W.keepIn X.K (.ref f) = true) (b : Binds X.K fd ps []) (hx : Passes CX X E) (ha : PA X (e :: es) t)
    (hdb : (x == ("__debug__" : Str)) = false := by decide) (he : starEach (e :: es) X.env = (false, eval e X.env) :: starEach es X.env := by rfl) (hpl : (backTo pos (starEach es X.env)).any (·.1) = false := by rfl) :
    PE X (.Call (.Name x p) (e :: es) [] pos) (fun σ H Q => t σ H fun vs H1 => sp vs H1 Q E) := by
  refine ⟨fun pins s σ H Q I hyp => wpAny_Call_Name_kw (ld_glob I hg hm ?_ hdb)⟩
  refine PySem.W.callWith_K (h₀ := X.base) I.ok.mod.kin hk (thn (ha.run pos pins s σ H _ I hyp) fun us s1 ⟨vs, H1, I1, r, q⟩ => ⟨I1.kIn, ?_⟩) he hpl
  exact run_G (ks := []) (ws := []) (zs := []) F gu hr (kb_place b) hx I1 r .nil q
end
end G5

set_option maxHeartbeats 4000000
namespace G6
open PySem PySem.Spec PyProof.Rows L2
/-- a dict with one text for a key and the empty list behind it -/
def DictB (H : Hp) (z : Str) (d : Addr) : Prop := ∃ i, H d = some (.dK [(Sum.inr z, .ref i)]) ∧ H i = some (.lst [])
def tB (z : Str) : Str := dictText [reprText z ++ ": " ++ "[]"]
section
variable {X : Cx} {pins : List (Addr × Obj)} {σ : L2.St} {H : Hp} {s : Shared} {d : Addr} {z : Str}
structure AtB (h : Heap) (prog : Program) (w : World) (d i : Addr) (z : Str) : Prop where
  di : d ≠ i
  dict : ∃ o es n, h.get? d = some o ∧ o.cls = .type "dict" ∧ o.data = .dict es n ∧ (d == sysModules) = false ∧ ReprEntriesK prog w [i] h 0 es.toList [reprText z ++ ": " ++ "[]"]
  emp : ∃ o n, h.get? i = some o ∧ o.cls = .type "list" ∧ o.data = .seq #[] n
theorem at_b (I : Inv X pins σ H s) (hz : (reprText z).length ≤ sizeLine) (h : DictB H z d) : ∃ i, AtB s.heap X.prog X.w d i z ∧ H i = some (.lst []) := by
  obtain ⟨i, hd, hi⟩ := h
  obtain ⟨_, its, n, rv, ei⟩ := (show ObjOk X.prog X.w H s.heap i (.lst []) from I.hok i _ hi)
  cases rv
  obtain ⟨_, nsys, vs, kv, o, es, ep, eo, ex, dt, ks, prs, _⟩ := (show ObjOk X.prog X.w H s.heap d (.dK [(Sum.inr z, .ref i)]) from I.hok d _ hd)
  have hdi : d ≠ i := ne_of hd hi (by intro q; cases q)
  refine ⟨i, ⟨hdi, ⟨o, es, ep, eo, ex.1, dt, nsys, ?_⟩, ⟨_, n, ei, rfl, rfl⟩⟩, hi⟩
  match vs, kv with
  | [(k', u)], .cons r1 .nil =>
    have e1 : k' = Sum.inr z := r1.1.symm
    have e2 : u = Value.ref i := r1.2
    subst e1 e2
    generalize es.toList = l at prs ⊢
    match l, prs with
    | [e], .cons p1 p2 .nil =>
      obtain ⟨key, t, e3, e4⟩ : ∃ x t, (Sum.inr z : Key) = Sum.inr x ∧ e.key = Value.str x t := by
        rcases keyIs_shape (show keyIs (Sum.inr z) e.key = true from p1) with ⟨_, _, q, _⟩ | ⟨x, t, q1, q2⟩
        · cases q
        · exact ⟨x, t, q1, q2⟩
      cases e3
      refine .cons ?_ ?_ .nil
      · rw [e4]
        exact .of_is (ReprIs.str z t hz) _ _ _
      · rw [show e.val = Value.ref i from p2]
        exact ReprK.listEmpty ei rfl rfl
/-- repr of such a dict, and of a list of the same over and over -/
def rReprB : List V → Hp → VK → Prop := fun xs H Q => ∃ (z : Str) (d : Addr), (reprText z).length ≤ 100 ∧ (tB z).length ≤ 200 ∧ DictB H z d ∧ ((xs = [.ref d] ∧ Q (.str (tB z)) H) ∨
  ∃ (l : Addr) (n : Nat), xs = [.ref l] ∧ H l = some (.lst (List.replicate (n + 1) (.ref d))) ∧ n ≤ 100 ∧ Q (.str (listText (List.replicate (n + 1) (tB z)))) H)
theorem vals_same {d : Addr} : ∀ {n : Nat} {its : List Value}, Vals (List.replicate n (V.ref d)) its → its = List.replicate n (Value.ref d)
  | 0, _, .nil => rfl
  | n + 1, _, r => by
    rw [List.replicate_succ] at r
    cases r with
    | cons r1 r2 =>
      cases r1
      rw [vals_same r2, List.replicate_succ]
theorem call_reprB (gu : X.A.guards = some []) (ro : X.A.units + 64 < cLine) : CallR X (.builtin "repr") rReprB := by
  intro pins s σ H xs us Q I rel hyp
  obtain ⟨z, d, hz, ln, hb, hyp⟩ := hyp
  have hz2 : (reprText z).length ≤ sizeLine := Nat.le_trans hz (by decide)
  obtain ⟨i, B, hi⟩ := at_b I hz2 hb
  obtain ⟨o, es, n, eo, ec, ed, nsys, ent⟩ := B.dict
  have one : ReprK X.prog X.w [d, i] s.heap 1 (.ref d) (tB z) := ReprK.dict eo ec ed nsys (by simp [B.di]) ent
  rcases hyp with ⟨rfl, fin⟩ | ⟨l, n, rfl, hl, hn, fin⟩
  · obtain ⟨u, rfl, ru⟩ := vals1 rel
    obtain rfl : u = Value.ref d := ru
    refine call_repr_slot (by omega) ⟨o, eo, ec⟩ F.slot_dict_repr (call_dict_reprK (d := 0) eo ec ed nsys (by simp [B.di]) ent gu (fun b _ => Clear.nil b) (by show X.A.units + 1 + 1 < cLine; omega) (fun _ _ e => e) (fun h' u tk k => ⟨_, _, rfl, .str _, H, I.kept k, ⟨_, rfl⟩, fin⟩) (Nat.le_trans ln (by decide)))
  · obtain ⟨u, rfl, ru⟩ := vals1 rel
    obtain rfl : u = Value.ref l := ru
    obtain ⟨_, its, m, rv, el⟩ := (show ObjOk X.prog X.w H s.heap l (.lst (List.replicate (n + 1) (.ref d))) from I.hok l _ hl)
    have eit := vals_same rv
    subst eit
    have hld : l ≠ d := by
      obtain ⟨i', hd, _⟩ := hb
      exact ne_of hl hd (by intro q; cases q)
    have hli : l ≠ i := ne_of hl hi (by intro q; rw [List.replicate_succ] at q; cases q)
    rw [List.replicate_succ] at el
    refine call_repr_slot (by omega) ⟨_, el, rfl⟩ F.slot_list_repr.toG (call_list_reprK (as := [d, i]) (d := 1) (ts := List.replicate (n + 1) (tB z)) el rfl rfl (by simp [hld, hli]) (by simp) (fun j y ej => ?_) gu (fun b _ => Clear.nil b) (by show X.A.units + 1 + (1 + 1) < cLine; omega) (fun _ _ e => e)
      (fun h' u tk k => ⟨_, _, rfl, .str _, H, I.kept k, ⟨_, rfl⟩, fin⟩) ?_)
    · rw [← List.replicate_succ, List.getElem?_toArray] at ej
      have hj : j < n + 1 := by
        have := (List.getElem?_eq_some_iff.mp ej).1
        rwa [List.length_replicate] at this
      rw [List.getElem?_replicate, if_pos hj] at ej
      obtain rfl : Value.ref d = y := Option.some.inj ej
      refine ⟨tB z, ?_, one⟩
      rw [List.getElem?_replicate, if_pos hj]
    · refine Nat.le_trans (listText_len_le _) ?_
      rw [List.map_replicate, List.sum_replicate_nat, List.length_replicate]
      refine Nat.le_trans (show (n + 1) * (tB z).length + 2 * (n + 1) + 3 ≤ 101 * 200 + 2 * 101 + 3 from ?_) (by decide)
      have := Nat.mul_le_mul (show n + 1 ≤ 101 by omega) ln
      omega
end
end G6

set_option maxHeartbeats 4000000
namespace E1
open PySem PySem.W Builtin Builtin.ObjectAttr
section
variable {prog : Program} {w : World} {A : Around} {R : Result → Shared → Prop} {hp : Heap} {g : Array GenState} {d : Drawn} {t : Nat} {os : OsState}
/-- the first field of an own error's object -/
theorem field_first {B : String} {bmB : List Value} {K : Frag} {name : Str} {tk : Tok} {v : Value} {x C : Addr} {fv : Array Value} {cd : ClassData} (SF : StoreFacts B bmB "object.__setattr__" "object")
    (X : K.In hp) (at0 : hp.get? x = some { cls := .ref C, data := .fields fv }) (cl : clsIn K C = some cd) (has : cd.hasDict = true) (ov : excOver K C bmB = true) (tak : takerIn K C name = some none)
    (go : ∀ h' tk' dx, (∀ b o, b ≠ x → hp.get? b = some o → h'.get? b = some o) → hp.objs.size ≤ dx → dx ≠ x → h'.get? x = some { cls := .ref C, dict := some dx, data := .fields fv } →
      h'.Ns1 dx (fun y => if y = name then some v else none) → R (.ok (.ret .none)) ⟨h', g, d, tk', os⟩) :
    codeAny (model prog w) A (.call (.builtin "object.__setattr__") ⟨[.ref x, .str name tk, v], []⟩) R ⟨hp, g, d, t, os⟩ := by
  have I : InstAt hp x { cls := .ref C, data := .fields fv } C none := ⟨at0, rfl, rfl, trivial⟩
  have xs : x ≠ hp.objs.size := Nat.ne_of_lt (Heap.lt_size at0)
  have data : Looks (model prog w) hp (classData C) cd := looks_clsIn X cl
  refine osa_openX (s := ⟨hp, g, d, t, os⟩) SF X I ov tak fun b => ?_
  show wpAny _ _ (storeInOwnDict (.ref x) (.ref C) (.str name tk) name v b) _ _ _
  obtain ⟨nm, bs, mro, ns, qn, hd, sn, sb, ab, col, del⟩ := cd
  dsimp only at has
  subst has
  unfold storeInOwnDict ownDictForStores
  repeat (first | with_reducible refine HandSPX.store_in_new ?_ ?_ | with_reducible refine wpAny_loadPart_at at0 ?_ | with_reducible refine data.at ?_ | wp_step)
  · exact ⟨_, #[], _, (Heap.get?_update_ne _ _ _ _ xs.symm).trans (Heap.get?_push_at rfl rfl), rfl, fun e he => absurd he (by simp), fun _ => rfl⟩
  · intro h' tk' isNs but
    have at1 : (hp.push { cls := .type "dict", data := .dict #[] }).get? x = some { cls := .ref C, data := .fields fv } := Heap.get?_push_of_some _ at0
    refine go h' tk' hp.objs.size (fun b o nb ob => ?_) (Nat.le_refl _) xs.symm ?_ isNs
    · exact (but.2 b (Nat.ne_of_lt (Heap.lt_size ob))).trans ((Heap.get?_update_ne _ _ _ _ nb).trans (Heap.get?_push_of_some _ ob))
    · exact (but.2 x xs).trans (Heap.get?_update_self _ at1 rfl)
/-- a further one -/
theorem field_more {B : String} {bmB : List Value} {K : Frag} {name : Str} {tk : Tok} {v : Value} {x C dx : Addr} {fv : Array Value} {cd : ClassData} {m0 : Str → Option Value} {nl : List Str} (SF : StoreFacts B bmB "object.__setattr__" "object")
    (X : K.In hp) (at0 : hp.get? x = some { cls := .ref C, dict := some dx, data := .fields fv }) (nsD : hp.Ns1 dx m0) (wi : Within m0 nl) (few : nl.length ≤ 1000) (cl : clsIn K C = some cd) (has : cd.hasDict = true) (ov : excOver K C bmB = true) (tak : takerIn K C name = some none)
    (go : ∀ h' tk', (∀ b o, b ≠ dx → hp.get? b = some o → h'.get? b = some o) → h'.Ns1 dx (fun y => if y = name then some v else m0 y) → R (.ok (.ret .none)) ⟨h', g, d, tk', os⟩) :
    codeAny (model prog w) A (.call (.builtin "object.__setattr__") ⟨[.ref x, .str name tk, v], []⟩) R ⟨hp, g, d, t, os⟩ := by
  obtain ⟨oD, esD, epD, hoD, hdD, _⟩ := nsD.count wi
  have I : InstAt hp x { cls := .ref C, dict := some dx, data := .fields fv } C (some oD) := ⟨at0, rfl, rfl, hoD⟩
  have data : Looks (model prog w) hp (classData C) cd := looks_clsIn X cl
  refine osa_openX (s := ⟨hp, g, d, t, os⟩) SF X I ov tak fun b => ?_
  show wpAny _ _ (storeInOwnDict (.ref x) (.ref C) (.str name tk) name v b) _ _ _
  obtain ⟨nm, bs, mro, ns, qn, hd, sn, sb, ab, col, del⟩ := cd
  dsimp only at has
  subst has
  unfold storeInOwnDict ownDictForStores
  repeat (first | with_reducible refine OEX.store_in_old nsD wi few ?_ | with_reducible refine wpAny_loadPart_at at0 ?_ | with_reducible refine data.at ?_ | wp_step)
  intro h' tk' isNs but
  exact go h' tk' (fun b o nb ob => (but.2 b nb).trans ob) isNs
end
end E1

set_option maxHeartbeats 4000000
namespace E2
open PySem PySem.Spec PyProof.Rows L2
/-- what is needed of a built-in __init__ -/
structure InitF (cls initId : String) : Prop where
  kind : builtinKind initId = some .slot
  row : Manifest.signature? initId = some ⟨.positional, "*", cls, .self, [⟨"args", .varPos, false⟩]⟩
  star : (cls != "*") = true
  plain : plainId initId = true
  entry : entryFor table initId = some Builtin.«BaseException.__init__»
theorem InitF.of {cls newId initId : String} (F : ExcCallFacts cls newId initId) : InitF cls initId := ⟨F.initKind, F.initRow, F.noStar, F.init.plain, F.initEntry⟩
/-- the built-in class that own error classes stand under: B gives __new__, Bs is the class itself, bmB its order -/
structure Under (B newId initId Bs : String) (bmB : List Value) : Prop where
  eb : ∃ i bmE, ExcBaseFacts B newId i bmE
  inf : InitF Bs initId
  kx : PySem.W.KxsFacts Bs initId
  sf : StoreFacts Bs bmB "object.__setattr__" "object"
  hasB : bmB.contains (.type B) = true
  noA : bmB.contains (.type "AttributeError") = false
  noN : bmB.contains (.type "NameError") = false
/-- what the written part says of an own error class at C, its __init__ at fI -/
structure ExC (K : PySem.W.Frag) (C fI : Addr) (B newId initId Bs : String) (bmB : List Value) : Prop where
  un : Under B newId initId Bs bmB
  made : PySem.W.excInitIn K C bmB newId = true
  ov : PySem.W.excOver K C bmB = true
  cls : ∃ cd, PySem.W.clsIn K C = some cd ∧ cd.hasDict = true
  sa : PySem.W.findIn K (.ref C) "__setattr__" = some (some (.builtin "object.__setattr__"))
  ini : PySem.W.findIn K (.ref C) "__init__" = some (some (.ref fI))
  isF : PySem.W.isFn K (.ref fI) = true
  sup : PySem.W.ks_superIn K C C "__init__" = some (some (.builtin initId))
  sub : PySem.W.subIn K (.ref C) (.type Bs) = some true
  self : PySem.W.subIn K (.ref C) (.ref C) = some true
  op : PySem.W.nsIn K cStatics "thirdparty.any" = some none
  exC : PySem.W.subIn K (.ref C) (.type "BaseException") = some true
  tyC : PySem.W.typeIn K (.ref C) = some (.type "type")
  kC : PySem.W.keepIn K (.ref C) = true
section
variable {X : Cx} {pins : List (Addr × Obj)} {σ : L2.St} {H : Hp} {s : Shared} {a C dx : Addr} {f : Str} {y : V} {u : Value} {fs : List (Str × V)} {Q : Unit → Shared → Prop} {E : Value → Shared → Prop} {A : Around} {fI : Addr} {B newId initId Bs : String} {bmB : List Value}
theorem ext_ne {φ : Heap → Prop} {o : HO} (h : ∀ ψ, o ≠ .ext ψ) : HO.ext φ ≠ o := fun z => h φ z.symm
/-- the object gets its dict -/
theorem inv_first {hp h' : Heap} {g : Array GenState} {dr : Drawn} {t tk' : Nat} {os : OsState} {t1 : Addr} {mA : Str → Option Value} (I : Inv X pins σ H ⟨hp, g, dr, t, os⟩) (e : H a = some (exo a C none))
    (k : ∀ b o, b ≠ a → hp.get? b = some o → h'.get? b = some o) (dn : hp.objs.size ≤ dx) (dne : dx ≠ a) (hx : h'.get? a = some ({ cls := .ref C, dict := some dx, data := .fields #[.ref t1, .none, .none, .none, .bool false, .none] } : Obj))
    (hn : h'.Ns1 dx mA) (rel : ∀ f, RelO (fs.lookup f) (mA f)) : H dx = none ∧ Inv X pins σ (upd (upd H dx (exd dx fs)) a (exo a C (some dx))) ⟨h', g, dr, tk', os⟩ := by
  have new : H dx = none := I.hok.fresh dn
  have offD : ∀ {b : Addr} {o : Obj}, hp.get? b = some o → b ≠ dx := fun {b o} q => Nat.ne_of_lt (Nat.lt_of_lt_of_le (Heap.lt_size q) dn)
  have offA : ∀ {b : Addr}, H b = none → b ≠ a := fun {b} n z => by
    rw [z, e] at n
    cases n
  have keepU : ∀ {b : Addr} {o : HO}, H b = some o → (∀ ψ, o ≠ .ext ψ) → upd (upd H dx (exd dx fs)) a (exo a C (some dx)) b = some o := fun {b o} q ne => by
    have ba : b ≠ a := at_ne e q (ext_ne ne)
    rw [upd_ne ba, upd_ne (ne_of_none q new)]
    exact q
  have U : Un X.fs [] H (upd (upd H dx (exd dx fs)) a (exo a C (some dx))) hp h' :=
    { keep := fun b o q n _ _ => k b o (offA n) q
      slot := fun b o q n _ _ => ⟨o.slots, k b o (offA n) q⟩
      free := fun b o q n _ => by
        rw [upd_ne (offA n), upd_ne (offD q)]
        exact n
      there := fun b o q _ => by
        by_cases ba : b = a
        · rw [ba]
          exact ⟨_, hx⟩
        · exact ⟨o, k b o ba q⟩
      tups := fun b xs q => keepU q fun ψ z => by cases z
      frzs := fun b o v q => keepU q fun ψ z => by cases z
      tbls := fun b ps q => ⟨#[], by rw [keepU q fun ψ z => by cases z]; simp⟩ }
  refine ⟨new, I.un (t' := tk') U fun b o q => ?_⟩
  by_cases ba : b = a
  · subst ba
    rw [upd_same] at q
    cases q
    exact exo_ok hx
  · rw [upd_ne ba] at q
    by_cases bd : b = dx
    · subst bd
      rw [upd_same] at q
      cases q
      exact exd_ok hn rel
    · rw [upd_ne bd] at q
      refine (I.hok b o q).stay (fun c v hc z => k c v ?_ z) (fun c hc => keepU hc fun ψ z => by cases z) (fun c xs hc => keepU hc fun ψ z => by cases z)
      rcases hc with hc | hc
      · rw [hc]
        exact ba
      · exact at_ne e hc exo_own
/-- self.f = y, the first -/
theorem keep_first (T : ExC X.K C fI B newId initId Bs bmB) (I : Inv X pins σ H s) (e : H a = some (exo a C none)) (tak : PySem.W.takerIn X.K C f = some none) (ry : RelV y u)
    (go : ∀ dx s', H dx = none → dx ≠ a → Inv X pins σ (upd (upd H dx (exd dx [(f, y)])) a (exo a C (some dx))) s' → Q () s') : wpAny (model X.prog X.w) A (setAttr (.ref a) f u) Q E s := by
  obtain ⟨cd, cl, has⟩ := T.cls
  obtain ⟨t1, at0⟩ := exo_at I.hok e
  obtain ⟨hp, g, dr, t, os⟩ := s
  refine PySem.W.set_plain I.kIn (ox := { cls := .ref C, dict := none, data := .fields #[.ref t1, .none, .none, .none, .bool false, .none] }) (od := none) ⟨at0, rfl, rfl, trivial⟩ T.sa ?_
  refine E1.field_first T.un.sf I.kIn at0 cl has T.ov tak fun h' tk' dx k dn dne hx hn => ?_
  have J := inv_first (tk' := tk') (fs := [(f, y)]) I e k dn dne hx hn (relO_put (fs := []) ry fun _ => True.intro)
  exact go dx _ J.1 dne J.2
/-- self.f = y, a further one -/
theorem keep_more (T : ExC X.K C fI B newId initId Bs bmB) (I : Inv X pins σ H s) (e : H a = some (exo a C (some dx))) (ed : H dx = some (exd dx fs)) (few : fs.length ≤ 900) (tak : PySem.W.takerIn X.K C f = some none) (ry : RelV y u)
    (go : ∀ s', Inv X pins σ (upd H dx (exd dx ((f, y) :: fs))) s' → Q () s') : wpAny (model X.prog X.w) A (setAttr (.ref a) f u) Q E s := by
  obtain ⟨cd, cl, has⟩ := T.cls
  obtain ⟨t1, at0⟩ := exo_at I.hok e
  obtain ⟨mA, nsD, rel⟩ := exd_at I.hok ed
  have wi := within_of rel
  obtain ⟨hp, g, dr, t, os⟩ := s
  obtain ⟨oD, _, _, hoD, _, _⟩ := nsD.count wi
  refine PySem.W.set_plain I.kIn (ox := { cls := .ref C, dict := some dx, data := .fields #[.ref t1, .none, .none, .none, .bool false, .none] }) (od := some oD) ⟨at0, rfl, rfl, hoD⟩ T.sa ?_
  refine E1.field_more T.un.sf I.kIn at0 nsD wi (by rw [List.length_map]; omega) cl has T.ov tak fun h' tk' k hn => ?_
  have there : ∃ o, h'.get? dx = some o := by
    obtain ⟨o, _, _, e', _⟩ := hn
    exact ⟨o, e'⟩
  exact go _ (I.write (t' := tk') (x := dx) (e := dx) (o := exd dx ((f, y) :: fs)) (by rw [ed]; exact True.intro) (.inl rfl) k there (exd_ok hn (relO_put ry rel)))
end
/-- self.f = e in an own error's __init__ -/
def tKeep (K : PySem.W.Frag) (f : Str) (to te : TE) : TS := fun D σ H => te σ H fun y H1 => to σ H1 fun x H2 => ∃ (a C fI : Addr) (B newId initId Bs : String) (bmB : List Value), x = .ref a ∧ ExC K C fI B newId initId Bs bmB ∧ PySem.W.takerIn K C f = some none ∧
  ((H2 a = some (exo a C none) ∧ ∀ dx, H2 dx = none → dx ≠ a → D.nx σ (upd (upd H2 dx (exd dx [(f, y)])) a (exo a C (some dx)))) ∨
    ∃ (dx : Addr) (fs : List (Str × V)), H2 a = some (exo a C (some dx)) ∧ H2 dx = some (exd dx fs) ∧ fs.length ≤ 900 ∧ D.nx σ (upd H2 dx (exd dx ((f, y) :: fs))))
theorem ps_keep {X : Cx} {o e : Expr} {to te : TE} {f : Str} {p' pos : Pos} (ho : PE X o to) (he : PE X e te) (hs : swapsWith e (some (.Attribute o f p')) pos.line X.env = pure false := by rfl) : PS X (.Assign [.Attribute o f p'] e pos) (tKeep X.K f to te) := by
  refine ⟨fun pins s σ H D I hyp => plainObj_wpAny_Assign_Attribute (thn (he.run pins s σ H _ I hyp) fun v s1 ⟨y, H1, I1, r1, q1⟩ => thn (ho.run pins s1 σ H1 _ I1 q1) fun u s2 ⟨x, H2, I2, r2, a, C, fI, B, n, i, b2, bm, ex, T, tak, q⟩ => ?_) hs⟩
  subst ex
  obtain rfl : u = Value.ref a := r2
  rcases q with ⟨ea, q⟩ | ⟨dx, fs, ea, ed, few, q⟩
  · exact keep_first T I2 ea tak r1 fun dx s' n ne J => ⟨σ, _, J, q dx n ne⟩
  · exact keep_more T I2 ea ed few tak r1 fun s' J => ⟨σ, _, J, q⟩
end E2

set_option maxHeartbeats 4000000
namespace E3
open PySem PySem.Spec PyProof.Rows L2 E2
/-- a def within a class that says super(): it keeps the class -/
abbrev fnCl (nm ql : Str) (pr : Arguments) (bd : List Stmt) (sc : Scope) (kV doc pm : Value) (an : Option Addr) (cdv ct : Value) (cl : Addr) : FuncData := { PySem.W.fnOf nm ql pr bd sc .none kV doc pm an cdv ct with closure := [("__class__", cl)] }
structure InitFn (P : Program) (K : PySem.W.Frag) (C f : Addr) (ql : Str) (pr : Arguments) (bd : List Stmt) (sc : Scope) (fd : FuncData) : Prop where
  ex : ∃ (oc kV doc pm cdv ct : Value) (od an : Option Addr) (osl : Array (Option Value)) (cl cc : Addr) (ocl occ : Obj) (vs : Array Value) (file : Str) (tf : Tok),
    fd = fnCl "__init__" ql pr bd sc kV doc pm an cdv ct cl ∧ K.lookup f = some ⟨oc, od, .func fd, osl⟩ ∧ PySem.W.codeIn K cdv ql = true ∧ K.lookup cl = some ocl ∧ ocl.data = .cell (some (.ref C)) ∧
    cdv = .ref cc ∧ K.lookup cc = some occ ∧ occ.data = .fields vs ∧ vs[2]? = some (.str file tf) ∧ ((P.main.file : Str) == file) = true
  top : (P.main.scope.names.lookup ("super" : Str)).isSome = false
/-- its names -/
structure InitScope (N ps : List Str) (sc : Scope) : Prop where
  kind : sc.kind = .function
  co : sc.isCoroutine = false
  gen : sc.isGenerator = false
  nd : N.Nodup
  is : N = ps
  par : ∀ x ∈ ps, sc.names.lookup x = some .local
  nocell : ∀ y ∈ sc.names, y.2 ≠ .cell
  only : ∀ y ∈ sc.names, y.2 = .free → y.1 = Str.ofString "__class__"
  cls : sc.names.lookup (Str.ofString "__class__") = some .free
  sup : sc.names.lookup (Str.ofString "super") = some .globalImplicit
def cxI (P : Program) (w : World) (K : PySem.W.Frag) (mg : Str → Option Value) (base : Heap) (N : List Str) (fd : FuncData) (f : Addr) (A : Around) (outer : List Env) (s : Shared) (H : Hp) : Cx where
  prog := P
  w := w
  K := K
  mg := mg
  base := base
  A := A.deeper (callEnv fd s.heap.objs.size f)
  N := N
  s_0 := s
  H_0 := H
  env := callEnv fd s.heap.objs.size f
  outer := outer
  stack := callEnv fd s.heap.objs.size f :: outer
  ex := []
  calm := true
  fn := fun _ => false
  pn := []
  xe := fun _ _ => False
theorem zip_look : ∀ {ps : List Str} {us : List Value} {i : Nat} {x : Str} {u : Value}, ps.Nodup → ps[i]? = some x → us[i]? = some u → (ps.zip us).reverse.lookup x = some u := by
  intro ps us i x u nd hp hu
  have mem : (x, u) ∈ (ps.zip us).reverse := by
    rw [List.mem_reverse]
    refine List.mem_of_getElem? (i := i) ?_
    rw [List.getElem?_zip_eq_some]
    exact ⟨hp, hu⟩
  have uni : ∀ (l : List (Str × Value)), (∀ v, (x, v) ∈ l → v = u) → (x, u) ∈ l → l.lookup x = some u := by
    intro l
    induction l with
    | nil => intro _ h; cases h
    | cons p l ih =>
      intro h m
      obtain ⟨y, v⟩ := p
      by_cases e : x = y
      · subst e
        rw [List.lookup_cons, beq_self_eq_true]
        exact congrArg some (h v List.mem_cons_self)
      · have e2 : (x == y) = false := by simpa using e
        rw [List.lookup_cons, e2]
        refine ih (fun v' hv => h v' (List.mem_cons_of_mem _ hv)) ?_
        rcases List.mem_cons.mp m with q | q
        · exact absurd (Prod.mk.inj q).1 e
        · exact q
  refine uni _ (fun v hv => ?_) mem
  rw [List.mem_reverse] at hv
  obtain ⟨j, hj⟩ := List.getElem?_of_mem hv
  rw [List.getElem?_zip_eq_some] at hj
  have ej : j = i := (List.getElem?_inj (List.getElem?_eq_some_iff.mp hj.1).1 nd).mp (hj.1.trans hp.symm)
  rw [ej, hu] at hj
  exact (Option.some.inj hj.2).symm
section
variable {P : Program} {w : World} {K : PySem.W.Frag} {mg : Str → Option Value} {base : Heap} {C f : Addr} {ql : Str} {pr : Arguments} {bd : List Stmt} {sc : Scope} {N ps : List Str} {A : Around} {outer : List Env} {s : Shared} {H : Hp} {us : List Value} {vs : List V} {kV doc pm cdv ct : Value} {an : Option Addr} {cl : Addr} {h0 : Heap}
theorem start_init {ocl : Obj} (S : InitScope N ps sc) (hd : A.handled = none) (e0 : Env0 P w K mg base A outer s H) (hl : vs.length = ps.length) (r : Vals vs us) (lcl : K.lookup cl = some ocl) (dcl : ocl.data = .cell (some (.ref C)))
    (ns : h0.Ns s.heap.objs.size (fun x => (ps.zip us).reverse.lookup x)) (kp : ∀ b o, s.heap.get? b = some o → h0.get? b = some o) {t : Nat} :
    Inv (cxI P w K mg base N (fnCl "__init__" ql pr bd sc kV doc pm an cdv ct cl) f A outer s H) [] (start N vs) H { s with heap := h0, toks := t } := by
  have hNp := S.is
  subst hNp
  have inB : base.get? cl = some ocl := e0.mod.kin cl ocl lcl
  have inS := e0.bs cl ocl inB
  have oneC : ∀ {x : Str} {c : Addr}, (callEnv (fnCl "__init__" ql pr bd sc kV doc pm an cdv ct cl) s.heap.objs.size f).cells.lookup x = some c → x = "__class__" ∧ c = cl := by
    intro x c h
    have h : ([(Str.ofString "__class__", cl)] : List (Str × Addr)).lookup x = some c := h
    by_cases e : x = "__class__"
    · subst e
      rw [List.lookup_cons, beq_self_eq_true] at h
      exact ⟨rfl, (Option.some.inj h).symm⟩
    · have e2 : (x == (Str.ofString "__class__")) = false := by simpa using e
      rw [List.lookup_cons, e2] at h
      cases h
  refine ⟨⟨e0.mod, S.kind, rfl, rfl, Nat.le_refl _, fun x y c h1 h2 => (oneC h1).1.trans (oneC h2).1.symm, fun x hx => ?_, fun x c h _ => ?_, fun _ => hd, Around.frames_deeper e0.frames, .inr ⟨rfl, rfl⟩, fun b z => G2.not_in_nil z, e0.bs, e0.bsz, fun b _ _ z => G2.not_in_nil z, fun b z => G2.not_in_nil z, e0.funs, e0.frf⟩,
    rfl, e0.bare, Un.kept kp, ⟨_, ns, fun i x v h1 h2 _ => ?_⟩, fun x c h => ?_, e0.hok.fresh (Nat.le_refl _), fun x c h => ?_, fun p z => G2.not_in_nil z, e0.hok.kept kp, ?_⟩
  · have hx : sc.names.lookup x = some .cell ∨ sc.names.lookup x = some .free := hx
    rcases hx with q | q
    · exact absurd rfl (S.nocell _ (PySem.mem_of_lookup q))
    · have e := S.only _ (PySem.mem_of_lookup q) rfl
      dsimp only at e
      subst e
      exact ⟨cl, rfl⟩
  · exact absurd h Bool.false_ne_true
  · have hi : i < vs.length := by
      by_cases q : i < vs.length
      · exact q
      · unfold L2.start at h2
        rw [List.getElem?_append_right (by simpa using q), List.getElem?_replicate] at h2
        split at h2 <;> cases h2
    have hv : vs[i]? = some v := by
      unfold L2.start at h2
      rw [List.getElem?_append_left (by simpa using hi), List.getElem?_map] at h2
      cases e : vs[i]? with
      | none => rw [e] at h2; cases h2
      | some z => rw [e] at h2; cases h2; rfl
    obtain ⟨u, hu, rv⟩ := r.get hv
    exact ⟨u, rv, .inl ⟨S.par x (List.mem_of_getElem? h1), zip_look S.nd h1 hu⟩⟩
  · obtain ⟨_, rfl⟩ := oneC h
    exact ⟨_, ocl, kp _ _ inS.1, dcl⟩
  · obtain ⟨_, rfl⟩ := oneC h
    exact inS.2
  · unfold L2.start
    show _ = N.length
    rw [List.length_append, List.length_map, List.length_replicate]
    omega
end
end E3

set_option maxHeartbeats 4000000
namespace E4
open PySem PySem.Spec PyProof.Rows L2 E2 E3
/-- a built-in __init__ bound to an own error may be called with anything by place -/
theorem bound_init {Mo : Model} {Ar : Around} {X : Value → Shared → Prop} {st : Shared} {top newId initId : String} (F : InitF top initId) {nm qn : Str} {C N x : Addr} {ox : Obj} {bases tail : List Value} {hasD : Bool} {sn : List Str} {subs : List Value} {abs : Bool} {col : Option Bool} {dd : Option Addr}
    {j0 j1 j2 j3 j5 : Option Value} {more : List Value} {R : Unit → Shared → Prop} (atC : st.heap.get? C = some (excClassObj nm qn C N bases tail hasD sn subs abs col dd j0 j1 j2 j3 j5 newId)) (atX : st.heap.get? x = some ox) (of : ox.cls = .ref C) (fin : R () st) :
    wpAny Mo Ar (checkBoundCall initId ⟨.ref x :: more, []⟩) R X st := by
  obtain ⟨hp, gs, dr, tk, os⟩ := st
  have ns := F.star
  have free : ∀ (u v : String) (m : Nat), Bind.check ⟨.positional, "*", top, .self, [⟨"args", .varPos, false⟩]⟩ u v m [] = pure () := fun u v m => check_star_args _ _ _ _ _ _
  simp only [checkBoundCall, F.kind, F.row]
  repeat
    first
    | (with_reducible refine wpAny_loadPart_at atX ?_
       rw [of])
    | with_reducible refine wpAny_loadPart_at atC ?_
    | wp_step
  refine wpAny_onRaise ?_
  simp only [List.map_nil]
  rw [free]
  exact wpAny_pure fin
/-- the built-in __init__, bound to the object, is called -/
theorem call_bound {prog : Program} {w : World} {A : Around} {E : Value → Shared → Prop} {h : Heap} {g : Array GenState} {d : Drawn} {t : Nat} {os : OsState} {K : PySem.W.Frag} {C x u t0 : Addr} {B newId i : String} {bmB : List Value} {rest : List Value} {Q : Value → Shared → Prop}
    (X : K.In h) (FB : InitF B i) (made : PySem.W.excInitIn K C bmB newId = true) (at1 : h.get? x = some ({ cls := .ref C, dict := none, data := .fields #[.ref t0, .none, .none, .none, .bool false, .none] } : Obj)) (atU : h.get? u = some (PySem.W.kxs_mw i x)) (few : rest.length ≤ sizeLine)
    (go : ∀ h' t1, (∀ b o, b ≠ x → h.get? b = some o → h'.get? b = some o) → h'.get? x = some ({ cls := .ref C, dict := none, data := .fields #[.ref t1, .none, .none, .none, .bool false, .none] } : Obj) → Q .none ⟨h', g, d, t, os⟩) :
    wpAny (model prog w) A (call (.ref u) rest) Q E ⟨h, g, d, t, os⟩ := by
  obtain ⟨nm, N', qn, bs, bm, hdct, sn, sub, ab, col, dd, k0, k1, k2, k3, k5, hC, hT⟩ := PySem.W.excInit_of X made
  refine wpAny_call (codeAny_of_tree ?_)
  show wpAny _ A.in1 (callAny (.ref u) ⟨rest, []⟩) _ _ _
  simp only [callAny]
  refine wpAny_bind (wpAny_load atU ?_)
  have isW : (Value.type "method-wrapper" == Value.type "method" || Value.type "method-wrapper" == Value.type "builtin_function_or_method" || Value.type "method-wrapper" == Value.type "method-wrapper") = true := by decide
  simp only [PySem.W.kxs_mw, isW, if_true]
  refine PySem.W.KFB.if_so (by decide) ?_
  refine wpAny_bind (bound_init FB hC at1 rfl ?_)
  refine wpAny_bind (wpAny_pure (wpAny_pure ?_))
  refine ⟨plainId_quiet FB.plain _, codeAny_builtin FB.entry ?_⟩
  exact PySem.W.exc_init_tree (cls := .ref C) (t0 := t0) (dv := none) (c2 := .none) (c3 := .none) (b4 := .bool false) at1 few fun h' k e _ => go h' _ k e
/-- super().__init__('..'), self in the first place -/
abbrev supE (p0 p1 p2 p3 p4 : Pos) (z : Str) (k : Nat) : Expr := .Call (.Attribute (.Call (.Name "super" p0) [] [] p1) "__init__" p2) [.Constant (.str z) k p3] [] p4
section
variable {P : Program} {w : World} {K : PySem.W.Frag} {mg : Str → Option Value} {base : Heap} {C f : Addr} {ql : Str} {pr : Arguments} {bd : List Stmt} {sc : Scope} {ps : List Str} {A : Around} {outer : List Env} {s s1 : Shared} {H : Hp} {σ : L2.St} {cdv : Value}
variable {B newId initId Bs : String} {bmB : List Value} {fI : Addr}
theorem run_super {fd : FuncData} {pl : Sem Bool} {ar : Arg} {a : Addr} {p0 p1 p2 p3 p4 : Pos} {z : Str} {kk : Nat} {Q : Value → Shared → Prop} {E : Value → Shared → Prop} {body : List Stmt} (T : ExC K C f B newId initId Bs bmB) (F : InitFn P K C f ql pr bd sc fd) (S : InitScope ps ps sc)
    (hp : (pr.posonlyargs ++ pr.args).head? = some ar) (p0s : ps[0]? = some ar.arg) (ms : mg "super" = none) (I : Inv (cxI P w K mg base ps fd f A outer s H) [] σ H s1) (sl : σ[0]? = some (some (.ref a))) (ea : H a = some (exo a C none))
    (he : eval (supE p0 p1 p2 p3 p4 z kk) (callEnv fd s.heap.objs.size f) = (do
      let ov ← attributeBase (.Call (.Name "super" p0) [] [] p1) "__init__" (callEnv fd s.heap.objs.size f) (eval (.Call (.Name "super" p0) [] [] p1) (callEnv fd s.heap.objs.size f))
      standAt p2.atName
      let (m, first) ← holding [ov] (getMethod ov "__init__" pl)
      callWith p4 m first (backTo p4 (starEach [.Constant (.str z) kk p3] (callEnv fd s.heap.objs.size f))) []))
    (go : ∀ s2, Inv (cxI P w K mg base ps fd f A outer s H) [] σ H s2 → Q .none s2) :
    PySem.wpAt (model P w) (A.deeper (callEnv fd s.heap.objs.size f)) (.func body (callEnv fd s.heap.objs.size f)) (eval (supE p0 p1 p2 p3 p4 z kk) (callEnv fd s.heap.objs.size f)) Q E s1 := by
  obtain ⟨oc, kV, doc, pm, cdv, ct, od, an, osl, cl, cc, ocl, occ, vs, file, tf, rfl, lf, cod, lcl, dcl, rfl, lcc, dcc, vfile, isf⟩ := F.ex
  have KX := I.kIn
  obtain ⟨cd, hcl, hasD⟩ := T.cls
  have env0 : callEnv (fnCl "__init__" ql pr bd sc kV doc pm an (.ref cc) ct cl) s.heap.objs.size f = (cxI P w K mg base ps (fnCl "__init__" ql pr bd sc kV doc pm an (.ref cc) ct cl) f A outer s H).env := rfl
  obtain ⟨nm, N', qn, bs, bm, hdct, sn, sub, ab, col, dd, k0, k1, k2, k3, k5, hC, hT⟩ := PySem.W.excInit_of KX T.made
  obtain ⟨t0, atA⟩ := exo_at I.hok ea
  obtain ⟨m, hn, hv⟩ := I.loc
  obtain ⟨u, ru, look⟩ := hv 0 ar.arg (.ref a) p0s sl (.inl (S.par _ (List.mem_of_getElem? p0s)))
  obtain rfl : u = Value.ref a := ru
  have mself : m ar.arg = some (.ref a) := by
    rcases look with ⟨_, q⟩ | ⟨q, _⟩
    · exact q
    · have loc : sc.names.lookup ar.arg = some .local := S.par _ (List.mem_of_getElem? p0s)
      have q : sc.names.lookup ar.arg = some .cell ∨ sc.names.lookup ar.arg = some .free := q
      rw [loc] at q
      rcases q with q | q <;> cases q
  obtain ⟨mb, b1, b2⟩ := I.mod.blt
  refine PySem.ks_wpAt_MethodCall (PySem.ks_wpAt_super_base (f := f) (ar := ar) S.sup S.cls (by decide) rfl (KX _ _ lf) rfl hp rfl (KX _ _ lcc) dcc vfile isf F.top ?_) he
  rw [show loadName (callEnv (fnCl "__init__" ql pr bd sc kV doc pm an (.ref cc) ct cl) s.heap.objs.size f) "super" = loadGlobal (callEnv (fnCl "__init__" ql pr bd sc kV doc pm an (.ref cc) ct cl) s.heap.objs.size f) "super" from loadName_read S.kind S.sup]
  refine Calls.loadGlobal_builtin (mg := mg) (mb := mb) (show s1.heap.Ns mainGlobals mg from I.mod.glob.keeps I.bk) ms (show s1.heap.Ns builtinsNs mb from b1.keeps I.bk) ((b2 _ (by decide)).trans (show bootBuiltins "super" = some (.type "super") by decide +kernel)) ⟨rfl, ?_⟩
  refine wpAny_loadName_free S.kind S.cls (c := cl) rfl ⟨ocl, KX _ _ lcl, dcl⟩ ?_
  refine wpAny_loadName_local S.kind (S.par _ (List.mem_of_getElem? p0s)) hn mself ?_
  obtain ⟨hp1, g, dr, t, os⟩ := s1
  refine PySem.ks_wpAny_isType_cls hC rfl ⟨rfl, ?_⟩
  refine PySem.ks_wpAny_call_super hC rfl atA rfl (fun c z => by cases z) (PySem.W.looks_subIn KX T.self) fun h2 atS kS => ?_
  have K2 := KX.keeps kS
  have atA2 := kS _ _ atA
  have Ia : PySem.W.InstAt h2 a ({ cls := .ref C, dict := none, data := .fields #[.ref t0, .none, .none, .none, .bool false, .none] } : Obj) C none := ⟨atA2, rfl, rfl, trivial⟩
  have sup := T.sup
  unfold PySem.W.ks_superIn at sup
  rw [hcl] at sup
  refine PySem.W.kxs_getMethod T.un.kx atS (PySem.W.looks_opaque K2 T.op) (l₀ := cd.mro) (fun A Q E s k q => wpAny_bind ((PySem.W.looks_clsIn K2 hcl) A _ E s k (wpAny_pure q))) rfl K2 sup (Ia.type.andThen (PySem.W.looks_subIn K2 T.sub)) (PySem.W.ks_ne K2 Ia hcl) (by decide) ?_
  have k3' : ∀ b o, hp1.get? b = some o → (h2.push (PySem.W.kxs_mw initId a)).get? b = some o := fun b o e => Heap.get?_push_of_some _ (kS b o e)
  refine PySem.W.kxs_callWith (i := initId) (x := a) rfl (Calls.evalArgs_plain ?_)
  refine Calls.spliced_cons (Calls.Constant_str (k := kk) (pos := p3) ?_)
  refine Calls.spliced_nil ⟨?_, ?_⟩
  · exact Heap.get?_push_at rfl rfl
  · refine call_bound (KX.keeps k3') T.un.inf T.made (k3' _ _ atA) (Heap.get?_push_at rfl rfl) (by show 1 ≤ sizeLine; decide) fun h4 t1 k4 at4 => ?_
    refine go _ ?_
    have J := (I.kept (h' := h2.push (PySem.W.kxs_mw initId a)) (t' := 0) k3').write (t' := t + 1 + 1) (x := a) (e := a) (o := exo a C none) (by rw [ea]; exact True.intro) (.inl rfl) k4 ⟨_, at4⟩ (exo_ok at4)
    have eu : upd H a (exo a C none) = H := by
      funext b
      by_cases hb : b = a
      · rw [hb, upd_same, ea]
      · rw [upd_ne hb]
    rw [eu] at J
    exact J
end
end E4

set_option maxHeartbeats 4000000
namespace E5
open PySem PySem.Spec PyProof.Rows L2 E2 E3 E4
section
variable {P : Program} {w : World} {K : PySem.W.Frag} {mg : Str → Option Value} {base : Heap} {C f : Addr} {ql : Str} {pr : Arguments} {rest : List Stmt} {sc : Scope} {ps : List Str} {B newId initId Bs : String} {bmB : List Value} {p0 p1 p2 p3 p4 p5 : Pos} {z : Str} {kk : Nat}
/-- what is asked of the text of super().__init__('..') -/
structure SupOk (fd : FuncData) (f : Addr) (p0 p1 p2 p3 p4 p5 : Pos) (z : Str) (kk : Nat) : Prop where
  he : ∀ L : Addr, ∃ pl : Sem Bool, eval (supE p0 p1 p2 p3 p4 z kk) (callEnv fd L f) = (do
      let ov ← attributeBase (.Call (.Name "super" p0) [] [] p1) "__init__" (callEnv fd L f) (eval (.Call (.Name "super" p0) [] [] p1) (callEnv fd L f))
      standAt p2.atName
      let (m, first) ← holding [ov] (getMethod ov "__init__" pl)
      callWith p4 m first (backTo p4 (starEach [.Constant (.str z) kk p3] (callEnv fd L f))) [])
  hi : ∀ L : Addr, interactive (callEnv fd L f) = false
  hs : ∀ L : Addr, swapsWith (supE p0 p1 p2 p3 p4 z kk) none p5.line (callEnv fd L f) = pure false
theorem ok_init {CX : CXT} {sp : Sp} {fd : FuncData} {ar : Arg} {k : Nat} (T : ExC K C f B newId initId Bs bmB) (F : InitFn P K C f ql pr (.Expr (supE p0 p1 p2 p3 p4 z kk) p5 :: rest) sc fd) (S : InitScope ps ps sc) (hp : (pr.posonlyargs ++ pr.args).head? = some ar) (p0s : ps[0]? = some ar.arg)
    (ms : mg "super" = none) (U : SupOk fd f p0 p1 p2 p3 p4 p5 z kk) (len : ∀ vs H Q E, sp vs H Q E → vs.length = ps.length)
    (self : ∀ vs H Q E, sp vs H Q E → ∃ a ws, vs = .ref a :: ws ∧ H a = some (exo a C none))
    (body : ∀ (A : Around) (outer : List Env) (s : Shared) (H : Hp) (vs : List V) (Q : VK) (E : XK), sp vs H Q E → ∃ t, PSs (cxI P w K mg base ps fd f A outer s H) rest t ∧ t { nx := fun _ H' => Q .non H', rt := Q } (start ps vs) H) :
    FnOk P w K mg base CX (k + 1) f fd ps sp := by
  refine ⟨len, fun A outer s H args us vs Q E hr e0 hb r hyp => ?_⟩
  have F0 := F
  obtain ⟨oc, kV, doc, pm, cdv, ct, od, an, osl, cl, cc, ocl, occ, fv, file, tf, efd, lf, cod, lcl, dcl, ecd, lcc, dcc, vfile, isf⟩ := F.ex
  have inS : K.In s.heap := e0.mod.kin.keeps fun b o e => (e0.bs b o e).1
  have noL : s.heap.NoLimit := e0.mod.nolimit.keeps fun b o e => (e0.bs b o e).1
  have hl := len _ _ _ _ hyp
  obtain ⟨a, ws, ev, ea⟩ := self _ _ _ _ hyp
  obtain ⟨t, pt, tt⟩ := body A outer s H vs Q E hyp
  have hcd : s.heap.CodeRec fd.code fd.qualname := by rw [efd]; exact PySem.W.codeRec_of inS cod
  refine PySem.ks_codeAny_call_defAt (body := .Expr (supE p0 p1 p2 p3 p4 z kk) p5 :: rest) hr.depth (inS _ _ lf) rfl noL hcd (by rw [efd]) hb (by rw [efd]; exact S.nocell) (fun x hx => ?_) (fun h0 ns kp => ?_) (by rw [efd]; exact S.co) (by rw [efd]; exact S.gen) (by rw [efd]; exact S.kind)
  · obtain ⟨n, v⟩ := x
    rw [efd]
    exact S.par n (List.of_mem_zip hx).1
  · have I : Inv (cxI P w K mg base ps fd f A outer s H) [] (start ps vs) H { s with heap := h0, toks := s.toks + (ps.zip us).length } := by
      rw [efd]
      exact start_init S hr.hd e0 hl r lcl dcl ns kp
    obtain ⟨pl, he⟩ := U.he s.heap.objs.size
    refine PySem.ks_wpAt_execs_cons (PySem.ks_wpAt_Expr_any (run_super T F0 S hp p0s ms I (by rw [ev]; rfl) ea he fun s2 J => ?_) (U.hi _) (U.hs _))
    refine wpAt_of_wpAny (wpAny_mono (pt.run [] s2 _ H _ J tt) (fun fl s3 h3 => ?_) fun e s3 h3 => h3.elim)
    cases fl with
    | ret u =>
      obtain ⟨v, σ', H', J', rv, q⟩ := h3
      exact ⟨v, H', J'.os, J'.bare, J'.base, J'.hok, rv, q⟩
    | next =>
      obtain ⟨σ', H', J', q⟩ := h3
      exact ⟨.non, H', J'.os, J'.bare, J'.base, J'.hok, rfl, q⟩
    | brk =>
      obtain ⟨_, _, _, q⟩ := h3
      exact q.elim
    | cont =>
      obtain ⟨_, _, _, q⟩ := h3
      exact q.elim
end
end E5

set_option maxHeartbeats 4000000
namespace E6
open PySem PySem.W
section
variable {M : Model} {prog : Program} {w : World} {A : Around} {E : Value → Shared → Prop} {R : Result → Shared → Prop} {h : Heap} {g : Array GenState} {d : Drawn} {t : Nat} {os : OsState}
variable {nm q : Str} {C N : Addr} {bs bm bmB : List Value} {hdct : Bool} {sn : List Str} {sub : List Value} {ab : Bool} {col : Option Bool} {dd : Option Addr} {k0 k1 k2 k3 k5 : Option Value} {B newId initId : String} {kw : List (Str × Value)}
theorem may_new (F : ExcBaseFacts B newId initId bmB) (cB : (Value.ref C :: bm).contains (.type B) = true) {rest : List Value} {Q : Unit → Shared → Prop}
    (hC : h.get? C = some (excClassObj nm q C N bs bm hdct sn sub ab col dd k0 k1 k2 k3 k5 newId)) (go : Q () ⟨h, g, d, t, os⟩) : wpAny M A (checkBuiltinCall newId ⟨.ref C :: rest, kw⟩) Q E ⟨h, g, d, t, os⟩ := by
  have star := F.noStar
  simp only [checkBuiltinCall, F.newKind, F.newSplit, F.newRow]
  repeat (first | refine wpAny_loadPart_at hC ?_ | (refine wpAny_isSubtype_exc hC ?_; rw [cB]) | refine wpAny_staticBase_exc hC ?_ | refine wpAny_madeBy_exc hC ?_ | simp only [bne_self_eq_false, Bool.false_eq_true, if_false] | wp_step)
  exact go
theorem new_obj (F : ExcBaseFacts B newId initId bmB) (cB : (Value.ref C :: bm).contains (.type B) = true) (cA : (Value.ref C :: bm).contains (.type "AttributeError") = false) (cN : (Value.ref C :: bm).contains (.type "NameError") = false) {rest : List Value}
    (hC : h.get? C = some (excClassObj nm q C N bs bm hdct sn sub ab col dd k0 k1 k2 k3 k5 newId)) (few : rest.length ≤ sizeLine)
    (go : R (.ok (.ret (.ref (h.objs.size + 1)))) ⟨(h.push (kdv_tup rest)).push (HandSPX.excO C h.objs.size), g, d, t, os⟩) :
    codeAny (model prog w) A (.builtin newId ⟨.ref C :: rest, kw⟩) R ⟨h, g, d, t, os⟩ := by
  have ends := F.ends
  refine codeAny_builtinAt F.entry ?_
  unfold Builtin.«BaseException.__new__»
  refine wpAt_bind ?_
  show wpAt _ _ _ (stack >>= _) _ _ _
  refine wpAt_bind (wpAt_stack fun p below => wpAt_of_wpAny ?_)
  wp_walk
  refine wpAt_of_wpAny ?_
  rw [F.owner]
  repeat (first | with_reducible refine wpAny_madeHere_exc F.canon hC ?_ | with_reducible refine wpAny_loadPart_at hC ?_ | (with_reducible refine wpAny_isSubtype_exc hC ?_; first | rw [cB] | rw [cA] | rw [cN]) | wp_step)
  show R _ _
  rw [Heap.size_push]
  exact go
theorem run_type (F : ExcBaseFacts B newId initId bmB) (cB : (Value.ref C :: bm).contains (.type B) = true) (cA : (Value.ref C :: bm).contains (.type "AttributeError") = false) (cN : (Value.ref C :: bm).contains (.type "NameError") = false) {rest : List Value} {fI : Addr} {Q : Fin → Shared → Prop}
    (hC : h.get? C = some (excClassObj nm q C N bs bm hdct sn sub ab col dd k0 k1 k2 k3 k5 newId)) (ini : Looks (model prog w) h (typeLookup (.ref C) "__init__") (some (.ref fI))) (bnd : ∀ self, Looks (model prog w) h (bindSpecial (.ref fI) self) (.ref fI, [self])) (few : rest.length ≤ sizeLine)
    (go : codeAny (model prog w) A (.call (.ref fI) ⟨.ref (h.objs.size + 1) :: rest, kw⟩)
      (fun r s' => match r with | .ok (.ret v) => v = .none ∧ Q (.done (.ret (.ref (h.objs.size + 1)))) s' | .ok _ => False | .error e => E e s') ⟨(h.push (kdv_tup rest)).push (HandSPX.excO C h.objs.size), g, d, t, os⟩) :
    wpAny (model prog w) A (Builtin.«type.__call__» ⟨.ref C :: rest, kw⟩) Q E ⟨h, g, d, t, os⟩ := by
  have up : ∀ b o, h.get? b = some o → ((h.push (kdv_tup rest)).push (HandSPX.excO C h.objs.size)).get? b = some o := fun b o e => Heap.get?_push_of_some _ (Heap.get?_push_of_some _ e)
  have hC2 := up _ _ hC
  have mine : ((h.push (kdv_tup rest)).push (HandSPX.excO C h.objs.size)).get? (h.objs.size + 1) = some (HandSPX.excO C h.objs.size) := by heap_get
  have cC : (Value.ref C :: bm).contains (.ref C) = true := by simp
  have ini2 := ini.keeps up
  have bnd2 := (bnd (.ref (h.objs.size + 1))).keeps up
  repeat (first | with_reducible refine wpAny_loadPart_at hC ?_ | with_reducible refine wpAny_madeBy_exc hC ?_ | wp_step)
  refine codeAny_call_builtin_code (Code.quiet_builtin _ F.quiet) (may_new F cB hC (new_obj F cB cA cN hC few ?_))
  show wpAny _ _ _ _ _ _
  unfold isInstance
  repeat (first | with_reducible refine wpAny_loadPart_at mine ?_ | (with_reducible refine wpAny_isSubtype_exc hC2 ?_; rw [cC]) | wp_step)
  show wpAny _ _ (typeLookup (.ref C) _) _ _ _
  refine ini2.at (wpAny_holding (wpAny_bind (bnd2.at ?_)))
  refine wpAny_bind (wpAny_call (codeAny_mono go fun r s' z => ?_))
  rcases r with e | (v | _ | _ | _) <;> first | exact z | exact z.elim | skip
  obtain ⟨rfl, z⟩ := z
  first | exact wpAny_pure (wpAny_pure z) | (wp_walk; exact z)
theorem may_call {rest : List Value} {Q : Unit → Shared → Prop} (hC : h.get? C = some (excClassObj nm q C N bs bm hdct sn sub ab col dd k0 k1 k2 k3 k5 newId)) (go : Q () ⟨h, g, d, t, os⟩) :
    wpAny M A (checkBuiltinCall "type.__call__" ⟨.ref C :: rest, kw⟩) Q E ⟨h, g, d, t, os⟩ := by
  have l3 := tc_sub
  have isT : (⟨h, g, d, t, os⟩ : Shared).TypeIs (.ref C) "type" := ⟨_, hC, rfl⟩
  simp only [checkBuiltinCall, tc_kind, tc_split]
  repeat (any_goals (first | assumption | with_reducible refine wpAny_loadPart_at hC ?_ | with_reducible refine wpAny_onRaise ?_ | with_reducible refine wpAny_map ?_ | wp_step))
theorem call_made (F : ExcBaseFacts B newId initId bmB) (cB : (Value.ref C :: bm).contains (.type B) = true) (cA : (Value.ref C :: bm).contains (.type "AttributeError") = false) (cN : (Value.ref C :: bm).contains (.type "NameError") = false) {rest : List Value} {fI : Addr}
    (hC : h.get? C = some (excClassObj nm q C N bs bm hdct sn sub ab col dd k0 k1 k2 k3 k5 newId)) (ini : Looks (model prog w) h (typeLookup (.ref C) "__init__") (some (.ref fI))) (bnd : ∀ self, Looks (model prog w) h (bindSpecial (.ref fI) self) (.ref fI, [self])) (few : rest.length ≤ sizeLine)
    (go : codeAny (model prog w) (A.under (.builtin "type.__call__" ⟨.ref C :: rest, kw⟩)) (.call (.ref fI) ⟨.ref (h.objs.size + 1) :: rest, kw⟩) (InitBack (h.objs.size + 1) R) ⟨(h.push (kdv_tup rest)).push (HandSPX.excO C h.objs.size), g, d, t, os⟩) :
    codeAny (model prog w) A (.call (.ref C) ⟨rest, kw⟩) R ⟨h, g, d, t, os⟩ := by
  have l1 := tc_lookup
  have l2 := tc_bind (.ref C)
  have isT : (⟨h, g, d, t, os⟩ : Shared).TypeIs (.ref C) "type" := ⟨_, hC, rfl⟩
  refine codeAny_of_tree ?_
  show wpAny _ _ (callAny (.ref C) _) _ _ _
  repeat (any_goals (first | assumption | with_reducible refine wpAny_loadPart_at hC ?_ | wp_step))
  refine ⟨rfl, codeAny_call_builtin_at (Code.quiet_builtin _ (by decide +kernel)) entry_typeCall (may_call hC (run_type F cB cA cN hC ini bnd few ?_))⟩
  refine codeAny_mono go fun r s' z => ?_
  rcases r with e | (v | _ | _ | _) <;> exact z
end
end E6

set_option maxHeartbeats 4000000
namespace E7
open PySem PySem.Spec PyProof.Rows L2 E2 E3 E4 E5
/-- C(..), an own error as a value -/
def tErr (C : Addr) (sp : Sp) (gV : List V → List V → List V) (ta tk : TA) : TE := fun σ H Q => ta σ H fun vs H1 => tk σ H1 fun zs H2 => vs.length ≤ 1000 ∧
  ∀ a, H2 a = none → sp (gV (.ref a :: vs) zs) (upd H2 a (exo a C none)) (fun v H3 => v = .non ∧ Q (.ref a) H3) fun _ _ _ => False
section
variable {X : Cx} {pins : List (Addr × Obj)} {σ : L2.St} {H : Hp} {s : Shared} {C fI : Addr} {B newId initId Bs : String} {bmB : List Value} {k : Nat} {fd : FuncData} {ps ks : List Str} {sp : Sp} {g : List Value → List Value → List Value} {gV : List V → List V → List V} {vs zs : List V} {us ws : List Value} {Q : VK}
theorem tl_has {l : List Value} (z : String) (h : PySem.W.excTail bmB l = true) : (Value.ref C :: l).contains (.type z) = bmB.contains (.type z) := by
  rw [List.contains_cons, PySem.W.excTail_contains z l h]
  rfl
theorem run_err (T : ExC X.K C fI B newId initId Bs bmB) (F1 : FnOk X.prog X.w X.K X.mg X.base CX0 k fI fd ps sp) (hr : Room (k + 1) X.A) (kb : KBinds X.K fd ps ks g gV) (I : Inv X pins σ H s) (r : Vals vs us) (rz : Vals zs ws) (few : vs.length ≤ 1000)
    (hyp : ∀ a, H a = none → sp (gV (.ref a :: vs) zs) (upd H a (exo a C none)) (fun v H3 => v = .non ∧ Q (.ref a) H3) fun _ _ _ => False) :
    wpAny (model X.prog X.w) X.A (call (.ref C) us (ks.zip ws)) (EP X pins σ Q) X.xe s := by
  obtain ⟨_, bmE, eb⟩ := T.un.eb
  have KX := I.kIn
  obtain ⟨nm, N', qn, bs, bm, hdct, sn, sub, ab, col, dd, k0, k1, k2, k3, k5, hC, hT⟩ := PySem.W.excInit_of KX T.made
  have con : ∀ z : String, (Value.ref C :: bm).contains (.type z) = bmB.contains (.type z) := fun z => by
    rw [List.contains_cons, hT]
    rfl
  obtain ⟨hp, g0, dr, tk, os⟩ := s
  have new : H (hp.objs.size + 1) = none := I.hok.fresh (Nat.le_succ _)
  have hq := hyp (hp.objs.size + 1) new
  have up : ∀ b o, hp.get? b = some o → ((hp.push (PySem.W.kdv_tup us)).push (HandSPX.excO C hp.objs.size)).get? b = some o := fun b o e => Heap.get?_push_of_some _ (Heap.get?_push_of_some _ e)
  have mine : ((hp.push (PySem.W.kdv_tup us)).push (HandSPX.excO C hp.objs.size)).get? (hp.objs.size + 1) = some (HandSPX.excO C hp.objs.size) := by heap_get
  have I2 : Inv X pins σ (upd H (hp.objs.size + 1) (exo (hp.objs.size + 1) C none)) ⟨(hp.push (PySem.W.kdv_tup us)).push (HandSPX.excO C hp.objs.size), g0, dr, tk, os⟩ :=
    I.laid (t' := tk) (a := hp.objs.size + 1) (o := exo (hp.objs.size + 1) C none) (h' := (hp.push (PySem.W.kdv_tup us)).push (HandSPX.excO C hp.objs.size)) up (Nat.le_succ _) (exo_ok mine)
  have r1 : Vals (V.ref (hp.objs.size + 1) :: vs) (Value.ref (hp.objs.size + 1) :: us) := .cons rfl r
  have r2 := kb.rel r1 rz
  have hl : (g (Value.ref (hp.objs.size + 1) :: us) ws).length = ps.length := by
    rw [← r2.length, F1.len _ _ _ _ hq]
  have hus : us.length ≤ sizeLine := by
    rw [← Paired.length r, sizeLine_eq]
    omega
  obtain ⟨oI, hoI, hcI⟩ : ∃ oI, hp.get? fI = some oI ∧ oI.cls = .type "function" := by
    obtain ⟨o, ho, hc⟩ := Option.map_eq_some_iff.mp (show (X.K.lookup fI).map (·.cls) = some (.type "function") from beq_iff_eq.mp T.isF)
    exact ⟨o, KX _ _ ho, hc⟩
  refine wpAny_call (E6.call_made eb ((con B).trans T.un.hasB) ((con _).trans T.un.noA) ((con _).trans T.un.noN) hC (PySem.W.looks_findIn KX T.ini) (fun self => PySem.W.exc_bind hoI hcI self) hus ?_)
  refine codeAny_mono (F1.run _ X.stack _ _ ⟨Value.ref (hp.objs.size + 1) :: us, ks.zip ws⟩ (g (Value.ref (hp.objs.size + 1) :: us) ws) _ _ (fun _ _ _ => False) (hr.make C us (ks.zip ws)) (I2.env0.make C us (ks.zip ws)) (kb.to _ _ ws I2.kIn hl) r2 hq) fun rr s' hq' => ?_
  match rr, hq' with
  | .error er, z => exact z.elim
  | .ok .next, z => exact z.elim
  | .ok .brk, z => exact z.elim
  | .ok .cont, z => exact z.elim
  | .ok (.ret u), z =>
    obtain ⟨v, H3, I3, rv, ev, q3⟩ := I2.after z
    subst ev
    exact ⟨rv, .ref _, H3, I3, rfl, q3⟩
end
section
variable {X : Cx} {C fI : Addr} {B newId initId Bs : String} {bmB : List Value} {k : Nat} {fd : FuncData} {ps ks : List Str} {sp : Sp} {g : List Value → List Value → List Value} {gV : List V → List V → List V} {x : Str} {p pos : Pos} {e : Expr} {es : List Expr} {kws : List Keyword} {ta tk : TA}
/-- C(e, ..) -/
theorem pe_err (T : ExC X.K C fI B newId initId Bs bmB) (F1 : FnOk X.prog X.w X.K X.mg X.base CX0 k fI fd ps sp) (hr : Room (k + 1) X.A) (kb : KBinds X.K fd ps [] g gV) (hg : Gl X x) (hm : X.mg x = some (.ref C)) (ha : PA X (e :: es) ta)
    (hdb : (x == ("__debug__" : Str)) = false := by decide) (he : starEach (e :: es) X.env = (false, eval e X.env) :: starEach es X.env := by rfl) (hpl : (backTo pos (starEach es X.env)).any (·.1) = false := by rfl) :
    PE X (.Call (.Name x p) (e :: es) [] pos) (tErr C sp gV ta tNil) := by
  refine ⟨fun pins s σ H Q I hyp => wpAny_Call_Name_kw (ld_glob I hg hm ?_ hdb)⟩
  refine PySem.W.callWith_K (h₀ := X.base) I.ok.mod.kin T.kC (thn (ha.run pos pins s σ H _ I hyp) fun us s1 ⟨vs, H1, I1, r1, few, q1⟩ => ⟨I1.kIn, ?_⟩) he hpl
  exact run_err (ks := []) (ws := []) (zs := []) T F1 hr kb I1 r1 .nil few q1
/-- C(k = v, ..) -/
theorem pe_errK (T : ExC X.K C fI B newId initId Bs bmB) (F1 : FnOk X.prog X.w X.K X.mg X.base CX0 k fI fd ps sp) (hr : Room (k + 1) X.A) (kb : KBinds X.K fd ps ks g gV) (hg : Gl X x) (hm : X.mg x = some (.ref C)) (pk : PK X kws tk)
    (h1 : (backToKw pos (keywordEach kws X.env)).all (·.1.isSome) = true := by rfl) (h2 : (backToKw pos (keywordEach kws X.env)).filterMap (·.1) = ks := by rfl) (h3 : (x == ("__debug__" : Str)) = false := by decide)
    (h4 : ((backTo pos (starEach [] X.env)).any (·.1) || (backToKw pos (keywordEach kws X.env)).any (·.1.isNone)) = false := by rfl) :
    PE X (.Call (.Name x p) [] kws pos) (tErr C sp gV tNil tk) := by
  refine ⟨fun pins s σ H Q I hyp => wpAny_Call_Name_kw (ld_glob I hg hm ?_ h3)⟩
  refine PySem.W.callWith_KW0 (h₀ := X.base) I.ok.mod.kin T.kC h1 (thn (pk.run pos pins s σ H _ I hyp) fun ws s2 ⟨zs, H2, I2, rz, few, q2⟩ => ⟨I2.kIn, ?_⟩) h4
  rw [h2]
  exact run_err (us := []) (vs := []) T F1 hr kb I2 .nil rz few q2
end
end E7

set_option maxHeartbeats 4000000
namespace E8
open PySem PySem.Spec PyProof.Rows L2 E2 E3 E4 E5 E7
/-- err.f -/
def tErrF (K : PySem.W.Frag) (f : Str) (te : TE) : TE := fun σ H Q => te σ H fun x H1 => ∃ (a C dx : Addr) (fs : List (Str × V)) (v : V), x = .ref a ∧ ExcC K C ∧ PySem.W.findIn K (.ref C) f = some none ∧ H1 a = some (exo a C (some dx)) ∧ H1 dx = some (exd dx fs) ∧ fs.lookup f = some v ∧ Q v H1
theorem pe_errF {X : Cx} {e : Expr} {te : TE} {pos : Pos} {n : Str} (he : PE X e te) (hb : attributeBase e n X.env (eval e X.env) = eval e X.env := by rfl) : PE X (.Attribute e n pos) (tErrF X.K n te) := by
  refine ⟨fun pins s σ H Q I hyp => attr_of hb (thn (he.run pins s σ H _ I hyp) fun u s1 hh => ?_)⟩
  obtain ⟨x, H1, I1, rx, a, C, dx, fs, v, ex, T, no, ea, ed, l, q⟩ := hh
  subst ex
  obtain rfl : u = Value.ref a := rx
  obtain ⟨t1, at0⟩ := exo_at I1.hok ea
  obtain ⟨mA, nsD, rel⟩ := exd_at I1.hok ed
  obtain ⟨od, ho, hl⟩ := lookIn_ns nsD
  obtain ⟨u, hu, ru⟩ := RelO.some_of (v := v) (o := mA n) (by rw [← l]; exact rel n)
  have J : PySem.W.InstAt s1.heap a _ C (some od) := ⟨at0, rfl, rfl, ho⟩
  exact HandSPX.exc_get I1.kIn J T.hg T.hk T.hs (PySem.W.findObj_own T.hd no rfl (by rw [hl, hu])) (handed_of ru) ⟨v, H1, I1.tok _, ru, q⟩
end E8

set_option maxHeartbeats 4000000
namespace E9
open PySem PySem.Spec PyProof.Rows L2 E2 E3 E4 E5 E7 E8
/-- an own error at a, of the class at C, with these fields -/
def ErrAt (H : Hp) (a C : Addr) (fs : List (Str × V)) : Prop := (fs = [] ∧ H a = some (exo a C none)) ∨ ∃ dx, H a = some (exo a C (some dx)) ∧ H dx = some (exd dx fs)
/-- the same, its fields in a new dict -/
def ErrNew (H0 H : Hp) (a C : Addr) (fs : List (Str × V)) : Prop := (fs = [] ∧ H a = some (exo a C none)) ∨ ∃ dx, H a = some (exo a C (some dx)) ∧ H dx = some (exd dx fs) ∧ H0 dx = none
theorem ErrNew.at {H0 H : Hp} {a C : Addr} {fs : List (Str × V)} (h : ErrNew H0 H a C fs) : ErrAt H a C fs := by
  rcases h with h | ⟨dx, h1, h2, _⟩
  · exact .inl h
  · exact .inr ⟨dx, h1, h2⟩
/-- new things at a and d alone -/
def Grow (H H' : Hp) (a : Addr) : Prop := ∀ b o, H b = some o → b ≠ a → H' b = some o
def names : List Str → List V → List (Str × V)
  | f :: fs, v :: vs => names fs vs ++ [(f, v)]
  | _, _ => []
def spI (C : Addr) (fn : List Str) : Sp := fun vs H Q _ => ∃ (a : Addr) (ws : List V), vs = .ref a :: ws ∧ ws.length = fn.length ∧ H a = some (exo a C none) ∧
  ∀ H', Grow H H' a → ErrNew H H' a C (names fn ws) → Q .non H'
section
variable {P : Program} {w : World} {K : PySem.W.Frag} {mg : Str → Option Value} {base : Heap} {C f : Addr} {ql : Str} {pr : Arguments} {sc : Scope} {B newId initId Bs : String} {bmB : List Value} {p0 p1 p2 p3 p4 p5 : Pos} {z : Str} {kk : Nat} {fd : FuncData} {ar : Arg} {k : Nat}
structure Nm (x : Str) : Prop where
  db : (x == ("__debug__" : Str)) = false
  cd : (x == ("__classdict__" : Str)) = false
theorem nm_self : Nm "self" := ⟨by decide, by decide⟩
theorem ok0 (T : ExC K C f B newId initId Bs bmB) (F : InitFn P K C f ql pr [.Expr (supE p0 p1 p2 p3 p4 z kk) p5] sc fd) (S : InitScope ["self"] ["self"] sc) (hp : (pr.posonlyargs ++ pr.args).head? = some ar) (h0 : ("self" : Str) = ar.arg) (ms : mg "super" = none) (U : SupOk fd f p0 p1 p2 p3 p4 p5 z kk) :
    FnOk P w K mg base CX0 (k + 1) f fd ["self"] (spI C []) := by
  refine ok_init T F S hp (by rw [← h0]; rfl) ms U (fun vs H Q E hyp => ?_) (fun vs H Q E hyp => ?_) (fun A outer s H vs Q E hyp => ?_)
  · obtain ⟨a, ws, rfl, hl, _⟩ := hyp
    rw [List.length_cons, hl]
    rfl
  · obtain ⟨a, ws, rfl, _, ea, _⟩ := hyp
    exact ⟨a, ws, rfl, ea⟩
  · obtain ⟨a, ws, rfl, hl, ea, q⟩ := hyp
    have e : ws = [] := List.length_eq_zero_iff.mp hl
    subst e
    exact ⟨_, pss_nil, q H (fun b o h _ => h) (.inl ⟨rfl, ea⟩)⟩
/-- self.x = x -/
abbrev keepS (x : Str) (q1 q2 q3 q4 : Pos) : Stmt := .Assign [.Attribute (.Name "self" q1) x q2] (.Name x q3) q4
theorem tak_name {x : Str} {X : Cx} {i : Nat} {pos : Pos} (n : Nm x) (hi : X.N[i]? = some x) (hv : X.env.scope.names.lookup x = some .local) : PE X (.Name x pos) (tVar i) := pe_var hi (.inl hv) n.db n.cd
theorem ok1 {x1 : Str} {a1 a2 a3 a4 : Pos} (T : ExC K C f B newId initId Bs bmB) (F : InitFn P K C f ql pr [.Expr (supE p0 p1 p2 p3 p4 z kk) p5, keepS x1 a1 a2 a3 a4] sc fd) (S : InitScope ["self", x1] ["self", x1] sc) (hp : (pr.posonlyargs ++ pr.args).head? = some ar) (h0 : ("self" : Str) = ar.arg) (ms : mg "super" = none) (U : SupOk fd f p0 p1 p2 p3 p4 p5 z kk)
    (n1 : Nm x1) (k1 : PySem.W.takerIn K C x1 = some none) : FnOk P w K mg base CX0 (k + 1) f fd ["self", x1] (spI C [x1]) := by
  refine ok_init T F S hp (by rw [← h0]; rfl) ms U (fun vs H Q E hyp => ?_) (fun vs H Q E hyp => ?_) (fun A outer s H vs Q E hyp => ?_)
  · obtain ⟨a, ws, rfl, hl, _⟩ := hyp
    rw [List.length_cons, hl]
    rfl
  · obtain ⟨a, ws, rfl, _, ea, _⟩ := hyp
    exact ⟨a, ws, rfl, ea⟩
  · obtain ⟨a, ws, rfl, hl, ea, q⟩ := hyp
    match ws, hl with
    | [v1], _ =>
      have env : (cxI P w K mg base ["self", x1] fd f A outer s H).env.scope = sc := by
        obtain ⟨oc, kV, doc, pm, cdv, ct, od, an, osl, cl, cc, ocl, occ, fv, file, tf, efd, _⟩ := F.ex
        rw [efd]
        rfl
      refine ⟨_, pss_one (ps_keep (tak_name (i := 0) nm_self rfl (by rw [env]; exact S.par _ (by simp))) (tak_name (i := 1) n1 rfl (by rw [env]; exact S.par _ (by simp)))), ?_⟩
      refine ⟨v1, rfl, .ref a, rfl, a, C, f, B, newId, initId, Bs, bmB, rfl, T, k1, .inl ⟨ea, fun dx nd ne => ?_⟩⟩
      refine q _ (fun b o hb hba => ?_) (.inr ⟨dx, upd_same, ?_, nd⟩)
      · rw [upd_ne hba, upd_ne (ne_of_none hb nd)]
        exact hb
      · rw [upd_ne ne]
        exact upd_same
theorem ok2 {x1 : Str} {a11 a21 a31 a41 : Pos} {x2 : Str} {a12 a22 a32 a42 : Pos} (T : ExC K C f B newId initId Bs bmB) (F : InitFn P K C f ql pr (.Expr (supE p0 p1 p2 p3 p4 z kk) p5 :: [keepS x1 a11 a21 a31 a41, keepS x2 a12 a22 a32 a42]) sc fd) (S : InitScope ["self", x1, x2] ["self", x1, x2] sc) (hp : (pr.posonlyargs ++ pr.args).head? = some ar) (h0 : ("self" : Str) = ar.arg) (ms : mg "super" = none) (U : SupOk fd f p0 p1 p2 p3 p4 p5 z kk)
    (n1 : Nm x1) (k1 : PySem.W.takerIn K C x1 = some none) (n2 : Nm x2) (k2 : PySem.W.takerIn K C x2 = some none) : FnOk P w K mg base CX0 (k + 1) f fd ["self", x1, x2] (spI C [x1, x2]) := by
  refine ok_init T F S hp (by rw [← h0]; rfl) ms U (fun vs H Q E hyp => ?_) (fun vs H Q E hyp => ?_) (fun A outer s H vs Q E hyp => ?_)
  · obtain ⟨a, ws, rfl, hl, _⟩ := hyp
    rw [List.length_cons, hl]
    rfl
  · obtain ⟨a, ws, rfl, _, ea, _⟩ := hyp
    exact ⟨a, ws, rfl, ea⟩
  · obtain ⟨a, ws, rfl, hl, ea, q⟩ := hyp
    match ws, hl with
    | [v1, v2], _ =>
      have env : (cxI P w K mg base ["self", x1, x2] fd f A outer s H).env.scope = sc := by
        obtain ⟨oc, kV, doc, pm, cdv, ct, od, an, osl, cl, cc, ocl, occ, fv, file, tf, efd, _⟩ := F.ex
        rw [efd]
        rfl
      refine ⟨_, pss_cons (ps_keep (tak_name (i := 0) nm_self rfl (by rw [env]; exact S.par _ (by simp))) (tak_name (i := 1) n1 rfl (by rw [env]; exact S.par _ (by simp)))) (pss_one (ps_keep (tak_name (i := 0) nm_self rfl (by rw [env]; exact S.par _ (by simp))) (tak_name (i := 2) n2 rfl (by rw [env]; exact S.par _ (by simp))))), ?_⟩
      refine ⟨v1, rfl, .ref a, rfl, a, C, f, B, newId, initId, Bs, bmB, rfl, T, k1, .inl ⟨ea, fun dx nd ne => ?_⟩⟩
      have ha1 : (upd (upd H dx (exd dx [(x1, v1)])) a (exo a C (some dx))) a = some (exo a C (some dx)) := upd_same
      have hd1 : (upd (upd H dx (exd dx [(x1, v1)])) a (exo a C (some dx))) dx = some (exd dx [(x1, v1)]) := by
        rw [upd_ne ne]
        exact upd_same
      have hg1 : Grow H (upd (upd H dx (exd dx [(x1, v1)])) a (exo a C (some dx))) a := fun b o hb hba => by
        rw [upd_ne hba, upd_ne (ne_of_none hb nd)]
        exact hb
      generalize upd (upd H dx (exd dx [(x1, v1)])) a (exo a C (some dx)) = H1 at ha1 hd1 hg1 ⊢
      refine ⟨v2, rfl, .ref a, rfl, a, C, f, B, newId, initId, Bs, bmB, rfl, T, k2, .inr ⟨dx, _, ha1, hd1, by simp, ?_⟩⟩
      have ha2 : (upd H1 dx (exd dx [(x2, v2), (x1, v1)])) a = some (exo a C (some dx)) := by
        rw [upd_ne ne.symm]
        exact ha1
      have hd2 : (upd H1 dx (exd dx [(x2, v2), (x1, v1)])) dx = some (exd dx [(x2, v2), (x1, v1)]) := upd_same
      have hg2 : Grow H (upd H1 dx (exd dx [(x2, v2), (x1, v1)])) a := fun b o hb hba => by
        rw [upd_ne (ne_of_none hb nd)]
        exact hg1 b o hb hba
      generalize upd H1 dx (exd dx [(x2, v2), (x1, v1)]) = H2 at ha2 hd2 hg2 ⊢
      exact q _ hg2 (.inr ⟨dx, ha2, hd2, nd⟩)
theorem ok3 {x1 : Str} {a11 a21 a31 a41 : Pos} {x2 : Str} {a12 a22 a32 a42 : Pos} {x3 : Str} {a13 a23 a33 a43 : Pos} (T : ExC K C f B newId initId Bs bmB) (F : InitFn P K C f ql pr (.Expr (supE p0 p1 p2 p3 p4 z kk) p5 :: [keepS x1 a11 a21 a31 a41, keepS x2 a12 a22 a32 a42, keepS x3 a13 a23 a33 a43]) sc fd) (S : InitScope ["self", x1, x2, x3] ["self", x1, x2, x3] sc) (hp : (pr.posonlyargs ++ pr.args).head? = some ar) (h0 : ("self" : Str) = ar.arg) (ms : mg "super" = none) (U : SupOk fd f p0 p1 p2 p3 p4 p5 z kk)
    (n1 : Nm x1) (k1 : PySem.W.takerIn K C x1 = some none) (n2 : Nm x2) (k2 : PySem.W.takerIn K C x2 = some none) (n3 : Nm x3) (k3 : PySem.W.takerIn K C x3 = some none) : FnOk P w K mg base CX0 (k + 1) f fd ["self", x1, x2, x3] (spI C [x1, x2, x3]) := by
  refine ok_init T F S hp (by rw [← h0]; rfl) ms U (fun vs H Q E hyp => ?_) (fun vs H Q E hyp => ?_) (fun A outer s H vs Q E hyp => ?_)
  · obtain ⟨a, ws, rfl, hl, _⟩ := hyp
    rw [List.length_cons, hl]
    rfl
  · obtain ⟨a, ws, rfl, _, ea, _⟩ := hyp
    exact ⟨a, ws, rfl, ea⟩
  · obtain ⟨a, ws, rfl, hl, ea, q⟩ := hyp
    match ws, hl with
    | [v1, v2, v3], _ =>
      have env : (cxI P w K mg base ["self", x1, x2, x3] fd f A outer s H).env.scope = sc := by
        obtain ⟨oc, kV, doc, pm, cdv, ct, od, an, osl, cl, cc, ocl, occ, fv, file, tf, efd, _⟩ := F.ex
        rw [efd]
        rfl
      refine ⟨_, pss_cons (ps_keep (tak_name (i := 0) nm_self rfl (by rw [env]; exact S.par _ (by simp))) (tak_name (i := 1) n1 rfl (by rw [env]; exact S.par _ (by simp)))) (pss_cons (ps_keep (tak_name (i := 0) nm_self rfl (by rw [env]; exact S.par _ (by simp))) (tak_name (i := 2) n2 rfl (by rw [env]; exact S.par _ (by simp)))) (pss_one (ps_keep (tak_name (i := 0) nm_self rfl (by rw [env]; exact S.par _ (by simp))) (tak_name (i := 3) n3 rfl (by rw [env]; exact S.par _ (by simp)))))), ?_⟩
      refine ⟨v1, rfl, .ref a, rfl, a, C, f, B, newId, initId, Bs, bmB, rfl, T, k1, .inl ⟨ea, fun dx nd ne => ?_⟩⟩
      have ha1 : (upd (upd H dx (exd dx [(x1, v1)])) a (exo a C (some dx))) a = some (exo a C (some dx)) := upd_same
      have hd1 : (upd (upd H dx (exd dx [(x1, v1)])) a (exo a C (some dx))) dx = some (exd dx [(x1, v1)]) := by
        rw [upd_ne ne]
        exact upd_same
      have hg1 : Grow H (upd (upd H dx (exd dx [(x1, v1)])) a (exo a C (some dx))) a := fun b o hb hba => by
        rw [upd_ne hba, upd_ne (ne_of_none hb nd)]
        exact hb
      generalize upd (upd H dx (exd dx [(x1, v1)])) a (exo a C (some dx)) = H1 at ha1 hd1 hg1 ⊢
      refine ⟨v2, rfl, .ref a, rfl, a, C, f, B, newId, initId, Bs, bmB, rfl, T, k2, .inr ⟨dx, _, ha1, hd1, by simp, ?_⟩⟩
      have ha2 : (upd H1 dx (exd dx [(x2, v2), (x1, v1)])) a = some (exo a C (some dx)) := by
        rw [upd_ne ne.symm]
        exact ha1
      have hd2 : (upd H1 dx (exd dx [(x2, v2), (x1, v1)])) dx = some (exd dx [(x2, v2), (x1, v1)]) := upd_same
      have hg2 : Grow H (upd H1 dx (exd dx [(x2, v2), (x1, v1)])) a := fun b o hb hba => by
        rw [upd_ne (ne_of_none hb nd)]
        exact hg1 b o hb hba
      generalize upd H1 dx (exd dx [(x2, v2), (x1, v1)]) = H2 at ha2 hd2 hg2 ⊢
      refine ⟨v3, rfl, .ref a, rfl, a, C, f, B, newId, initId, Bs, bmB, rfl, T, k3, .inr ⟨dx, _, ha2, hd2, by simp, ?_⟩⟩
      have ha3 : (upd H2 dx (exd dx [(x3, v3), (x2, v2), (x1, v1)])) a = some (exo a C (some dx)) := by
        rw [upd_ne ne.symm]
        exact ha2
      have hd3 : (upd H2 dx (exd dx [(x3, v3), (x2, v2), (x1, v1)])) dx = some (exd dx [(x3, v3), (x2, v2), (x1, v1)]) := upd_same
      have hg3 : Grow H (upd H2 dx (exd dx [(x3, v3), (x2, v2), (x1, v1)])) a := fun b o hb hba => by
        rw [upd_ne (ne_of_none hb nd)]
        exact hg2 b o hb hba
      generalize upd H2 dx (exd dx [(x3, v3), (x2, v2), (x1, v1)]) = H3 at ha3 hd3 hg3 ⊢
      exact q _ hg3 (.inr ⟨dx, ha3, hd3, nd⟩)
end
end E9

set_option maxHeartbeats 4000000
namespace EA
open PySem PySem.Spec PyProof.Rows L2 E2 E3 E4 E5 E7 E8 E9
section
variable {X : Cx} {pins : List (Addr × Obj)} {σ : L2.St}
/-- an error without fields is let go of -/
theorem let_go {H1 H2 : Hp} {hp hp2 h2 : Heap} {g1 g2 : Array GenState} {d1 d2 : Drawn} {t1 t2 : Nat} {os1 os2 : OsState} {a C : Addr} (I1 : Inv X pins σ H1 ⟨hp, g1, d1, t1, os1⟩) (ha : hp.objs.size ≤ a) (k : ∀ b o, hp.get? b = some o → hp2.get? b = some o)
    (un : Un (frs X.stack) [] (upd H1 a (exo a C none)) H2 hp2 h2) (hok : HOk X.prog X.w H2 h2) (ho : os2 = os1) (hb : AllBare g2) (ea : H2 a = some (exo a C none)) :
    ∃ (t0 : Addr) (G : Heap), Inv X pins σ (del H2 a) ⟨G, g2, d2, t2, os2⟩ ∧ (∀ b o, G.get? b = some o → h2.get? b = some o) ∧ G.get? a = none ∧
      h2.get? a = some ({ cls := .ref C, dict := none, data := .fields #[.ref t0, .none, .none, .none, .bool false, .none] } : Obj) := by
  obtain ⟨t0, at2⟩ := exo_at hok ea
  have new : H1 a = none := I1.hok.fresh ha
  obtain ⟨G, gin, gout⟩ := restrict h2 fun b => decide (b ≠ a)
  have gk : ∀ b, b ≠ a → G.get? b = h2.get? b := fun b nb => gin b (decide_eq_true nb)
  have ga : G.get? a = none := gout a (by simp)
  have off : ∀ {b : Addr} {o : Obj}, hp.get? b = some o → b ≠ a := fun {b o} q => Nat.ne_of_lt (Nat.lt_of_lt_of_le (Heap.lt_size q) ha)
  have un0 : ∀ {b : Addr}, b ≠ a → H1 b = none → upd H1 a (exo a C none) b = none := fun {b} nb n => by
    rw [upd_ne nb]
    exact n
  have un1 : ∀ {b : Addr} {o : HO}, H1 b = some o → upd H1 a (exo a C none) b = some o ∧ b ≠ a := fun {b o} q => by
    have nb := ne_of_none q new
    exact ⟨by rw [upd_ne nb]; exact q, nb⟩
  have U : Un (frs X.stack) [] H1 (del H2 a) hp G :=
    { keep := fun b o q n hf hx => by
        rw [gk b (off q)]
        exact un.keep b o (k b o q) (un0 (off q) n) hf hx
      slot := fun b o q n hf hx => by
        rw [gk b (off q)]
        exact un.slot b o (k b o q) (un0 (off q) n) hf hx
      free := fun b o q n hx => by
        rw [del_ne (off q)]
        exact un.free b o (k b o q) (un0 (off q) n) hx
      there := fun b o q hx => by
        rw [gk b (off q)]
        exact un.there b o (k b o q) hx
      tups := fun b xs q => by
        rw [del_ne (un1 q).2]
        exact un.tups b xs (un1 q).1
      frzs := fun b o v q => by
        rw [del_ne (un1 q).2]
        exact un.frzs b o v (un1 q).1
      tbls := fun b ps q => by
        rw [del_ne (un1 q).2]
        exact un.tbls b ps (un1 q).1 }
  have hokG : HOk X.prog X.w (del H2 a) G := fun b o q => by
    have nb : b ≠ a := fun e => by
      rw [e, del_same] at q
      cases q
    rw [del_ne nb] at q
    have noO : ∀ {c : Addr}, H2 c = some (.own b) → c ≠ a := fun {c} hc => at_ne ea hc exo_own
    refine (hok b o q).stay (fun c v hc y => ?_) (fun c hc => by rw [del_ne (noO hc)]; exact hc) (fun c xs hc => by rw [del_ne (at_ne ea hc exo_tup)]; exact hc)
    have nc : c ≠ a := by
      rcases hc with hc | hc
      · rw [hc]
        exact nb
      · exact noO hc
    rw [gk c nc]
    exact y
  refine ⟨t0, G, I1.call' (ch := []) ho U hokG hb (fun b q => absurd q (by simp)), fun b o q => ?_, ga, at2⟩
  by_cases nb : b = a
  · rw [nb, ga] at q
    cases q
  · exact (gk b nb).symm.trans q
/-- C(e, ..) that is to be raised -/
def tMkE (C : Addr) (sp : Sp) (gV : List V → List V → List V) (ta : TA) : L2.St → Hp → XK → Prop := fun σ H Q => ta σ H fun vs H1 => vs.length ≤ 1000 ∧ ∀ a, H1 a = none → sp (gV (.ref a :: vs) []) (upd H1 a (exo a C none))
  (fun v H2 => v = .non ∧ ((∃ (d : Addr) (fs : List (Str × V)), H2 a = some (exo a C (some d)) ∧ H2 d = some (exd d fs) ∧ H1 d = none ∧ Q (.ref C) (some d) (upd (del H2 a) d (.xd fs))) ∨ (H2 a = some (exo a C none) ∧ Q (.ref C) none (del H2 a)))) fun _ _ _ => False
theorem run_mk {C fI : Addr} {B newId initId Bs : String} {bmB : List Value} {k : Nat} {fd : FuncData} {ps : List Str} {sp : Sp} {g : List Value → List Value → List Value} {gV : List V → List V → List V} {H : Hp} {s : Shared} {vs : List V} {us : List Value} {Q : XK}
    (T : ExC X.K C fI B newId initId Bs bmB) (F1 : FnOk X.prog X.w X.K X.mg X.base CX0 k fI fd ps sp) (hr : Room (k + 1) X.A) (kb : KBinds X.K fd ps [] g gV) (I : Inv X pins σ H s) (r : Vals vs us) (few : vs.length ≤ 1000)
    (hyp : ∀ a, H a = none → sp (gV (.ref a :: vs) []) (upd H a (exo a C none)) (fun v H2 => v = .non ∧ ((∃ (d : Addr) (fs : List (Str × V)), H2 a = some (exo a C (some d)) ∧ H2 d = some (exd d fs) ∧ H d = none ∧ Q (.ref C) (some d) (upd (del H2 a) d (.xd fs))) ∨ (H2 a = some (exo a C none) ∧ Q (.ref C) none (del H2 a)))) fun _ _ _ => False) :
    wpAny (model X.prog X.w) X.A (call (.ref C) us) (MkP X pins σ Q) X.xe s := by
  obtain ⟨_, bmE, eb⟩ := T.un.eb
  have KX := I.kIn
  obtain ⟨nm, N', qn, bs, bm, hdct, sn, sub, ab, col, dd, k0, k1, k2, k3, k5, hC, hT⟩ := PySem.W.excInit_of KX T.made
  have con : ∀ z : String, (Value.ref C :: bm).contains (.type z) = bmB.contains (.type z) := fun z => by
    rw [List.contains_cons, hT]
    rfl
  obtain ⟨hp, g0, dr, tk, os⟩ := s
  have new : H (hp.objs.size + 1) = none := I.hok.fresh (Nat.le_succ _)
  have hq := hyp (hp.objs.size + 1) new
  have up : ∀ b o, hp.get? b = some o → ((hp.push (PySem.W.kdv_tup us)).push (HandSPX.excO C hp.objs.size)).get? b = some o := fun b o e => Heap.get?_push_of_some _ (Heap.get?_push_of_some _ e)
  have mine : ((hp.push (PySem.W.kdv_tup us)).push (HandSPX.excO C hp.objs.size)).get? (hp.objs.size + 1) = some (HandSPX.excO C hp.objs.size) := by heap_get
  have I2 : Inv X pins σ (upd H (hp.objs.size + 1) (exo (hp.objs.size + 1) C none)) ⟨(hp.push (PySem.W.kdv_tup us)).push (HandSPX.excO C hp.objs.size), g0, dr, tk, os⟩ :=
    I.laid (t' := tk) (a := hp.objs.size + 1) (o := exo (hp.objs.size + 1) C none) (h' := (hp.push (PySem.W.kdv_tup us)).push (HandSPX.excO C hp.objs.size)) up (Nat.le_succ _) (exo_ok mine)
  have r1 : Vals (V.ref (hp.objs.size + 1) :: vs) (Value.ref (hp.objs.size + 1) :: us) := .cons rfl r
  have r2 := kb.rel r1 Paired.nil
  have hl : (g (Value.ref (hp.objs.size + 1) :: us) []).length = ps.length := by
    rw [← r2.length, F1.len _ _ _ _ hq]
  have hus : us.length ≤ sizeLine := by
    rw [← Paired.length r, sizeLine_eq]
    omega
  obtain ⟨oI, hoI, hcI⟩ : ∃ oI, hp.get? fI = some oI ∧ oI.cls = .type "function" := by
    obtain ⟨o, ho, hc⟩ := Option.map_eq_some_iff.mp (show (X.K.lookup fI).map (·.cls) = some (.type "function") from beq_iff_eq.mp T.isF)
    exact ⟨o, KX _ _ ho, hc⟩
  refine wpAny_call (E6.call_made (kw := []) eb ((con B).trans T.un.hasB) ((con _).trans T.un.noA) ((con _).trans T.un.noN) hC (PySem.W.looks_findIn KX T.ini) (fun self => PySem.W.exc_bind hoI hcI self) hus ?_)
  refine codeAny_mono (F1.run _ X.stack _ _ ⟨Value.ref (hp.objs.size + 1) :: us, []⟩ (g (Value.ref (hp.objs.size + 1) :: us) []) _ _ (fun _ _ _ => False) (hr.make C us []) (I2.env0.make C us []) (kb.to _ _ [] I2.kIn hl) r2 hq) fun rr s' hq' => ?_
  match rr, hq' with
  | .error er, z => exact z.elim
  | .ok .next, z => exact z.elim
  | .ok .brk, z => exact z.elim
  | .ok .cont, z => exact z.elim
  | .ok (.ret u), ⟨v, H2, os2, bare2, un2, hok2, rv, ev, q2⟩ =>
    subst ev
    obtain ⟨h2, g2, d2, t2, os'⟩ := s'
    refine ⟨rv, ?_⟩
    rcases q2 with ⟨d, fs, ea, ed, nd, q⟩ | ⟨ea, q⟩
    · exact mk_end (raises_own T.exC T.tyC) I (Nat.le_succ _) up un2 hok2 os2 bare2 ea ed nd q
    · obtain ⟨t0, G, J, kG, ge, at2⟩ := let_go (d2 := d2) (t2 := t2) I (Nat.le_succ _) up un2 hok2 os2 bare2 ea
      exact ⟨hp.objs.size + 1, _, _, ⟨G, g2, d2, t2, os'⟩, _, .ref C, none, rfl, J, kG, ge, at2, ⟨rfl, rfl⟩, rfl, rfl, del_same, rfl, bare2, raises_own T.exC T.tyC, q⟩
end
section
variable {X : Cx} {C fI : Addr} {B newId initId Bs : String} {bmB : List Value} {k : Nat} {fd : FuncData} {ps : List Str} {sp : Sp} {g : List Value → List Value → List Value} {gV : List V → List V → List V} {x : Str} {p pos : Pos} {e : Expr} {es : List Expr} {ta : TA}
theorem pmk_err (T : ExC X.K C fI B newId initId Bs bmB) (F1 : FnOk X.prog X.w X.K X.mg X.base CX0 k fI fd ps sp) (hr : Room (k + 1) X.A) (kb : KBinds X.K fd ps [] g gV) (hg : Gl X x) (hm : X.mg x = some (.ref C)) (ha : PA X (e :: es) ta)
    (hdb : (x == ("__debug__" : Str)) = false := by decide) (he : starEach (e :: es) X.env = (false, eval e X.env) :: starEach es X.env := by rfl) (hpl : (backTo pos (starEach es X.env)).any (·.1) = false := by rfl) :
    PMk X (.Call (.Name x p) (e :: es) [] pos) (tMkE C sp gV ta) := by
  intro pins s σ H Q I hyp
  refine wpAny_Call_Name_kw (ld_glob I hg hm ?_ hdb)
  refine PySem.W.callWith_K (h₀ := X.base) I.ok.mod.kin T.kC (thn (ha.run pos pins s σ H _ I hyp) fun us s1 ⟨vs, H1, I1, r1, few, q1⟩ => ⟨I1.kIn, ?_⟩) he hpl
  exact run_mk T F1 hr kb I1 r1 few q1
theorem pmk_err0 (T : ExC X.K C fI B newId initId Bs bmB) (F1 : FnOk X.prog X.w X.K X.mg X.base CX0 k fI fd ps sp) (hr : Room (k + 1) X.A) (kb : KBinds X.K fd ps [] g gV) (hg : Gl X x) (hm : X.mg x = some (.ref C)) (hdb : (x == ("__debug__" : Str)) = false := by decide) :
    PMk X (.Call (.Name x p) [] [] pos) (tMkE C sp gV tNil) := by
  intro pins s σ H Q I hyp
  refine wpAny_Call_Name_kw (ld_glob I hg hm ?_ hdb)
  exact PySem.W.callWith_K0 I.kIn T.kC (run_mk (us := []) (vs := []) T F1 hr kb I .nil hyp.1 hyp.2)
theorem pe_err0 (T : ExC X.K C fI B newId initId Bs bmB) (F1 : FnOk X.prog X.w X.K X.mg X.base CX0 k fI fd ps sp) (hr : Room (k + 1) X.A) (kb : KBinds X.K fd ps [] g gV) (hg : Gl X x) (hm : X.mg x = some (.ref C)) (hdb : (x == ("__debug__" : Str)) = false := by decide) :
    PE X (.Call (.Name x p) [] [] pos) (tErr C sp gV tNil tNil) := by
  refine ⟨fun pins s σ H Q I hyp => wpAny_Call_Name_kw (ld_glob I hg hm ?_ hdb)⟩
  exact PySem.W.callWith_K0 I.kIn T.kC (run_err (ks := []) (ws := []) (zs := []) (us := []) (vs := []) T F1 hr kb I .nil .nil hyp.1 hyp.2)
end
end EA

set_option maxHeartbeats 4000000
namespace EB
open PySem PySem.Spec PyProof.Rows L2 E2 E3 E4 E5 E7 E8 E9
/-- isinstance(err, c) -/
def rIsErr (K : PySem.W.Frag) : List V → Hp → VK → Prop := fun xs H Q => ∃ (a C : Addr) (fs : List (Str × V)) (c : V) (u : Value) (b : Bool), xs = [.ref a, c] ∧ ErrAt H a C fs ∧ ExcC K C ∧ ClsV c u ∧ PySem.W.kitOne K (.ref C) u = some b ∧ Q (.bl b) H
theorem call_isErr {X : Cx} : CallR X (.builtin "isinstance") (rIsErr X.K) := by
  intro pins s σ H xs us Q I r hyp
  obtain ⟨a, C, fs, c, u, b, rfl, ea, T, cv, e, q⟩ := hyp
  cases r with
  | cons rx rr =>
    cases rr with
    | cons rt rr =>
      cases rr
      cases rx
      have ec := cv.eq rt
      subst ec
      have hcl : (PySem.W.clsIn X.K C).isSome = true := by
        obtain ⟨cd, hc, _⟩ := PySem.W.any_some T.hd
        rw [hc]
        rfl
      have fin : ∀ {ox : Obj} {od : Option Obj}, PySem.W.InstAt s.heap a ox C od → wpAny (model X.prog X.w) X.A (call (.builtin "isinstance") [.ref a, _]) (EP X pins σ Q) X.xe s := fun {ox od} J =>
        PySem.W.kia_one (PySem.W.kitx_exc hcl T.hg T.hk T.hs T.ha T.hn T.ht T.hm) I.kIn J e (fun z => nomatch z) fun tk => ⟨.bl b, H, I.kept (t' := tk) fun _ _ z => z, rfl, q⟩
      rcases ea with ⟨_, ea⟩ | ⟨dx, ea, ed⟩
      · obtain ⟨t1, at0⟩ := exo_at I.hok ea
        exact fin (ox := _) (od := none) ⟨at0, rfl, rfl, trivial⟩
      · obtain ⟨t1, at0⟩ := exo_at I.hok ea
        obtain ⟨mA, ⟨oD, es, ep, hoD, _⟩, _⟩ := exd_at I.hok ed
        exact fin (ox := _) (od := some oD) ⟨at0, rfl, rfl, hoD⟩
end EB

set_option maxHeartbeats 4000000
namespace EC
open PySem PySem.Spec PyProof.Rows L2 E2 E3 E4 E5 E7 E8 E9
/-- an error that was caught and is kept -/
def exk (a : Addr) (cls : Value) (d : Option Addr) : HO := .ext fun h => ∃ (oe : Obj) (vs : Array Value), h.get? a = some oe ∧ Zc cls d oe ∧ oe.data = .fields vs
theorem exk_ok {P : Program} {w : World} {H : Hp} {h : Heap} {a : Addr} {cls : Value} {d : Option Addr} {oe : Obj} {vs : Array Value} (e : h.get? a = some oe) (z : Zc cls d oe) (dt : oe.data = .fields vs) : ObjOk P w H h a (exk a cls d) :=
  ⟨⟨oe, vs, e, z, dt⟩, ⟨_, e⟩, fun h1 h2 ⟨o, v, q1, q2, q3⟩ k => ⟨o, v, k _ q1, q2, q3⟩⟩
theorem exk_at {P : Program} {w : World} {H : Hp} {h : Heap} {a : Addr} {cls : Value} {d : Option Addr} (hok : HOk P w H h) (e : H a = some (exk a cls d)) : ∃ (oe : Obj) (vs : Array Value), h.get? a = some oe ∧ Zc cls d oe ∧ oe.data = .fields vs := by
  have x : ObjOk P w H h a (.ext fun h => ∃ (oe : Obj) (vs : Array Value), h.get? a = some oe ∧ Zc cls d oe ∧ oe.data = .fields vs) := hok a _ e
  exact x.1
/-- a place that came new -/
structure Fresh (X : Cx) (pins : List (Addr × Obj)) (a : Addr) : Prop where
  n0 : X.s_0.heap.get? a = none
  nL : X.env.locals ≠ a
  nC : ∀ x c, X.env.cells.lookup x = some c → c ≠ a
  nP : ∀ p ∈ X.pn ++ pins, p.1 ≠ a
theorem fresh_of {X : Cx} {pins : List (Addr × Obj)} {σ : L2.St} {H : Hp} {s : Shared} {a : Addr} (I : Inv X pins σ H s) (ga : s.heap.get? a = none) (hx : X.ex = []) : Fresh X pins a := by
  refine ⟨?_, fun e => ?_, fun x c h e => ?_, fun p hp e => ?_⟩
  · cases q : X.s_0.heap.get? a with
    | none => rfl
    | some o =>
      obtain ⟨o', q'⟩ := I.base.there a o q (by rw [hx]; exact List.not_mem_nil)
      rw [ga] at q'
      cases q'
  · obtain ⟨m, ⟨o, es, ep, q, _⟩, _⟩ := I.loc
    rw [e, ga] at q
    cases q
  · obtain ⟨v, o, q, _⟩ := I.cell x c h
    rw [e, ga] at q
    cases q
  · have q := (I.pin p hp).1
    rw [e, ga] at q
    cases q
theorem retrack {X : Cx} {pins : List (Addr × Obj)} {σ : L2.St} {H : Hp} {s : Shared} {a : Addr} {o : HO} (F : Fresh X pins a) (I : Inv X pins σ H s) (na : H a = none) (ok : ObjOk X.prog X.w (upd H a o) s.heap a o) : Inv X pins σ (upd H a o) s := by
  have ne : ∀ {b : Addr} {u : HO}, H b = some u → b ≠ a := fun {b u} q => ne_of_none q na
  refine ⟨I.ok, I.os, I.bare, ?_, I.loc, I.cell, ?_, fun x c h => ?_, fun p hp => ?_, HOk.laidN I.hok (fun _ _ e => e) na ok, I.len⟩
  · exact { keep := I.base.keep, slot := I.base.slot,
            free := fun b u q n hx => by
              rw [upd_ne (fun e => by rw [e, F.n0] at q; cases q)]
              exact I.base.free b u q n hx
            there := I.base.there
            tups := fun b xs q => by
              have z := I.base.tups b xs q
              rw [upd_ne (ne z)]
              exact z
            frzs := fun b u v q => by
              have z := I.base.frzs b u v q
              rw [upd_ne (ne z)]
              exact z
            tbls := fun b ps q => by
              obtain ⟨m, z⟩ := I.base.tbls b ps q
              exact ⟨m, by rw [upd_ne (ne z)]; exact z⟩ }
  · rw [upd_ne F.nL]
    exact I.free
  · rw [upd_ne (F.nC x c h)]
    exact I.freeC x c h
  · obtain ⟨q1, q2, q3⟩ := I.pin p hp
    exact ⟨q1, by rw [upd_ne (F.nP p hp)]; exact q2, q3⟩
/-- except C as n: .., and the error is kept behind it -/
def wKept (K : PySem.W.Frag) (c : Value) (i : Nat) (ts : Addr → Value → Option Addr → TS) (Wout : WX) (D : Ends) : WX := fun cls d σ H =>
  ∃ b, PySem.W.exmOne K cls c = some b ∧ (b = true → ∀ a, H a = none → ts a cls d { nx := fun σ' H' => H' a = none ∧ D.nx (σ'.set i none) (upd H' a (exk a cls d)), rt := fun _ _ => False, bk := fun _ _ => False, ct := fun _ _ => False } (σ.set i (some (.ref a))) H) ∧
    (b = false → Wout cls d σ H)
section
variable {X : Cx} {x n : Str} {c : Value} {i : Nat} {body suite : List Stmt} {b0 : Stmt} {np pos pos' : Pos} {tb : WX → TS} {ts : Addr → Value → Option Addr → TS} {Wout : WX}
theorem ps_try_kept (hs : X.stack = X.env :: X.outer) (hf : X.env.frame = some X.env.locals) (hN : X.N.Nodup) (hi : X.N[i]? = some n) (hln : X.env.kindOf n = some .local) (hc : Names X x c) (hx : X.ex = [])
    (hb : ∀ (W : WX) (pn : List (Addr × Obj)) (xe : Value → Shared → Prop), Takes (X.tr pn xe) W → PassesOwn (model X.prog X.w) X.A X.env xe → PSs (X.tr pn xe) body (tb W))
    (hsu : ∀ (a : Addr) (oe : Obj) (cls : Value) (d : Option Addr) (pn : List (Addr × Obj)), Zc cls d oe → (∃ vs, oe.data = .fields vs) → PSs (X.suite a ((a, oe) :: pn)) (b0 :: suite) (ts a cls d)) :
    PS X (.Try body [.ExceptHandler (some (.Name x np)) (some n) (b0 :: suite) pos'] [] [] pos) (fun D σ H => tb (wKept X.K c i ts (fun _ _ _ _ => False) D) D σ H) := by
  refine ⟨fun pins s σ H D I hyp => ?_⟩
  have ok := I.ok
  have frm : X.A.frames = some (X.env :: X.outer) := by rw [ok.frames, hs]
  refine wpAny_Try_except ?_
  have run := hb (wKept X.K c i ts (fun _ _ _ _ => False) D) (X.pn ++ pins) (fun e s1 => wpAny (model X.prog X.w) X.A (noteFrame e X.env) (fun _ s2 => wpAny (model X.prog X.w) X.A (setFlight e none)
    (fun _ s3 => wpAny (model X.prog X.w) X.A (handleBy e X.env [.ExceptHandler (some (.Name x np)) (some n) (b0 :: suite) pos']) (SP X pins D) X.xe s3) X.xe s2) X.xe s1)
  refine wpAny_mono ((run (fun u s' xx => ?_) PassesOwn.looking).run [] s σ H D (I.toTry _) hyp) (fun fl s1 sp => ?_) (fun e s1 he => he)
  · obtain ⟨a, B, sI, pins', σ', H', cls, d, rfl, J', nb, up, sky, na, os, ag, b, hb1, yes, no⟩ := xx
    have J : Inv X pins σ' H' sI := J'.ofTry ok
    have sky2 : Sky B (X.env :: X.outer) a (Zc cls d) X.env.locals s'.heap := by rw [← hs]; exact sky
    show wpAny (model X.prog X.w) X.A (noteFrame (.ref a) X.env) _ _ _
    refine Sky.land Zc.steady frm hf sky2 fun h3 fl3 up3 => ?_
    have J3 : Inv X pins σ' H' { s' with heap := h3 } := J.landed nb fl3.1 (up.trans up3) os ag
    obtain ⟨oe3, vs3, at3, z3, d3⟩ := fl3.there
    have nfr : a ∉ frs (X.env :: X.outer) := fun hm => by
      obtain ⟨_, o', e', nf⟩ := fl3.2.2.1.mem hm
      rw [at3] at e'
      cases e'
      exact nf _ d3
    have gone : sI.heap.get? a = none := by
      cases q : sI.heap.get? a with
      | none => rfl
      | some o =>
        have z := nb a o q (by rw [show (frs X.stack) = frs (X.env :: X.outer) by rw [hs]]; exact nfr)
        rw [fl3.2.1] at z
        cases z
    have Fr := fresh_of J gone hx
    have nF : a ∉ X.fs := fun hm => by
      obtain ⟨e, he, q⟩ := List.mem_filterMap.mp hm
      exact nfr (List.mem_filterMap.mpr ⟨e, List.mem_cons_of_mem _ he, q⟩)
    have S3 := J3.suite at3 d3 na (fun e => Fr.nL e.symm) nF
    refine wpAny_handleBy_cons (codeAny_handlers_test ?_) (by intro q; cases q)
    have LT : PySem.W.Looks (model X.prog X.w) h3 (typeOf (.ref a)) cls := fun A Q E s k q => wpAny_typeOf_ref (k _ _ at3) (by rw [z3.1]; exact q)
    have LM := PySem.W.exm_one (M := model X.prog X.w) (J3.kIn) LT hb1
    have test : ∀ {Q : Value → Shared → Prop} {E : Value → Shared → Prop}, Q c { s' with heap := h3 } → wpAny (model X.prog X.w) (X.A.mark (some (.ref a))) (eval (.Name x np) X.env) Q E { s' with heap := h3 } := fun {Q E} q => by
      obtain ⟨hg, hdbg, hm | ⟨hm, hv, hnn⟩⟩ := hc
      · exact ld_glob (X := X.suite a ((a, oe3) :: (X.pn ++ pins))) S3 hg hm q hdbg
      · exact ld_blt (X := X.suite a ((a, oe3) :: (X.pn ++ pins))) S3 hg hm hv q hnn hdbg
    refine test (LM.here ?_)
    cases b with
    | false => exact (no rfl).elim
    | true =>
      refine codeAny_handlers_suite_as (HandSPX.lands_againZ fl3 fun h4 fl4 up4 => ?_)
      have J4 : Inv X pins σ' H' { s' with heap := h4 } := J.landed nb fl4.1 ((up.trans up3).trans up4) os ag
      obtain ⟨oe4, vs4, at4, z4, d4⟩ := fl4.there
      have S4 := J4.suite at4 d4 na (fun e => Fr.nL e.symm) nF
      refine store_ok (X := X.suite a ((a, oe4) :: (X.pn ++ pins))) (v := .ref a) S4 hN hi (.inl hln) rfl (fun s5 S5 => ?_) (.inr hln)
      refine wpAny_mono ((hsu a oe4 cls d (X.pn ++ pins) z4 ⟨_, d4⟩).run [] s5 _ H' _ S5 (yes rfl a na)) (fun fl s6 sp => ?_) (fun _ _ z => False.elim z)
      cases fl with
      | next =>
        obtain ⟨σ6, H6, S6, n6, q6⟩ := sp
        have at6 := (S6.pin (a, oe4) (List.mem_append_left _ List.mem_cons_self)).1
        have J6 := retrack (o := exk a cls d) Fr (S6.unsuite ok) n6 (exk_ok at6 z4 d4)
        exact gone_ok J6 hN hi hln fun s7 J7 => ⟨_, _, J7, q6⟩
      | brk =>
        obtain ⟨_, _, _, q⟩ := sp
        exact q.elim
      | cont =>
        obtain ⟨_, _, _, q⟩ := sp
        exact q.elim
      | ret u =>
        obtain ⟨_, _, _, _, _, q⟩ := sp
        exact q.elim
  · cases fl with
    | next =>
      obtain ⟨σ', H', J', q⟩ := sp
      exact wpAny_execs_nil ⟨σ', H', J'.ofTry ok, q⟩
    | brk =>
      obtain ⟨σ', H', J', q⟩ := sp
      exact ⟨σ', H', J'.ofTry ok, q⟩
    | cont =>
      obtain ⟨σ', H', J', q⟩ := sp
      exact ⟨σ', H', J'.ofTry ok, q⟩
    | ret u =>
      obtain ⟨v, σ', H', J', r, q⟩ := sp
      exact ⟨v, σ', H', J'.ofTry ok, r, q⟩
end
/-- kept.f -/
def tKeptF (K : PySem.W.Frag) (f : Str) (te : TE) : TE := fun σ H Q => te σ H fun x H1 => ∃ (a C d : Addr) (fs : List (Str × V)) (v : V), x = .ref a ∧ ExcC K C ∧ PySem.W.findIn K (.ref C) f = some none ∧ H1 a = some (exk a (.ref C) (some d)) ∧ H1 d = some (.xd fs) ∧ fs.lookup f = some v ∧ Q v H1
theorem pe_keptF {X : Cx} {e : Expr} {te : TE} {pos : Pos} {n : Str} (he : PE X e te) (hb : attributeBase e n X.env (eval e X.env) = eval e X.env := by rfl) : PE X (.Attribute e n pos) (tKeptF X.K n te) := by
  refine ⟨fun pins s σ H Q I hyp => attr_of hb (thn (he.run pins s σ H _ I hyp) fun u s1 hh => ?_)⟩
  obtain ⟨x, H1, I1, rx, a, C, d, fs, v, ex, T, no, ea, ed, l, q⟩ := hh
  subst ex
  obtain rfl : u = Value.ref a := rx
  obtain ⟨oe, vs, at0, z0, dt⟩ := exk_at I1.hok ea
  obtain ⟨mA, nsD, rel⟩ := (show ObjOk X.prog X.w H1 s1.heap d (.xd fs) from I1.hok d _ ed)
  obtain ⟨od, ho, hl⟩ := lookIn_ns nsD
  obtain ⟨u, hu, ru⟩ := RelO.some_of (v := v) (o := mA n) (by rw [← l]; exact rel n)
  have J : PySem.W.InstAt s1.heap a oe C (some od) := ⟨at0, z0.1, by unfold PySem.W.notCls; rw [dt] <;> rfl, by rw [z0.2]; exact ho⟩
  exact HandSPX.exc_get I1.kIn J T.hg T.hk T.hs (PySem.W.findObj_own T.hd no rfl (by rw [hl, hu])) (handed_of ru) ⟨v, H1, I1.tok _, ru, q⟩
end EC

set_option maxHeartbeats 4000000
namespace K03
open PySem PySem.Spec PyProof.Rows L2 G3 G5 E2 E3 E4 E5 E7 E8 E9 EB EC
def topS (i : Nat) : Stmt := PySem.Challenge.pw_fewturnsover_k03_refusals_apart.main.body.getD i (.Pass ⟨0, 0, 0, 0⟩)
def initOf (s : Stmt) : Stmt := match s with
  | .ClassDef _ _ _ b _ _ _ _ _ _ _ => b.getD 0 (.Pass ⟨0, 0, 0, 0⟩)
  | s => s
abbrev initS (i : Nat) : Stmt := initOf (topS i)
/-- all that can be asked of the class by looking -/
def lookC (K : PySem.W.Frag) (C fI : Addr) (B newId initId : String) (bmB : List Value) (fn : List Str) : Bool :=
  PySem.W.excInitIn K C bmB newId && (PySem.W.excOver K C bmB && (PySem.W.hasDictIn K C && (decide (PySem.W.findIn K (.ref C) "__setattr__" = some (some (.builtin "object.__setattr__"))) && (decide (PySem.W.findIn K (.ref C) "__init__" = some (some (.ref fI))) &&
  (PySem.W.isFn K (.ref fI) && (decide (PySem.W.ks_superIn K C C "__init__" = some (some (.builtin initId))) && (decide (PySem.W.subIn K (.ref C) (.type B) = some true) && (decide (PySem.W.subIn K (.ref C) (.ref C) = some true) && (decide (PySem.W.nsIn K cStatics "thirdparty.any" = some none) &&
  (decide (PySem.W.subIn K (.ref C) (.type "BaseException") = some true) && (decide (PySem.W.typeIn K (.ref C) = some (.type "type")) && (PySem.W.keepIn K (.ref C) && (decide (PySem.W.findIn K (.ref C) "__getattribute__" = some (some (.builtin "BaseException.__getattribute__"))) &&
  (decide (PySem.W.findIn K (.ref C) "__getattr__" = some none) && (decide (PySem.W.findIn K (.ref C) "__class__" = some (some (.builtin "object.__class__"))) && (decide (PySem.W.specialIn K (.builtin "object.__class__") "__get__" = some (some (.builtin "getset_descriptor.__get__"))) &&
  (decide (PySem.W.takesIn K (.builtin "object.__class__") = some true) && (decide (PySem.W.mroIn K C (.type "object") = some true) && fn.all fun f => decide (PySem.W.takerIn K C f = some none) && decide (PySem.W.findIn K (.ref C) f = some none)))))))))))))))))))
theorem looked {K : PySem.W.Frag} {C fI : Addr} {B newId initId Bs : String} {bmB : List Value} {fn : List Str} (U : Under B newId initId Bs bmB) (h : lookC K C fI Bs newId initId bmB fn = true) :
    ExC K C fI B newId initId Bs bmB ∧ ExcC K C ∧ ∀ f ∈ fn, PySem.W.takerIn K C f = some none ∧ PySem.W.findIn K (.ref C) f = some none := by
  unfold lookC at h
  simp only [Bool.and_eq_true, decide_eq_true_eq, List.all_eq_true] at h
  obtain ⟨h1, h2, h3, h4, h5, h6, h7, h8, h9, h10, h11, h12, h13, h14, h15, h16, h17, h18, h19, h20⟩ := h
  obtain ⟨cd, hc, hd⟩ := PySem.W.any_some h3
  exact ⟨⟨U, h1, h2, ⟨cd, hc, hd⟩, h4, h5, h6, h7, h8, h9, h10, h11, h12, h13⟩, ⟨h14, h15, h11, h3, h16, h17, h18, h19⟩, h20⟩
/-- by place; by names, the last first -/
def kwG {α : Type} (k : Nat) (us ws : List α) : List α := match us with
  | [a] => a :: (ws.take k).reverse
  | _ => []
/-- an own error class that the law may make -/
structure Err (P : Program) (w : World) (K : PySem.W.Frag) (mg : Str → Option Value) (base : Heap) (nm : Str) (fn : List Str) where
  C : Addr
  fI : Addr
  fd : FuncData
  B : String
  newId : String
  initId : String
  Bs : String
  bmB : List Value
  g : mg nm = some (.ref C)
  T : ExC K C fI B newId initId Bs bmB
  E : ExcC K C
  ok : FnOk P w K mg base CX0 1 fI fd ("self" :: fn) (spI C fn)
  fld : ∀ f ∈ fn, PySem.W.findIn K (.ref C) f = some none
  kb : KBinds K fd ("self" :: fn) [] (fun us _ => us) (fun vs _ => vs)
  kn : KBinds K fd ("self" :: fn) fn.reverse (kwG fn.length) (kwG fn.length)
theorem vals_rev : ∀ {vs : List V} {us : List Value}, Vals vs us → Vals vs.reverse us.reverse
  | _, _, .nil => .nil
  | _, _, .cons r t => by
    rw [List.reverse_cons, List.reverse_cons]
    exact (vals_rev t).append (.cons r .nil)
theorem kw_rel {k : Nat} {vs zs : List V} {us ws : List Value} (r : Vals vs us) (rz : Vals zs ws) : Vals (kwG k vs zs) (kwG k us ws) := by
  match vs, us, r with
  | _, _, .nil => exact .nil
  | _, _, .cons r1 .nil => exact .cons r1 (vals_rev (rz.take k))
  | _, _, .cons r1 (.cons r2 r3) => exact .nil
theorem uValue : Under "ValueError" "ValueError.__new__" "ValueError.__init__" "ValueError" [.type "ValueError", .type "Exception", .type "BaseException", .type "object"] :=
  ⟨⟨_, _, F.excBase_ValueError⟩, InitF.of F.excBase_ValueError.toExcCallFacts, PySem.W.kxs_ValueError, F.store_ValueError, by decide +kernel, by decide +kernel, by decide +kernel⟩
theorem uIndex : Under "IndexError" "IndexError.__new__" "IndexError.__init__" "IndexError" [.type "IndexError", .type "LookupError", .type "Exception", .type "BaseException", .type "object"] :=
  ⟨⟨_, _, F.excBase_IndexError⟩, InitF.of F.excBase_IndexError.toExcCallFacts, PySem.W.kxs_IndexError, PySem.F.store_IndexError, by decide +kernel, by decide +kernel, by decide +kernel⟩
theorem uOver : Under "OverflowError" "OverflowError.__new__" "OverflowError.__init__" "OverflowError" [.type "OverflowError", .type "ArithmeticError", .type "Exception", .type "BaseException", .type "object"] :=
  ⟨⟨_, _, F.excBase_OverflowError⟩, InitF.of F.excBase_OverflowError.toExcCallFacts, PySem.W.kxs_OverflowError, PySem.F.store_OverflowError, by decide +kernel, by decide +kernel, by decide +kernel⟩
theorem uRun : Under "RuntimeError" "RuntimeError.__new__" "RuntimeError.__init__" "RuntimeError" [.type "RuntimeError", .type "Exception", .type "BaseException", .type "object"] :=
  ⟨⟨_, _, F.excBase_RuntimeError⟩, InitF.of F.excBase_RuntimeError.toExcCallFacts, PySem.W.kxs_RuntimeError, PySem.F.store_RuntimeError, by decide +kernel, by decide +kernel, by decide +kernel⟩
abbrev keyTail : List Value := [.type "KeyError", .type "LookupError", .type "Exception", .type "BaseException", .type "object"]
theorem key_store : StoreFacts "KeyError" keyTail "object.__setattr__" "object" := by
  refine { mro := by kernel_rfl, slot := ?_, entry := PySem.F.entry_object_sa, kind := by decide +kernel, split := by decide +kernel, hasOwner := by decide +kernel, args := fun a b c => by unfold argsOk; kernel_rfl, passes := fun self => by kernel_rfl }
  refine Slot.of (owner := "object") (n := "__setattr__") ?_ (by decide +kernel) (by decide +kernel) (by decide +kernel) ?_ ?_
  · rw [typeLookup_type, builtinLookup_eq_fast]
    kernel_rfl
  · first | exact .inl (by decide +kernel) | exact .inr (by decide +kernel)
  · rw [isSubtype_type]
    kernel_rfl
theorem key_get : PySem.W.KxsFacts "KeyError" "KeyError.__init__" := by
  refine ⟨?_, ?_⟩
  · show builtinType _ = _
    rw [builtinType_eq_fast]
    kernel_rfl
  · first | kernel_rfl | rfl
theorem uKey : Under "LookupError" "LookupError.__new__" "KeyError.__init__" "KeyError" keyTail :=
  ⟨⟨_, _, F.excBase_LookupError⟩, ⟨excClass_KeyError.initKind, excClass_KeyError.initSig, excClass_KeyError.notStar, excClass_KeyError.init.plain, excClass_KeyError.initEntry⟩, key_get, key_store, by decide +kernel, by decide +kernel, by decide +kernel⟩
end K03

set_option maxHeartbeats 4000000
namespace K03
open PySem PySem.Spec PyProof.Rows L2 G3 G5 E2 E3 E4 E5 E7 E8 E9 EB EC
section
variable {P : Program} {w : World} {K : PySem.W.Frag} {mg : Str → Option Value} {base h : Heap} {C fI : Addr} {fd : FuncData}
theorem nmOk {x : Str} (h : ((x == ("__debug__" : Str)) || (x == ("__classdict__" : Str))) = false) : Nm x := by
  rw [Bool.or_eq_false_iff] at h
  exact ⟨h.1, h.2⟩
theorem sc2 : InitScope ["self", "hand", "text", "row"] ["self", "hand", "text", "row"] (defScope (initS 2)) := ⟨rfl, rfl, rfl, by decide +kernel, rfl, by decide +kernel, by decide +kernel, by decide +kernel, rfl, rfl⟩
theorem mk2 (X : K.In h) (G : h.Ns mainGlobals mg) (ms : PySem.W.nsIn K mainGlobals "super" = some none) (a : PySem.W.nsIn K mainGlobals "NoProgram" = some (some (.ref C))) (l : lookC K C fI "ValueError" "ValueError.__new__" "ValueError.__init__" [.type "ValueError", .type "Exception", .type "BaseException", .type "object"] ["hand", "text", "row"] = true)
    (F : InitFn P K C fI "NoProgram.__init__" (defArgs (initS 2)) (defBody (initS 2)) (defScope (initS 2)) fd) : Nonempty (Err P w K mg base "NoProgram" ["hand", "text", "row"]) := by
  obtain ⟨T, E, fl⟩ := looked uValue l
  have F0 := F
  obtain ⟨oc, kV, doc, pm, cdv, ct, od, an, osl, cl, cc, ocl, occ, fv, file, tf, efd, _⟩ := F.ex
  subst efd
  have s0 := PySem.W.mg_none_of X G ms
  refine ⟨Err.mk C fI (fnCl "__init__" "NoProgram.__init__" (defArgs (initS 2)) (defBody (initS 2)) (defScope (initS 2)) kV doc pm an cdv ct cl) _ _ _ _ _ (PySem.W.mg_of X G a) T E ?_ (fun f hf => (fl f hf).2) ?_ ?_⟩
  · exact ok3 T F0 sc2 rfl rfl s0 ⟨fun L => ⟨_, rfl⟩, fun L => rfl, fun L => rfl⟩ (nmOk (by decide)) (fl "hand" (by simp)).1 (nmOk (by decide)) (fl "text" (by simp)).1 (nmOk (by decide)) (fl "row" (by simp)).1
  · exact ⟨fun s us ws _ hl => match us, hl with | [a, b0, b1, b2], _ => .of_eq rfl, fun r _ => r⟩
  · exact ⟨fun s us ws _ hl => match us, ws, hl with | [a], w0 :: w1 :: w2 :: _, _ => .of_eq rfl | [a], [], h => by simp [kwG] at h | [a], [w0], h => by simp [kwG] at h | [a], [w0, w1], h => by simp [kwG] at h | [], _, h => by simp [kwG] at h | _ :: _ :: _, _, h => by simp [kwG] at h, kw_rel⟩
theorem sc3 : InitScope ["self", "number", "at"] ["self", "number", "at"] (defScope (initS 3)) := ⟨rfl, rfl, rfl, by decide +kernel, rfl, by decide +kernel, by decide +kernel, by decide +kernel, rfl, rfl⟩
theorem mk3 (X : K.In h) (G : h.Ns mainGlobals mg) (ms : PySem.W.nsIn K mainGlobals "super" = some none) (a : PySem.W.nsIn K mainGlobals "NoRun" = some (some (.ref C))) (l : lookC K C fI "ValueError" "ValueError.__new__" "ValueError.__init__" [.type "ValueError", .type "Exception", .type "BaseException", .type "object"] ["number", "at"] = true)
    (F : InitFn P K C fI "NoRun.__init__" (defArgs (initS 3)) (defBody (initS 3)) (defScope (initS 3)) fd) : Nonempty (Err P w K mg base "NoRun" ["number", "at"]) := by
  obtain ⟨T, E, fl⟩ := looked uValue l
  have F0 := F
  obtain ⟨oc, kV, doc, pm, cdv, ct, od, an, osl, cl, cc, ocl, occ, fv, file, tf, efd, _⟩ := F.ex
  subst efd
  have s0 := PySem.W.mg_none_of X G ms
  refine ⟨Err.mk C fI (fnCl "__init__" "NoRun.__init__" (defArgs (initS 3)) (defBody (initS 3)) (defScope (initS 3)) kV doc pm an cdv ct cl) _ _ _ _ _ (PySem.W.mg_of X G a) T E ?_ (fun f hf => (fl f hf).2) ?_ ?_⟩
  · exact ok2 T F0 sc3 rfl rfl s0 ⟨fun L => ⟨_, rfl⟩, fun L => rfl, fun L => rfl⟩ (nmOk (by decide)) (fl "number" (by simp)).1 (nmOk (by decide)) (fl "at" (by simp)).1
  · exact ⟨fun s us ws _ hl => match us, hl with | [a, b0, b1], _ => .of_eq rfl, fun r _ => r⟩
  · exact ⟨fun s us ws _ hl => match us, ws, hl with | [a], w0 :: w1 :: _, _ => .of_eq rfl | [a], [], h => by simp [kwG] at h | [a], [w0], h => by simp [kwG] at h | [], _, h => by simp [kwG] at h | _ :: _ :: _, _, h => by simp [kwG] at h, kw_rel⟩
theorem sc4 : InitScope ["self"] ["self"] (defScope (initS 4)) := ⟨rfl, rfl, rfl, by decide +kernel, rfl, by decide +kernel, by decide +kernel, by decide +kernel, rfl, rfl⟩
theorem mk4 (X : K.In h) (G : h.Ns mainGlobals mg) (ms : PySem.W.nsIn K mainGlobals "super" = some none) (a : PySem.W.nsIn K mainGlobals "NoStand" = some (some (.ref C))) (l : lookC K C fI "ValueError" "ValueError.__new__" "ValueError.__init__" [.type "ValueError", .type "Exception", .type "BaseException", .type "object"] [] = true)
    (F : InitFn P K C fI "NoStand.__init__" (defArgs (initS 4)) (defBody (initS 4)) (defScope (initS 4)) fd) : Nonempty (Err P w K mg base "NoStand" []) := by
  obtain ⟨T, E, fl⟩ := looked uValue l
  have F0 := F
  obtain ⟨oc, kV, doc, pm, cdv, ct, od, an, osl, cl, cc, ocl, occ, fv, file, tf, efd, _⟩ := F.ex
  subst efd
  have s0 := PySem.W.mg_none_of X G ms
  refine ⟨Err.mk C fI (fnCl "__init__" "NoStand.__init__" (defArgs (initS 4)) (defBody (initS 4)) (defScope (initS 4)) kV doc pm an cdv ct cl) _ _ _ _ _ (PySem.W.mg_of X G a) T E ?_ (fun f hf => (fl f hf).2) ?_ ?_⟩
  · exact ok0 T F0 sc4 rfl rfl s0 ⟨fun L => ⟨_, rfl⟩, fun L => rfl, fun L => rfl⟩ 
  · exact ⟨fun s us ws _ hl => match us, hl with | [a], _ => .of_eq rfl, fun r _ => r⟩
  · exact ⟨fun s us ws _ hl => match us, ws, hl with | [a], _, _ => .of_eq rfl | [], _, h => by simp [kwG] at h | _ :: _ :: _, _, h => by simp [kwG] at h, kw_rel⟩
theorem sc5 : InitScope ["self"] ["self"] (defScope (initS 5)) := ⟨rfl, rfl, rfl, by decide +kernel, rfl, by decide +kernel, by decide +kernel, by decide +kernel, rfl, rfl⟩
theorem mk5 (X : K.In h) (G : h.Ns mainGlobals mg) (ms : PySem.W.nsIn K mainGlobals "super" = some none) (a : PySem.W.nsIn K mainGlobals "NoMachine" = some (some (.ref C))) (l : lookC K C fI "ValueError" "ValueError.__new__" "ValueError.__init__" [.type "ValueError", .type "Exception", .type "BaseException", .type "object"] [] = true)
    (F : InitFn P K C fI "NoMachine.__init__" (defArgs (initS 5)) (defBody (initS 5)) (defScope (initS 5)) fd) : Nonempty (Err P w K mg base "NoMachine" []) := by
  obtain ⟨T, E, fl⟩ := looked uValue l
  have F0 := F
  obtain ⟨oc, kV, doc, pm, cdv, ct, od, an, osl, cl, cc, ocl, occ, fv, file, tf, efd, _⟩ := F.ex
  subst efd
  have s0 := PySem.W.mg_none_of X G ms
  refine ⟨Err.mk C fI (fnCl "__init__" "NoMachine.__init__" (defArgs (initS 5)) (defBody (initS 5)) (defScope (initS 5)) kV doc pm an cdv ct cl) _ _ _ _ _ (PySem.W.mg_of X G a) T E ?_ (fun f hf => (fl f hf).2) ?_ ?_⟩
  · exact ok0 T F0 sc5 rfl rfl s0 ⟨fun L => ⟨_, rfl⟩, fun L => rfl, fun L => rfl⟩ 
  · exact ⟨fun s us ws _ hl => match us, hl with | [a], _ => .of_eq rfl, fun r _ => r⟩
  · exact ⟨fun s us ws _ hl => match us, ws, hl with | [a], _, _ => .of_eq rfl | [], _, h => by simp [kwG] at h | _ :: _ :: _, _, h => by simp [kwG] at h, kw_rel⟩
theorem sc6 : InitScope ["self"] ["self"] (defScope (initS 6)) := ⟨rfl, rfl, rfl, by decide +kernel, rfl, by decide +kernel, by decide +kernel, by decide +kernel, rfl, rfl⟩
theorem mk6 (X : K.In h) (G : h.Ns mainGlobals mg) (ms : PySem.W.nsIn K mainGlobals "super" = some none) (a : PySem.W.nsIn K mainGlobals "NoLimit" = some (some (.ref C))) (l : lookC K C fI "ValueError" "ValueError.__new__" "ValueError.__init__" [.type "ValueError", .type "Exception", .type "BaseException", .type "object"] [] = true)
    (F : InitFn P K C fI "NoLimit.__init__" (defArgs (initS 6)) (defBody (initS 6)) (defScope (initS 6)) fd) : Nonempty (Err P w K mg base "NoLimit" []) := by
  obtain ⟨T, E, fl⟩ := looked uValue l
  have F0 := F
  obtain ⟨oc, kV, doc, pm, cdv, ct, od, an, osl, cl, cc, ocl, occ, fv, file, tf, efd, _⟩ := F.ex
  subst efd
  have s0 := PySem.W.mg_none_of X G ms
  refine ⟨Err.mk C fI (fnCl "__init__" "NoLimit.__init__" (defArgs (initS 6)) (defBody (initS 6)) (defScope (initS 6)) kV doc pm an cdv ct cl) _ _ _ _ _ (PySem.W.mg_of X G a) T E ?_ (fun f hf => (fl f hf).2) ?_ ?_⟩
  · exact ok0 T F0 sc6 rfl rfl s0 ⟨fun L => ⟨_, rfl⟩, fun L => rfl, fun L => rfl⟩ 
  · exact ⟨fun s us ws _ hl => match us, hl with | [a], _ => .of_eq rfl, fun r _ => r⟩
  · exact ⟨fun s us ws _ hl => match us, ws, hl with | [a], _, _ => .of_eq rfl | [], _, h => by simp [kwG] at h | _ :: _ :: _, _, h => by simp [kwG] at h, kw_rel⟩
theorem sc7 : InitScope ["self"] ["self"] (defScope (initS 7)) := ⟨rfl, rfl, rfl, by decide +kernel, rfl, by decide +kernel, by decide +kernel, by decide +kernel, rfl, rfl⟩
theorem mk7 (X : K.In h) (G : h.Ns mainGlobals mg) (ms : PySem.W.nsIn K mainGlobals "super" = some none) (a : PySem.W.nsIn K mainGlobals "NoOrder" = some (some (.ref C))) (l : lookC K C fI "ValueError" "ValueError.__new__" "ValueError.__init__" [.type "ValueError", .type "Exception", .type "BaseException", .type "object"] [] = true)
    (F : InitFn P K C fI "NoOrder.__init__" (defArgs (initS 7)) (defBody (initS 7)) (defScope (initS 7)) fd) : Nonempty (Err P w K mg base "NoOrder" []) := by
  obtain ⟨T, E, fl⟩ := looked uValue l
  have F0 := F
  obtain ⟨oc, kV, doc, pm, cdv, ct, od, an, osl, cl, cc, ocl, occ, fv, file, tf, efd, _⟩ := F.ex
  subst efd
  have s0 := PySem.W.mg_none_of X G ms
  refine ⟨Err.mk C fI (fnCl "__init__" "NoOrder.__init__" (defArgs (initS 7)) (defBody (initS 7)) (defScope (initS 7)) kV doc pm an cdv ct cl) _ _ _ _ _ (PySem.W.mg_of X G a) T E ?_ (fun f hf => (fl f hf).2) ?_ ?_⟩
  · exact ok0 T F0 sc7 rfl rfl s0 ⟨fun L => ⟨_, rfl⟩, fun L => rfl, fun L => rfl⟩ 
  · exact ⟨fun s us ws _ hl => match us, hl with | [a], _ => .of_eq rfl, fun r _ => r⟩
  · exact ⟨fun s us ws _ hl => match us, ws, hl with | [a], _, _ => .of_eq rfl | [], _, h => by simp [kwG] at h | _ :: _ :: _, _, h => by simp [kwG] at h, kw_rel⟩
theorem sc8 : InitScope ["self", "row"] ["self", "row"] (defScope (initS 8)) := ⟨rfl, rfl, rfl, by decide +kernel, rfl, by decide +kernel, by decide +kernel, by decide +kernel, rfl, rfl⟩
theorem mk8 (X : K.In h) (G : h.Ns mainGlobals mg) (ms : PySem.W.nsIn K mainGlobals "super" = some none) (a : PySem.W.nsIn K mainGlobals "NoText" = some (some (.ref C))) (l : lookC K C fI "ValueError" "ValueError.__new__" "ValueError.__init__" [.type "ValueError", .type "Exception", .type "BaseException", .type "object"] ["row"] = true)
    (F : InitFn P K C fI "NoText.__init__" (defArgs (initS 8)) (defBody (initS 8)) (defScope (initS 8)) fd) : Nonempty (Err P w K mg base "NoText" ["row"]) := by
  obtain ⟨T, E, fl⟩ := looked uValue l
  have F0 := F
  obtain ⟨oc, kV, doc, pm, cdv, ct, od, an, osl, cl, cc, ocl, occ, fv, file, tf, efd, _⟩ := F.ex
  subst efd
  have s0 := PySem.W.mg_none_of X G ms
  refine ⟨Err.mk C fI (fnCl "__init__" "NoText.__init__" (defArgs (initS 8)) (defBody (initS 8)) (defScope (initS 8)) kV doc pm an cdv ct cl) _ _ _ _ _ (PySem.W.mg_of X G a) T E ?_ (fun f hf => (fl f hf).2) ?_ ?_⟩
  · exact ok1 T F0 sc8 rfl rfl s0 ⟨fun L => ⟨_, rfl⟩, fun L => rfl, fun L => rfl⟩ (nmOk (by decide)) (fl "row" (by simp)).1
  · exact ⟨fun s us ws _ hl => match us, hl with | [a, b0], _ => .of_eq rfl, fun r _ => r⟩
  · exact ⟨fun s us ws _ hl => match us, ws, hl with | [a], w0 :: _, _ => .of_eq rfl | [a], [], h => by simp [kwG] at h | [], _, h => by simp [kwG] at h | _ :: _ :: _, _, h => by simp [kwG] at h, kw_rel⟩
theorem sc9 : InitScope ["self"] ["self"] (defScope (initS 9)) := ⟨rfl, rfl, rfl, by decide +kernel, rfl, by decide +kernel, by decide +kernel, by decide +kernel, rfl, rfl⟩
theorem mk9 (X : K.In h) (G : h.Ns mainGlobals mg) (ms : PySem.W.nsIn K mainGlobals "super" = some none) (a : PySem.W.nsIn K mainGlobals "NoRow" = some (some (.ref C))) (l : lookC K C fI "ValueError" "ValueError.__new__" "ValueError.__init__" [.type "ValueError", .type "Exception", .type "BaseException", .type "object"] [] = true)
    (F : InitFn P K C fI "NoRow.__init__" (defArgs (initS 9)) (defBody (initS 9)) (defScope (initS 9)) fd) : Nonempty (Err P w K mg base "NoRow" []) := by
  obtain ⟨T, E, fl⟩ := looked uValue l
  have F0 := F
  obtain ⟨oc, kV, doc, pm, cdv, ct, od, an, osl, cl, cc, ocl, occ, fv, file, tf, efd, _⟩ := F.ex
  subst efd
  have s0 := PySem.W.mg_none_of X G ms
  refine ⟨Err.mk C fI (fnCl "__init__" "NoRow.__init__" (defArgs (initS 9)) (defBody (initS 9)) (defScope (initS 9)) kV doc pm an cdv ct cl) _ _ _ _ _ (PySem.W.mg_of X G a) T E ?_ (fun f hf => (fl f hf).2) ?_ ?_⟩
  · exact ok0 T F0 sc9 rfl rfl s0 ⟨fun L => ⟨_, rfl⟩, fun L => rfl, fun L => rfl⟩ 
  · exact ⟨fun s us ws _ hl => match us, hl with | [a], _ => .of_eq rfl, fun r _ => r⟩
  · exact ⟨fun s us ws _ hl => match us, ws, hl with | [a], _, _ => .of_eq rfl | [], _, h => by simp [kwG] at h | _ :: _ :: _, _, h => by simp [kwG] at h, kw_rel⟩
theorem sc10 : InitScope ["self", "hand"] ["self", "hand"] (defScope (initS 10)) := ⟨rfl, rfl, rfl, by decide +kernel, rfl, by decide +kernel, by decide +kernel, by decide +kernel, rfl, rfl⟩
theorem mk10 (X : K.In h) (G : h.Ns mainGlobals mg) (ms : PySem.W.nsIn K mainGlobals "super" = some none) (a : PySem.W.nsIn K mainGlobals "NoHand" = some (some (.ref C))) (l : lookC K C fI "IndexError" "IndexError.__new__" "IndexError.__init__" [.type "IndexError", .type "LookupError", .type "Exception", .type "BaseException", .type "object"] ["hand"] = true)
    (F : InitFn P K C fI "NoHand.__init__" (defArgs (initS 10)) (defBody (initS 10)) (defScope (initS 10)) fd) : Nonempty (Err P w K mg base "NoHand" ["hand"]) := by
  obtain ⟨T, E, fl⟩ := looked uIndex l
  have F0 := F
  obtain ⟨oc, kV, doc, pm, cdv, ct, od, an, osl, cl, cc, ocl, occ, fv, file, tf, efd, _⟩ := F.ex
  subst efd
  have s0 := PySem.W.mg_none_of X G ms
  refine ⟨Err.mk C fI (fnCl "__init__" "NoHand.__init__" (defArgs (initS 10)) (defBody (initS 10)) (defScope (initS 10)) kV doc pm an cdv ct cl) _ _ _ _ _ (PySem.W.mg_of X G a) T E ?_ (fun f hf => (fl f hf).2) ?_ ?_⟩
  · exact ok1 T F0 sc10 rfl rfl s0 ⟨fun L => ⟨_, rfl⟩, fun L => rfl, fun L => rfl⟩ (nmOk (by decide)) (fl "hand" (by simp)).1
  · exact ⟨fun s us ws _ hl => match us, hl with | [a, b0], _ => .of_eq rfl, fun r _ => r⟩
  · exact ⟨fun s us ws _ hl => match us, ws, hl with | [a], w0 :: _, _ => .of_eq rfl | [a], [], h => by simp [kwG] at h | [], _, h => by simp [kwG] at h | _ :: _ :: _, _, h => by simp [kwG] at h, kw_rel⟩
theorem sc11 : InitScope ["self", "point"] ["self", "point"] (defScope (initS 11)) := ⟨rfl, rfl, rfl, by decide +kernel, rfl, by decide +kernel, by decide +kernel, by decide +kernel, rfl, rfl⟩
theorem mk11 (X : K.In h) (G : h.Ns mainGlobals mg) (ms : PySem.W.nsIn K mainGlobals "super" = some none) (a : PySem.W.nsIn K mainGlobals "NoPoint" = some (some (.ref C))) (l : lookC K C fI "IndexError" "IndexError.__new__" "IndexError.__init__" [.type "IndexError", .type "LookupError", .type "Exception", .type "BaseException", .type "object"] ["point"] = true)
    (F : InitFn P K C fI "NoPoint.__init__" (defArgs (initS 11)) (defBody (initS 11)) (defScope (initS 11)) fd) : Nonempty (Err P w K mg base "NoPoint" ["point"]) := by
  obtain ⟨T, E, fl⟩ := looked uIndex l
  have F0 := F
  obtain ⟨oc, kV, doc, pm, cdv, ct, od, an, osl, cl, cc, ocl, occ, fv, file, tf, efd, _⟩ := F.ex
  subst efd
  have s0 := PySem.W.mg_none_of X G ms
  refine ⟨Err.mk C fI (fnCl "__init__" "NoPoint.__init__" (defArgs (initS 11)) (defBody (initS 11)) (defScope (initS 11)) kV doc pm an cdv ct cl) _ _ _ _ _ (PySem.W.mg_of X G a) T E ?_ (fun f hf => (fl f hf).2) ?_ ?_⟩
  · exact ok1 T F0 sc11 rfl rfl s0 ⟨fun L => ⟨_, rfl⟩, fun L => rfl, fun L => rfl⟩ (nmOk (by decide)) (fl "point" (by simp)).1
  · exact ⟨fun s us ws _ hl => match us, hl with | [a, b0], _ => .of_eq rfl, fun r _ => r⟩
  · exact ⟨fun s us ws _ hl => match us, ws, hl with | [a], w0 :: _, _ => .of_eq rfl | [a], [], h => by simp [kwG] at h | [], _, h => by simp [kwG] at h | _ :: _ :: _, _, h => by simp [kwG] at h, kw_rel⟩
theorem sc12 : InitScope ["self", "choice"] ["self", "choice"] (defScope (initS 12)) := ⟨rfl, rfl, rfl, by decide +kernel, rfl, by decide +kernel, by decide +kernel, by decide +kernel, rfl, rfl⟩
theorem mk12 (X : K.In h) (G : h.Ns mainGlobals mg) (ms : PySem.W.nsIn K mainGlobals "super" = some none) (a : PySem.W.nsIn K mainGlobals "NoChoice" = some (some (.ref C))) (l : lookC K C fI "KeyError" "LookupError.__new__" "KeyError.__init__" keyTail ["choice"] = true)
    (F : InitFn P K C fI "NoChoice.__init__" (defArgs (initS 12)) (defBody (initS 12)) (defScope (initS 12)) fd) : Nonempty (Err P w K mg base "NoChoice" ["choice"]) := by
  obtain ⟨T, E, fl⟩ := looked uKey l
  have F0 := F
  obtain ⟨oc, kV, doc, pm, cdv, ct, od, an, osl, cl, cc, ocl, occ, fv, file, tf, efd, _⟩ := F.ex
  subst efd
  have s0 := PySem.W.mg_none_of X G ms
  refine ⟨Err.mk C fI (fnCl "__init__" "NoChoice.__init__" (defArgs (initS 12)) (defBody (initS 12)) (defScope (initS 12)) kV doc pm an cdv ct cl) _ _ _ _ _ (PySem.W.mg_of X G a) T E ?_ (fun f hf => (fl f hf).2) ?_ ?_⟩
  · exact ok1 T F0 sc12 rfl rfl s0 ⟨fun L => ⟨_, rfl⟩, fun L => rfl, fun L => rfl⟩ (nmOk (by decide)) (fl "choice" (by simp)).1
  · exact ⟨fun s us ws _ hl => match us, hl with | [a, b0], _ => .of_eq rfl, fun r _ => r⟩
  · exact ⟨fun s us ws _ hl => match us, ws, hl with | [a], w0 :: _, _ => .of_eq rfl | [a], [], h => by simp [kwG] at h | [], _, h => by simp [kwG] at h | _ :: _ :: _, _, h => by simp [kwG] at h, kw_rel⟩
theorem sc13 : InitScope ["self", "name"] ["self", "name"] (defScope (initS 13)) := ⟨rfl, rfl, rfl, by decide +kernel, rfl, by decide +kernel, by decide +kernel, by decide +kernel, rfl, rfl⟩
theorem mk13 (X : K.In h) (G : h.Ns mainGlobals mg) (ms : PySem.W.nsIn K mainGlobals "super" = some none) (a : PySem.W.nsIn K mainGlobals "NoName" = some (some (.ref C))) (l : lookC K C fI "KeyError" "LookupError.__new__" "KeyError.__init__" keyTail ["name"] = true)
    (F : InitFn P K C fI "NoName.__init__" (defArgs (initS 13)) (defBody (initS 13)) (defScope (initS 13)) fd) : Nonempty (Err P w K mg base "NoName" ["name"]) := by
  obtain ⟨T, E, fl⟩ := looked uKey l
  have F0 := F
  obtain ⟨oc, kV, doc, pm, cdv, ct, od, an, osl, cl, cc, ocl, occ, fv, file, tf, efd, _⟩ := F.ex
  subst efd
  have s0 := PySem.W.mg_none_of X G ms
  refine ⟨Err.mk C fI (fnCl "__init__" "NoName.__init__" (defArgs (initS 13)) (defBody (initS 13)) (defScope (initS 13)) kV doc pm an cdv ct cl) _ _ _ _ _ (PySem.W.mg_of X G a) T E ?_ (fun f hf => (fl f hf).2) ?_ ?_⟩
  · exact ok1 T F0 sc13 rfl rfl s0 ⟨fun L => ⟨_, rfl⟩, fun L => rfl, fun L => rfl⟩ (nmOk (by decide)) (fl "name" (by simp)).1
  · exact ⟨fun s us ws _ hl => match us, hl with | [a, b0], _ => .of_eq rfl, fun r _ => r⟩
  · exact ⟨fun s us ws _ hl => match us, ws, hl with | [a], w0 :: _, _ => .of_eq rfl | [a], [], h => by simp [kwG] at h | [], _, h => by simp [kwG] at h | _ :: _ :: _, _, h => by simp [kwG] at h, kw_rel⟩
theorem sc14 : InitScope ["self", "many"] ["self", "many"] (defScope (initS 14)) := ⟨rfl, rfl, rfl, by decide +kernel, rfl, by decide +kernel, by decide +kernel, by decide +kernel, rfl, rfl⟩
theorem mk14 (X : K.In h) (G : h.Ns mainGlobals mg) (ms : PySem.W.nsIn K mainGlobals "super" = some none) (a : PySem.W.nsIn K mainGlobals "TooMany" = some (some (.ref C))) (l : lookC K C fI "OverflowError" "OverflowError.__new__" "OverflowError.__init__" [.type "OverflowError", .type "ArithmeticError", .type "Exception", .type "BaseException", .type "object"] ["many"] = true)
    (F : InitFn P K C fI "TooMany.__init__" (defArgs (initS 14)) (defBody (initS 14)) (defScope (initS 14)) fd) : Nonempty (Err P w K mg base "TooMany" ["many"]) := by
  obtain ⟨T, E, fl⟩ := looked uOver l
  have F0 := F
  obtain ⟨oc, kV, doc, pm, cdv, ct, od, an, osl, cl, cc, ocl, occ, fv, file, tf, efd, _⟩ := F.ex
  subst efd
  have s0 := PySem.W.mg_none_of X G ms
  refine ⟨Err.mk C fI (fnCl "__init__" "TooMany.__init__" (defArgs (initS 14)) (defBody (initS 14)) (defScope (initS 14)) kV doc pm an cdv ct cl) _ _ _ _ _ (PySem.W.mg_of X G a) T E ?_ (fun f hf => (fl f hf).2) ?_ ?_⟩
  · exact ok1 T F0 sc14 rfl rfl s0 ⟨fun L => ⟨_, rfl⟩, fun L => rfl, fun L => rfl⟩ (nmOk (by decide)) (fl "many" (by simp)).1
  · exact ⟨fun s us ws _ hl => match us, hl with | [a, b0], _ => .of_eq rfl, fun r _ => r⟩
  · exact ⟨fun s us ws _ hl => match us, ws, hl with | [a], w0 :: _, _ => .of_eq rfl | [a], [], h => by simp [kwG] at h | [], _, h => by simp [kwG] at h | _ :: _ :: _, _, h => by simp [kwG] at h, kw_rel⟩
theorem sc15 : InitScope ["self"] ["self"] (defScope (initS 15)) := ⟨rfl, rfl, rfl, by decide +kernel, rfl, by decide +kernel, by decide +kernel, by decide +kernel, rfl, rfl⟩
theorem mk15 (X : K.In h) (G : h.Ns mainGlobals mg) (ms : PySem.W.nsIn K mainGlobals "super" = some none) (a : PySem.W.nsIn K mainGlobals "Bare" = some (some (.ref C))) (l : lookC K C fI "RuntimeError" "RuntimeError.__new__" "RuntimeError.__init__" [.type "RuntimeError", .type "Exception", .type "BaseException", .type "object"] [] = true)
    (F : InitFn P K C fI "Bare.__init__" (defArgs (initS 15)) (defBody (initS 15)) (defScope (initS 15)) fd) : Nonempty (Err P w K mg base "Bare" []) := by
  obtain ⟨T, E, fl⟩ := looked uRun l
  have F0 := F
  obtain ⟨oc, kV, doc, pm, cdv, ct, od, an, osl, cl, cc, ocl, occ, fv, file, tf, efd, _⟩ := F.ex
  subst efd
  have s0 := PySem.W.mg_none_of X G ms
  refine ⟨Err.mk C fI (fnCl "__init__" "Bare.__init__" (defArgs (initS 15)) (defBody (initS 15)) (defScope (initS 15)) kV doc pm an cdv ct cl) _ _ _ _ _ (PySem.W.mg_of X G a) T E ?_ (fun f hf => (fl f hf).2) ?_ ?_⟩
  · exact ok0 T F0 sc15 rfl rfl s0 ⟨fun L => ⟨_, rfl⟩, fun L => rfl, fun L => rfl⟩ 
  · exact ⟨fun s us ws _ hl => match us, hl with | [a], _ => .of_eq rfl, fun r _ => r⟩
  · exact ⟨fun s us ws _ hl => match us, ws, hl with | [a], _, _ => .of_eq rfl | [], _, h => by simp [kwG] at h | _ :: _ :: _, _, h => by simp [kwG] at h, kw_rel⟩
end
end K03

set_option maxHeartbeats 4000000
namespace K03
open PySem PySem.Spec PyProof.Rows L2 G3 G5 E2 E3 E4 E5 E7 E8 E9 EB EC
abbrev sPool : Stmt := topS 17
abbrev sTake : Stmt := topS 18
theorem scPool : FnScope ["_law_script", "_law_k", "_law_cell", "_law_mixed"] ["_law_script", "_law_k"] (defScope sPool) := ⟨rfl, rfl, rfl, by decide +kernel, rfl, by decide +kernel, by decide +kernel⟩
theorem scTake : FnScope ["_law_pool_here", "_law_size", "_law_found"] ["_law_pool_here", "_law_size"] (defScope sTake) := ⟨rfl, rfl, rfl, by decide +kernel, rfl, by decide +kernel, by decide +kernel⟩
section
variable {P : Program} {w : World} {K : PySem.W.Frag} {mg : Str → Option Value} {base : Heap}

/-- what a pool holds -/
def Pool (H : Hp) (p : Addr) : Prop := ∃ x y : Int, H p = some (.lst [.int x, .int y]) ∧ 0 ≤ x ∧ 0 ≤ y ∧ y < 2147483647
def spTake : Sp := fun vs H Q _ => ∃ (p : Addr) (m : Int), vs = [.ref p, .int m] ∧ Pool H p ∧ 0 < m ∧ m < 1073741824 ∧
  ∀ (x y r : Int), 0 ≤ x → 0 ≤ y → y < 2147483647 → 0 ≤ r → r < m → Q (.int r) (upd H p (.lst [.int x, .int y]))
def spPool (K : PySem.W.Frag) : Sp := fun vs H Q _ => ∃ (a : Addr) (ns : List Int) (k : Nat), vs = [.ref a, .int k] ∧ SqL K H a (ns.map V.int) ∧ k ≤ 1000 ∧
  ∀ (p : Addr) (x y : Int), H p = none → 0 ≤ x → 0 ≤ y → y < 2147483647 → Q (.ref p) (upd H p (.lst [.int x, .int y]))

theorem ok_take {f : Addr} {fd : FuncData} {k : Nat} (F : Fun K "_law_take" "_law_take" sTake f fd) : FnOk P w K mg base CX0 (k + 1) f fd ["_law_pool_here", "_law_size"] spTake := by
  refine F.ok scTake (fun vs H Q E h => ?_) (fun cdv A outer s H vs Q E hr h => ?_)
  · obtain ⟨p, m, rfl, _⟩ := h
    rfl
  · obtain ⟨p, m, rfl, ⟨x, y, hp, hx, hy, hy2⟩, hm, hm2, q⟩ := h
    have nd := scTake.nd
    refine ⟨_, pss_cons (ps_if (pt_cmpR op_gt (pe_ix ix_list (pv 0) pe_int (fun _ _ => rfl)) pe_int (nomark _))
        (pss_cons (ps_set (i := 2) nd rfl (.inl rfl) (pe_op op_mod (pe_ix ix_list (pv 0) pe_int (fun _ _ => rfl)) (pv 1)))
        (pss_cons (ps_asg (pe_op op_fdiv (pe_ix ix_list (pv 0) pe_int (fun _ _ => rfl)) (pv 1)) (pg_sub (pv 0) pe_int set_list))
        (pss_one (ps_ret (pv 2))))) pss_nil)
      (pss_cons (ps_asg (pe_op op_mod (pe_op op_add (pe_op op_mul (pe_ix ix_list (pv 0) pe_int (fun _ _ => rfl)) pe_int) pe_int) pe_int) (pg_sub (pv 0) pe_int set_list))
      (pss_one (ps_ret (pe_op op_mod (pe_op op_fdiv (pe_op op_mod (pe_op op_mul (pe_ix ix_list (pv 0) pe_int (fun _ _ => rfl)) (pe_ix ix_list (pv 0) pe_int (fun _ _ => rfl))) pe_int) pe_int) (pv 1))))), ?_⟩
    have g0 : atI [V.int x, V.int y] 0 = some (V.int x) := atI_nat (j := 0) rfl
    have g1 : atI [V.int x, V.int y] 1 = some (V.int y) := atI_nat (j := 1) rfl
    refine ⟨_, rfl, p, _, 0, _, rfl, rfl, SqL.of hp, g0, x, 0, rfl, rfl, _, rfl, ite2 (fun e => ?_) (fun e => ?_)⟩
    · -- the great cell
      have hd1 : 0 ≤ x / m := Int.ediv_nonneg hx (Int.le_of_lt hm)
      refine ⟨_, rfl, p, _, 0, _, rfl, rfl, SqL.of hp, g0, _, rfl, x, m, rfl, rfl, hm, ?_⟩
      refine ⟨_, rfl, p, _, 0, _, rfl, rfl, SqL.of hp, g0, _, rfl, x, m, rfl, rfl, ⟨hm, hm2⟩, ?_⟩
      refine ⟨_, rfl, p, _, 0, 0, rfl, rfl, hp, rfl, _, rfl, ?_⟩
      exact q _ _ _ hd1 hy hy2 (Int.emod_nonneg x (by omega)) (Int.emod_lt_of_pos x hm)
    · have hz1 : 0 ≤ (y * 48271 + 12345) % 2147483647 := Int.emod_nonneg _ (by decide)
      have hz2 : (y * 48271 + 12345) % 2147483647 < 2147483647 := Int.emod_lt_of_pos _ (by decide)
      refine ⟨_, rfl, p, _, 1, _, rfl, rfl, SqL.of hp, g1, y, 48271, rfl, rfl, .inr ⟨by decide, by decide⟩, _, _, rfl, rfl, _, _, rfl, rfl, (show (0 : Int) < 2147483647 by decide), ?_⟩
      refine ⟨_, rfl, p, _, 1, 1, rfl, rfl, hp, rfl, ?_⟩
      have g2 : atI ([V.int x, V.int y].set 1 (V.int ((y * 48271 + 12345) % 2147483647))) 1 = some (V.int ((y * 48271 + 12345) % 2147483647)) := atI_nat (j := 1) rfl
      refine ⟨_, rfl, p, _, 1, _, rfl, rfl, SqL.of upd_same, g2, _, rfl, p, _, 1, _, rfl, rfl, SqL.of upd_same, g2, _, _, rfl, rfl, .inl ⟨by omega, by omega⟩, ?_⟩
      refine ⟨_, _, rfl, rfl, (show (0 : Int) < 2147483629 by decide), _, _, rfl, rfl, ⟨by decide, by decide⟩, _, rfl, _, m, rfl, rfl, hm, ?_⟩
      exact q _ _ _ hx hz1 hz2 (Int.emod_nonneg _ (by omega)) (Int.emod_lt_of_pos _ hm)

theorem ok_pool {f : Addr} {fd : FuncData} {k : Nat} (F : Fun K "_law_pool" "_law_pool" sPool f fd) (ml : mg "len" = none) (ma : mg "abs" = none) (mi : mg "int" = none) : FnOk P w K mg base CX0 (k + 1) f fd ["_law_script", "_law_k"] (spPool K) := by
  refine F.ok scPool (fun vs H Q E h => ?_) (fun cdv A outer s H vs Q E hr h => ?_)
  · obtain ⟨a, ns, k, rfl, _⟩ := h
    rfl
  · obtain ⟨a, ns, k, rfl, hS, hk, q⟩ := h
    have nd := scPool.nd
    refine ⟨_, pss_cons (ps_set (i := 2) nd rfl (.inl rfl) pe_int)
      (pss_cons (ps_if (pt_cmpR op_lt (pv 1) (pe_callB call_len_seq (by rfl) ml PySem.boot_len (pa_cons (pv 0) pa_nil)) (nomark _))
        (pss_one (ps_set (i := 2) nd rfl (.inl rfl) (pe_callB call_abs (by rfl) ma (by decide +kernel) (pa_cons (pe_ix ix_list (pv 0) (pv 1) (fun _ _ => rfl)) pa_nil)))) pss_nil)
      (pss_cons (ps_set (i := 3) nd rfl (.inl rfl) (pe_op op_mod (pe_op op_mul (pe_op op_add (pe_op op_add (pe_op op_add (pe_op op_mod (pv 2) pe_int) (pe_op op_mul (pe_op op_mul pe_int (pv 1)) (pv 1))) (pe_op op_mul pe_int (pv 1))) pe_int) pe_int) pe_int))
      (pss_one (ps_ret (pe_lst (pa_cons (pe_op op_mul (pv 2) (pe_callTy call_int1 (by rfl) mi (by decide +kernel) (pa_cons (pe_cmpR op_ge (pv 2) (pe_op op_pow pe_int pe_int) (nomark _)) pa_nil)))
        (pa_cons (pe_op op_mod (pe_op op_mul (pv 3) (pv 3)) pe_int) pa_nil))))))), ?_⟩
    -- what follows once the cell is known
    have rest : ∀ c : Int, 0 ≤ c → (tSeq (tAsg (tOp (rI (fun _ j => 0 < j) fun i j => .int (i % j)) (tOp (rI CMul fun i j => .int (i * j)) (tOp (rI0 fun i j => .int (i + j)) (tOp (rI0 fun i j => .int (i + j)) (tOp (rI0 fun i j => .int (i + j)) (tOp (rI (fun _ j => 0 < j) fun i j => .int (i % j)) (tVar 2) (tC (.int 2147483629))) (tOp (rI CMul fun i j => .int (i * j)) (tOp (rI CMul fun i j => .int (i * j)) (tC (.int 7919)) (tVar 1)) (tVar 1))) (tOp (rI CMul fun i j => .int (i * j)) (tC (.int 31)) (tVar 1))) (tC (.int 17))) (tC (.int 48271))) (tC (.int 2147483647))) (gName 3))
        (tRet (tLst (tCons (tOp (rI CMul fun i j => .int (i * j)) (tVar 2) (tCB (fun xs H Q => (∃ i, xs = [.int i] ∧ Q (.int i) H) ∨ ∃ k, xs = [.bl k] ∧ Q (.int (if k then 1 else 0)) H) (tCons (tOp (rI0 fun i j => .bl (decide (j ≤ i))) (tVar 2) (tOp (rI CPow fun i j => .int (i ^ j.toNat)) (tC (.int 10)) (tC (.int 18)))) tNil)))
          (tCons (tOp (rI (fun _ j => 0 < j) fun i j => .int (i % j)) (tOp (rI CMul fun i j => .int (i * j)) (tVar 3) (tVar 3)) (tC (.int 2147483629))) tNil)))))
        { nx := fun _ H' => Q .non H', rt := Q } [some (.ref a), some (.int k), some (.int c), none] H := by
      intro c hc
      refine ⟨_, rfl, c, _, rfl, rfl, (show (0 : Int) < 2147483629 by decide), _, rfl, _, _, rfl, rfl, .inl ⟨by decide, by decide⟩, _, rfl, _, _, rfl, rfl, .inr ⟨by omega, by omega⟩, _, _, rfl, rfl, _, rfl, _, _, rfl, rfl, .inl ⟨by decide, by decide⟩, _, _, rfl, rfl, _, _, rfl, rfl, _, _, rfl, rfl, .inr ⟨by decide, by decide⟩, _, _, rfl, rfl, (show (0 : Int) < 2147483647 by decide), ?_⟩
      have hz1 : 0 ≤ (c % 2147483629 + 7919 * (k : Int) * k + 31 * k + 17) * 48271 % 2147483647 := Int.emod_nonneg _ (by decide)
      have hz2 : (c % 2147483629 + 7919 * (k : Int) * k + 31 * k + 17) * 48271 % 2147483647 < 2147483647 := Int.emod_lt_of_pos _ (by decide)
      refine ⟨_, rfl, _, rfl, _, _, rfl, rfl, ⟨by decide, by decide, by decide⟩, c, _, rfl, rfl, .inr ⟨_, rfl, ?_⟩⟩
      have key : ∀ b : Bool, 0 ≤ c * (if b then 1 else 0) := fun b => by cases b <;> simp [hc]
      have sm : ∀ b : Bool, (-(2 ^ 64) : Int) < (if b then 1 else 0) ∧ ((if b then 1 else 0) : Int) < 2 ^ 64 := fun b => by cases b <;> decide
      refine ⟨c, _, rfl, rfl, .inr (sm _), _, rfl, _, rfl, _, _, rfl, rfl, .inl ⟨Int.lt_of_lt_of_le (by decide) hz1, Int.lt_trans hz2 (by decide)⟩, _, _, rfl, rfl, (show (0 : Int) < 2147483629 by decide), by show 2 ≤ sizeLine; decide, fun p np => ?_⟩
      exact q p _ _ np (key _) (Int.emod_nonneg _ (by decide)) (Int.lt_trans (Int.emod_lt_of_pos _ (by decide)) (by decide))
    refine ⟨_, rfl, _, rfl, a, _, rfl, .inl hS, _, _, rfl, rfl, _, rfl, ite2 (fun e => ?_) (fun e => ?_)⟩
    · have hk2 : k < ns.length := by
        have := of_decide_eq_true e
        rw [List.length_map] at this
        omega
      have g : (ns.map V.int)[k]? = some (.int ns[k]) := by
        rw [List.getElem?_map, List.getElem?_eq_getElem hk2]
        rfl
      refine ⟨_, rfl, _, rfl, a, _, k, _, rfl, rfl, hS, atI_nat g, ns[k], rfl, ?_⟩
      refine rest _ ?_
      split <;> omega
    · exact rest 0 (by decide)
end
/-! the things that errors are made of -/
structure DataOk (d : PyData) : Prop where
  sh : d.showable = true
  dp : d.depth ≤ 2
  lv : d.leavesShort 30 = true
  bk : d.bulk ≤ 10
def ItmAs (K : PySem.W.Frag) (H : Hp) (v : V) : Option PyData → Prop
  | some d => Dp K H v d ∧ DataOk d
  | none => ∃ a, v = .ref a ∧ G6.DictB H "b" a
def text1 : Option PyData → Str
  | some d => d.shown
  | none => G6.tB "b"
def textN (n : Nat) : Option PyData → Str
  | some d => (PyData.list (List.replicate n d)).shown
  | none => listText (List.replicate n (G6.tB "b"))
mutual
theorem dp_same {K : PySem.W.Frag} {H H' : Hp} (s : Same H H') : ∀ (d : PyData) (v : V), Dp K H v d → Dp K H' v d
  | .none, _, h => by cases h; exact .non
  | .bool _, _, h => by cases h; exact .bl _
  | .int _, _, h => by cases h; exact .int _
  | .str _, _, h => by cases h; exact .str _
  | .list ds, _, h => by
    cases h with
    | lst hs ha => exact .lst (s.seq hs) (dpAll_same s ds _ ha)
  | .tuple ds, _, h => by
    cases h with
    | tup hs ha => exact .tup (SqT.ext hs s) (dpAll_same s ds _ ha)
  | .dict _, _, h => by cases h
theorem dpAll_same {K : PySem.W.Frag} {H H' : Hp} (s : Same H H') : ∀ (ds : List PyData) (vs : List V), DpAll K H vs ds → DpAll K H' vs ds
  | [], _, h => by cases h; exact .nil
  | d :: ds, _, h => by
    cases h with
    | cons h1 h2 => exact .cons (dp_same s d _ h1) (dpAll_same s ds _ h2)
end
theorem ItmAs.same {K : PySem.W.Frag} {H H' : Hp} {v : V} : ∀ {o : Option PyData}, ItmAs K H v o → Same H H' → ItmAs K H' v o
  | some d, h, s => ⟨dp_same s d v h.1, h.2⟩
  | none, ⟨a, e, i, h1, h2⟩, s => ⟨a, e, i, s _ _ h1, s _ _ h2⟩
theorem dpAll_rep {K : PySem.W.Frag} {H : Hp} {v : V} {d : PyData} (h : Dp K H v d) : ∀ n, DpAll K H (List.replicate n v) (List.replicate n d)
  | 0 => .nil
  | n + 1 => by
    rw [List.replicate_succ, List.replicate_succ]
    exact .cons h (dpAll_rep h n)
theorem shAll_rep {d : PyData} (h : d.showable = true) : ∀ n, PyData.showableAll (List.replicate n d) = true
  | 0 => by simp only [List.replicate_zero, PyData.showableAll]
  | n + 1 => by
    rw [List.replicate_succ]
    simp only [PyData.showableAll, h, shAll_rep h n, Bool.and_self]
theorem lvAll_rep {d : PyData} (h : d.leavesShort 30 = true) : ∀ n, PyData.leavesShortAll 30 (List.replicate n d) = true
  | 0 => by simp only [List.replicate_zero, PyData.leavesShortAll]
  | n + 1 => by
    rw [List.replicate_succ]
    simp only [PyData.leavesShortAll, h, lvAll_rep h n, Bool.and_self]
theorem fits30 {d : PyData} (h : d.leavesShort 30 = true) (b : d.bulk ≤ 1000) : d.shown.length ≤ sizeLine := by
  have q := PyData.shown_le_bulk 30 (by decide) d h
  rw [sizeLine_eq]
  have h2 : (30 + 2) * d.bulk ≤ 32 * 1000 := Nat.mul_le_mul (by omega) (by omega)
  omega
/-- repr of a thing, or of a list of one thing over and over -/
def rR (K : PySem.W.Frag) : List V → Hp → VK → Prop := fun xs H Q => ∃ (v : V) (o : Option PyData), ItmAs K H v o ∧ ((xs = [v] ∧ Q (.str (text1 o)) H) ∨ ∃ (l : Addr) (n : Nat), xs = [.ref l] ∧ H l = some (.lst (List.replicate (n + 1) v)) ∧ n ≤ 20 ∧ Q (.str (textN (n + 1) o)) H)
theorem call_R {X : Cx} (gu : X.A.guards = some []) (ro : X.A.units + 64 < cLine) : CallR X (.builtin "repr") (rR X.K) := by
  intro pins s σ H xs us Q I rel hyp
  obtain ⟨v, o, hi, hyp⟩ := hyp
  match o, hi with
  | some d, ⟨hd, ok⟩ =>
    refine G0.call_reprD gu ro pins s σ H xs us Q I rel ?_
    rcases hyp with ⟨rfl, q⟩ | ⟨l, n, rfl, hl, hn, q⟩
    · exact ⟨v, d, rfl, hd, ok.sh, Nat.le_trans ok.dp (by decide), fits30 ok.lv (Nat.le_trans ok.bk (by decide)), q⟩
    · refine ⟨.ref l, .list (List.replicate (n + 1) d), rfl, .lst (SqL.of hl) (dpAll_rep hd _), ?_, ?_, ?_, q⟩
      · simp only [PyData.showable]
        exact shAll_rep ok.sh _
      · exact Nat.le_trans (G4.depth_list (k := 2) fun x hx => by rw [List.eq_of_mem_replicate hx]; exact ok.dp) (by decide)
      · refine fits30 (by simp only [PyData.leavesShort]; exact lvAll_rep ok.lv _) ?_
        exact Nat.le_trans (G4.bulk_list (m := 10) (n := 21) (fun x hx => by rw [List.eq_of_mem_replicate hx]; exact ok.bk) (by rw [List.length_replicate]; omega)) (by decide)
  | none, ⟨a, ea, hb⟩ =>
    refine G6.call_reprB gu ro pins s σ H xs us Q I rel ⟨"b", a, by decide +kernel, by decide +kernel, hb, ?_⟩
    subst ea
    rcases hyp with ⟨rfl, q⟩ | ⟨l, n, rfl, hl, hn, q⟩
    · exact .inl ⟨rfl, q⟩
    · exact .inr ⟨l, n, rfl, hl, by omega, q⟩
/-! errors that are made -/
def Errs (H : Hp) (l : List (Addr × Addr)) : Prop := ∀ p ∈ l, ∃ fs, ErrAt H p.1 p.2 fs
theorem ErrAt.same {H H' : Hp} {a C : Addr} {fs : List (Str × V)} (h : ErrAt H a C fs) (s : Same H H') : ErrAt H' a C fs := by
  rcases h with ⟨e, h⟩ | ⟨dx, h1, h2⟩
  · exact .inl ⟨e, s _ _ h⟩
  · exact .inr ⟨dx, s _ _ h1, s _ _ h2⟩
theorem Errs.same {H H' : Hp} {l : List (Addr × Addr)} (h : Errs H l) (s : Same H H') : Errs H' l := fun p hp => by
  obtain ⟨fs, e⟩ := h p hp
  exact ⟨fs, ErrAt.same e s⟩
theorem Errs.snoc {H : Hp} {l : List (Addr × Addr)} {a C : Addr} {fs : List (Str × V)} (h : Errs H l) (e : ErrAt H a C fs) : Errs H (l ++ [(a, C)]) := fun p hp => by
  rcases List.mem_append.mp hp with hp | hp
  · exact h p hp
  · rw [List.mem_singleton.mp hp]
    exact ⟨fs, e⟩
theorem err_step {C : Addr} {fn : List Str} {ws : List V} {H : Hp} {Q : VK} (hl : ws.length = fn.length) (q : ∀ a H', H a = none → Same H H' → ErrAt H' a C (names fn ws) → Q (.ref a) H') :
    ∀ a, H a = none → spI C fn (.ref a :: ws) (upd H a (exo a C none)) (fun v H3 => v = .non ∧ Q (.ref a) H3) (fun _ _ _ => False) := fun a na =>
  ⟨a, ws, rfl, hl, upd_same, fun H' gr ea => ⟨rfl, q a H' na (fun b o e => gr b o (by rw [upd_ne (ne_of_none e na)]; exact e) (ne_of_none e na)) ea.at⟩⟩
theorem err_more {C : Addr} {fn : List Str} {ws : List V} {H0 H : Hp} {l : List (Addr × Addr)} {Q : VK} (sm : Same H0 H) (hE : Errs H l) (hl : ws.length = fn.length) (q : ∀ a H', Same H0 H' → Errs H' (l ++ [(a, C)]) → Q (.ref a) H') :
    ∀ a, H a = none → spI C fn (.ref a :: ws) (upd H a (exo a C none)) (fun v H3 => v = .non ∧ Q (.ref a) H3) (fun _ _ _ => False) :=
  err_step hl fun a H' _ s e => q a H' (sm.trans s) ((hE.same s).snoc e)
end K03

set_option maxHeartbeats 4000000
namespace K03
open PySem PySem.Spec PyProof.Rows L2 G3 G5 E2 E3 E4 E5 E7 E8 E9 EB EC
/-- a new error of the class at C -/
def tNew (C : Addr) (fn : List Str) (gV : List V → List V → List V) (ta tk : TA) : TE := fun σ H Q => ta σ H fun vs H1 => tk σ H1 fun zs H2 => vs.length ≤ 1000 ∧
  ∃ ws : List V, (∀ a, gV (.ref a :: vs) zs = .ref a :: ws) ∧ ws.length = fn.length ∧ ∀ a H', H2 a = none → Same H2 H' → ErrAt H' a C (names fn ws) → Q (.ref a) H'
section
variable {X : Cx} {nm : Str} {fn : List Str} {x : Str} {p pos : Pos} {e : Expr} {es : List Expr} {kws : List Keyword} {ta tk : TA}
theorem pe_new (S : Err X.prog X.w X.K X.mg X.base nm fn) (hr : Room 2 X.A) (hg : Gl X nm) (ha : PA X (e :: es) ta)
    (hdb : (nm == ("__debug__" : Str)) = false := by decide) (he : starEach (e :: es) X.env = (false, eval e X.env) :: starEach es X.env := by rfl) (hpl : (backTo pos (starEach es X.env)).any (·.1) = false := by rfl) :
    PE X (.Call (.Name nm p) (e :: es) [] pos) (tNew S.C fn (fun vs _ => vs) ta tNil) := by
  refine ⟨fun pins s σ H Q I hyp => wpAny_Call_Name_kw (ld_glob I hg S.g ?_ hdb)⟩
  refine PySem.W.callWith_K (h₀ := X.base) I.ok.mod.kin S.T.kC (thn (ha.run pos pins s σ H _ I hyp) fun us s1 ⟨vs, H1, I1, r1, few, ws, hw, hl, q1⟩ => ⟨I1.kIn, ?_⟩) he hpl
  exact run_err (ks := []) (ws := []) (zs := []) S.T S.ok hr S.kb I1 r1 .nil few fun a na => by
    have hw2 := hw a
    dsimp only at hw2
    rw [hw2]
    exact err_step (Q := Q) hl q1 a na
theorem pe_new0 (S : Err X.prog X.w X.K X.mg X.base nm []) (hr : Room 2 X.A) (hg : Gl X nm) (hdb : (nm == ("__debug__" : Str)) = false := by decide) :
    PE X (.Call (.Name nm p) [] [] pos) (tNew S.C [] (fun vs _ => vs) tNil tNil) := by
  refine ⟨fun pins s σ H Q I hyp => wpAny_Call_Name_kw (ld_glob I hg S.g ?_ hdb)⟩
  obtain ⟨few, ws, hw, hl, q1⟩ := hyp
  exact PySem.W.callWith_K0 I.kIn S.T.kC (run_err (ks := []) (ws := []) (zs := []) (us := []) (vs := []) S.T S.ok hr S.kb I .nil .nil few fun a na => by
    have hw2 := hw a
    dsimp only at hw2
    rw [hw2]
    exact err_step (Q := Q) hl q1 a na)
theorem pe_newK (S : Err X.prog X.w X.K X.mg X.base nm fn) (hr : Room 2 X.A) (hg : Gl X nm) (pk : PK X kws tk)
    (h1 : (backToKw pos (keywordEach kws X.env)).all (·.1.isSome) = true := by rfl) (h2 : (backToKw pos (keywordEach kws X.env)).filterMap (·.1) = fn.reverse := by rfl) (h3 : (nm == ("__debug__" : Str)) = false := by decide)
    (h4 : ((backTo pos (starEach [] X.env)).any (·.1) || (backToKw pos (keywordEach kws X.env)).any (·.1.isNone)) = false := by rfl) :
    PE X (.Call (.Name nm p) [] kws pos) (tNew S.C fn (kwG fn.length) tNil tk) := by
  refine ⟨fun pins s σ H Q I hyp => wpAny_Call_Name_kw (ld_glob I hg S.g ?_ h3)⟩
  refine PySem.W.callWith_KW0 (h₀ := X.base) I.ok.mod.kin S.T.kC h1 (thn (pk.run pos pins s σ H _ I hyp) fun wz s2 ⟨zs, H2, I2, rz, few, ws, hw, hl, q2⟩ => ⟨I2.kIn, ?_⟩) h4
  rw [h2]
  exact run_err (us := []) (vs := []) S.T S.ok hr S.kn I2 .nil rz few fun a na => by
    rw [hw a]
    exact err_step (Q := Q) hl q2 a na
end
end K03

set_option maxHeartbeats 4000000
namespace K03
open PySem PySem.Spec PyProof.Rows L2 G3 G5 E2 E3 E4 E5 E7 E8 E9 EB EC
abbrev sAll : Stmt := topS 19
abbrev sSorts : Stmt := topS 20
abbrev sAbove : Stmt := topS 21
abbrev sDue : Stmt := topS 22
theorem scAll : FnScope ["_law_item", "_law_found"] ["_law_item"] (defScope sAll) := ⟨rfl, rfl, rfl, by decide +kernel, rfl, by decide +kernel, by decide +kernel⟩
theorem scSorts : FnScope ["_law_error", "_law_found"] ["_law_error"] (defScope sSorts) := ⟨rfl, rfl, rfl, by decide +kernel, rfl, by decide +kernel, by decide +kernel⟩
theorem scAbove : FnScope ["_law_error", "_law_found"] ["_law_error"] (defScope sAbove) := ⟨rfl, rfl, rfl, by decide +kernel, rfl, by decide +kernel, by decide +kernel⟩
theorem scDue : FnScope ["_law_spot"] ["_law_spot"] (defScope sDue) := ⟨rfl, rfl, rfl, by decide +kernel, rfl, by decide +kernel, by decide +kernel⟩
structure Kinds (P : Program) (w : World) (K : PySem.W.Frag) (mg : Str → Option Value) (base : Heap) where
  e0 : Err P w K mg base "NoProgram" ["hand", "text", "row"]
  e1 : Err P w K mg base "NoRun" ["number", "at"]
  e2 : Err P w K mg base "NoStand" []
  e3 : Err P w K mg base "NoMachine" []
  e4 : Err P w K mg base "NoLimit" []
  e5 : Err P w K mg base "NoOrder" []
  e6 : Err P w K mg base "NoText" ["row"]
  e7 : Err P w K mg base "NoRow" []
  e8 : Err P w K mg base "NoHand" ["hand"]
  e9 : Err P w K mg base "NoPoint" ["point"]
  e10 : Err P w K mg base "NoChoice" ["choice"]
  e11 : Err P w K mg base "NoName" ["name"]
  e12 : Err P w K mg base "TooMany" ["many"]
  e13 : Err P w K mg base "Bare" []
  cT : Addr
  gT : mg "TurnsError" = some (.ref cT)
section
variable {P : Program} {w : World} {K : PySem.W.Frag} {mg : Str → Option Value} {base : Heap}
def Kinds.cs (S : Kinds P w K mg base) : List Addr := [S.e0.C, S.e1.C, S.e2.C, S.e3.C, S.e4.C, S.e5.C, S.e6.C, S.e7.C, S.e8.C, S.e9.C, S.e10.C, S.e11.C, S.e12.C, S.e13.C]
def above (cT : Addr) : List Value := [.ref cT, .type "ValueError", .type "IndexError", .type "KeyError", .type "OverflowError", .type "RuntimeError"]
def due (i : Nat) : List Bool := [decide (i < 8), decide (i < 8), decide (i = 8 ∨ i = 9), decide (i = 10 ∨ i = 11), decide (i = 12), decide (i = 13)]
/-- which stands under which, by looking -/
def table (K : PySem.W.Frag) (cs : List Addr) (us : List Value) (f : Nat → List Bool) : Bool := cs.zipIdx.all fun p => us.zip (f p.2) |>.all fun q => decide (PySem.W.kitOne K (.ref p.1) q.1 = some q.2)
def own (i : Nat) : List Bool := (List.range 14).map fun j => decide (j = i)
def spAll (cs : List Addr) : Sp := fun vs H Q _ => ∃ v, vs = [v] ∧ ∀ (l : Addr) (ps : List (Addr × Addr)) (H' : Hp), ps.map (·.2) = cs → Same H H' → Errs H' ps → H' l = some (.lst (ps.map fun p => V.ref p.1)) → Q (.ref l) H'
theorem nilE {H : Hp} : Errs H [] := fun _ h => nomatch h
theorem ok_all {f : Addr} {fd : FuncData} (F : Fun K "_law_all" "_law_all" sAll f fd) (S : Kinds P w K mg base) : FnOk P w K mg base CX0 3 f fd ["_law_item"] (spAll S.cs) := by
  refine F.ok scAll (fun vs H Q E h => ?_) (fun cdv A outer s H vs Q E hr h => ?_)
  · obtain ⟨v, rfl, _⟩ := h
    rfl
  · obtain ⟨v, rfl, q⟩ := h
    have nd := scAll.nd
    refine ⟨_, pss_cons (ps_set (i := 1) nd rfl (.inl rfl) (pe_lst (pa_cons (pe_new S.e0 hr (by rfl) (pa_cons (pv 0) (pa_cons pe_int (pa_cons pe_non pa_nil)))) (pa_cons (pe_new S.e1 hr (by rfl) (pa_cons (pv 0) (pa_cons pe_int pa_nil))) (pa_cons (pe_new0 S.e2 hr (by rfl)) (pa_cons (pe_new0 S.e3 hr (by rfl)) (pa_cons (pe_new0 S.e4 hr (by rfl)) (pa_cons (pe_new0 S.e5 hr (by rfl)) (pa_cons (pe_new S.e6 hr (by rfl) (pa_cons (pv 0) pa_nil)) pa_nil)))))))))
      (pss_cons (ps_set (i := 1) nd rfl (.inl rfl) (pe_op op_cat (pv 1) (pe_lst (pa_cons (pe_new0 S.e7 hr (by rfl)) (pa_cons (pe_new S.e8 hr (by rfl) (pa_cons (pv 0) pa_nil)) (pa_cons (pe_new S.e9 hr (by rfl) (pa_cons (pv 0) pa_nil)) (pa_cons (pe_new S.e10 hr (by rfl) (pa_cons (pv 0) pa_nil)) (pa_cons (pe_new S.e11 hr (by rfl) (pa_cons (pv 0) pa_nil)) (pa_cons (pe_new S.e12 hr (by rfl) (pa_cons (pv 0) pa_nil)) (pa_cons (pe_new0 S.e13 hr (by rfl)) pa_nil))))))))))
      (pss_one (ps_ret (pv 1)))), ?_⟩
    refine ⟨_, rfl, Nat.le_of_ble_eq_true rfl, _, fun _ => rfl, rfl, fun a0 H0 n0 z0 w0 => ?_⟩
    have s0 := (same_refl (H := H)).trans z0
    have E0 := ((nilE (H := H)).same z0).snoc w0
    refine ⟨_, rfl, Nat.le_of_ble_eq_true rfl, _, fun _ => rfl, rfl, fun a1 H1 n1 z1 w1 => ?_⟩
    have s1 := s0.trans z1
    have E1 := (E0.same z1).snoc w1
    refine ⟨Nat.le_of_ble_eq_true rfl, _, fun _ => rfl, rfl, fun a2 H2 n2 z2 w2 => ?_⟩
    have s2 := s1.trans z2
    have E2 := (E1.same z2).snoc w2
    refine ⟨Nat.le_of_ble_eq_true rfl, _, fun _ => rfl, rfl, fun a3 H3 n3 z3 w3 => ?_⟩
    have s3 := s2.trans z3
    have E3 := (E2.same z3).snoc w3
    refine ⟨Nat.le_of_ble_eq_true rfl, _, fun _ => rfl, rfl, fun a4 H4 n4 z4 w4 => ?_⟩
    have s4 := s3.trans z4
    have E4 := (E3.same z4).snoc w4
    refine ⟨Nat.le_of_ble_eq_true rfl, _, fun _ => rfl, rfl, fun a5 H5 n5 z5 w5 => ?_⟩
    have s5 := s4.trans z5
    have E5 := (E4.same z5).snoc w5
    refine ⟨_, rfl, Nat.le_of_ble_eq_true rfl, _, fun _ => rfl, rfl, fun a6 H6 n6 z6 w6 => ?_⟩
    have s6 := s5.trans z6
    have E6 := (E5.same z6).snoc w6
    refine ⟨by show 7 ≤ sizeLine; decide, fun l nl => ?_⟩
    have sL := same_put (o := .lst [V.ref a0, V.ref a1, V.ref a2, V.ref a3, V.ref a4, V.ref a5, V.ref a6]) s6 (same_none s6 nl)
    have EL := E6.same (same_new (o := .lst [V.ref a0, V.ref a1, V.ref a2, V.ref a3, V.ref a4, V.ref a5, V.ref a6]) nl)
    have hl : (upd H6 l (.lst [V.ref a0, V.ref a1, V.ref a2, V.ref a3, V.ref a4, V.ref a5, V.ref a6])) l = some (.lst [V.ref a0, V.ref a1, V.ref a2, V.ref a3, V.ref a4, V.ref a5, V.ref a6]) := upd_same
    generalize upd H6 l (.lst [V.ref a0, V.ref a1, V.ref a2, V.ref a3, V.ref a4, V.ref a5, V.ref a6]) = HL at sL EL hl ⊢
    have s00 := same_refl (H := HL)
    refine ⟨_, rfl, ?_⟩
    refine ⟨Nat.le_of_ble_eq_true rfl, _, fun _ => rfl, rfl, fun a7 H7 n7 z7 w7 => ?_⟩
    have s7 := s00.trans z7
    have E7 := (EL.same z7).snoc w7
    refine ⟨_, rfl, Nat.le_of_ble_eq_true rfl, _, fun _ => rfl, rfl, fun a8 H8 n8 z8 w8 => ?_⟩
    have s8 := s7.trans z8
    have E8 := (E7.same z8).snoc w8
    refine ⟨_, rfl, Nat.le_of_ble_eq_true rfl, _, fun _ => rfl, rfl, fun a9 H9 n9 z9 w9 => ?_⟩
    have s9 := s8.trans z9
    have E9 := (E8.same z9).snoc w9
    refine ⟨_, rfl, Nat.le_of_ble_eq_true rfl, _, fun _ => rfl, rfl, fun a10 H10 n10 z10 w10 => ?_⟩
    have s10 := s9.trans z10
    have E10 := (E9.same z10).snoc w10
    refine ⟨_, rfl, Nat.le_of_ble_eq_true rfl, _, fun _ => rfl, rfl, fun a11 H11 n11 z11 w11 => ?_⟩
    have s11 := s10.trans z11
    have E11 := (E10.same z11).snoc w11
    refine ⟨_, rfl, Nat.le_of_ble_eq_true rfl, _, fun _ => rfl, rfl, fun a12 H12 n12 z12 w12 => ?_⟩
    have s12 := s11.trans z12
    have E12 := (E11.same z12).snoc w12
    refine ⟨Nat.le_of_ble_eq_true rfl, _, fun _ => rfl, rfl, fun a13 H13 n13 z13 w13 => ?_⟩
    have s13 := s12.trans z13
    have E13 := (E12.same z13).snoc w13
    refine ⟨by show 7 ≤ sizeLine; decide, fun m nm => ?_⟩
    have nm0 := same_none s13 nm
    refine ⟨l, m, _, _, rfl, rfl, by rw [upd_ne (ne_of_none (s13 _ _ hl) nm)]; exact s13 _ _ hl, upd_same, by show 7 + 7 ≤ sizeLine; decide, fun p np => ?_⟩
    have k1 := same_new (o := .lst [V.ref a7, V.ref a8, V.ref a9, V.ref a10, V.ref a11, V.ref a12, V.ref a13]) nm
    have k2 := k1.trans (same_new (o := .lst ([V.ref a0, V.ref a1, V.ref a2, V.ref a3, V.ref a4, V.ref a5, V.ref a6] ++ [V.ref a7, V.ref a8, V.ref a9, V.ref a10, V.ref a11, V.ref a12, V.ref a13])) np)
    refine ⟨_, rfl, q p [(a0, S.e0.C), (a1, S.e1.C), (a2, S.e2.C), (a3, S.e3.C), (a4, S.e4.C), (a5, S.e5.C), (a6, S.e6.C), (a7, S.e7.C), (a8, S.e8.C), (a9, S.e9.C), (a10, S.e10.C), (a11, S.e11.C), (a12, S.e12.C), (a13, S.e13.C)] _ rfl (sL.trans (s13.trans k2)) (E13.same k2) upd_same⟩
end
end K03

set_option maxHeartbeats 4000000
namespace K03
open PySem PySem.Spec PyProof.Rows L2 G3 G5 E2 E3 E4 E5 E7 E8 E9 EB EC
section
variable {P : Program} {w : World} {K : PySem.W.Frag} {mg : Str → Option Value} {base : Heap}
def spSorts (K : PySem.W.Frag) (us : List Value) (n : Nat) : Sp := fun vs H Q _ => ∃ (a C : Addr) (fs : List (Str × V)) (b : Nat → Bool), vs = [.ref a] ∧ ErrAt H a C fs ∧ ExcC K C ∧ (∀ j u, us[j]? = some u → PySem.W.kitOne K (.ref C) u = some (b j)) ∧
  ∀ (l : Addr) (H' : Hp), Same H H' → H' l = some (.lst ((List.range n).map fun j => V.bl (b j))) → Q (.ref l) H'
theorem cat_go {H0 H : Hp} {l b : Addr} {xs zs : List V} {Q : VK} (sm : Same H0 H) (hl : H l = some (.lst xs)) (nb : H b = none) (hz : xs.length + zs.length ≤ sizeLine) (q : ∀ p H', Same H0 H' → H' p = some (.lst (xs ++ zs)) → Q (.ref p) H') : rCat (.ref l) (.ref b) (upd H b (.lst zs)) Q := by
  refine ⟨l, b, xs, zs, rfl, rfl, by rw [upd_ne (ne_of_none hl nb)]; exact hl, upd_same, hz, fun p np => q p _ ?_ upd_same⟩
  exact (sm.trans (same_new nb)).trans (same_new np)
theorem ok_sorts {f : Addr} {fd : FuncData} {k : Nat} (F : Fun K "_law_sorts" "_law_sorts" sSorts f fd) (S : Kinds P w K mg base) (mi : mg "isinstance" = none) : FnOk P w K mg base CX0 (k + 1) f fd ["_law_error"] (spSorts K (S.cs.map Value.ref) 14) := by
  refine F.ok scSorts (fun vs H Q E h => ?_) (fun cdv A outer s H vs Q E hr h => ?_)
  · obtain ⟨a, C, fs, b, rfl, _⟩ := h
    rfl
  · obtain ⟨a, C, fs, b, rfl, e, T, kt, q⟩ := h
    have nd := scSorts.nd
    refine ⟨_, (pss_cons (ps_set (i := 1) nd rfl (.inl rfl) (pe_lst (pa_cons (pe_callB EB.call_isErr (by rfl) mi (by decide +kernel) (pa_cons (pv 0) (pa_cons (pe_glob (v := .ref S.e0.C) (by rfl) S.e0.g rfl) pa_nil))) (pa_cons (pe_callB EB.call_isErr (by rfl) mi (by decide +kernel) (pa_cons (pv 0) (pa_cons (pe_glob (v := .ref S.e1.C) (by rfl) S.e1.g rfl) pa_nil))) (pa_cons (pe_callB EB.call_isErr (by rfl) mi (by decide +kernel) (pa_cons (pv 0) (pa_cons (pe_glob (v := .ref S.e2.C) (by rfl) S.e2.g rfl) pa_nil))) pa_nil)))))
      (pss_cons (ps_set (i := 1) nd rfl (.inl rfl) (pe_op op_cat (pv 1) (pe_lst (pa_cons (pe_callB EB.call_isErr (by rfl) mi (by decide +kernel) (pa_cons (pv 0) (pa_cons (pe_glob (v := .ref S.e3.C) (by rfl) S.e3.g rfl) pa_nil))) (pa_cons (pe_callB EB.call_isErr (by rfl) mi (by decide +kernel) (pa_cons (pv 0) (pa_cons (pe_glob (v := .ref S.e4.C) (by rfl) S.e4.g rfl) pa_nil))) (pa_cons (pe_callB EB.call_isErr (by rfl) mi (by decide +kernel) (pa_cons (pv 0) (pa_cons (pe_glob (v := .ref S.e5.C) (by rfl) S.e5.g rfl) pa_nil))) pa_nil))))))
      (pss_cons (ps_set (i := 1) nd rfl (.inl rfl) (pe_op op_cat (pv 1) (pe_lst (pa_cons (pe_callB EB.call_isErr (by rfl) mi (by decide +kernel) (pa_cons (pv 0) (pa_cons (pe_glob (v := .ref S.e6.C) (by rfl) S.e6.g rfl) pa_nil))) (pa_cons (pe_callB EB.call_isErr (by rfl) mi (by decide +kernel) (pa_cons (pv 0) (pa_cons (pe_glob (v := .ref S.e7.C) (by rfl) S.e7.g rfl) pa_nil))) (pa_cons (pe_callB EB.call_isErr (by rfl) mi (by decide +kernel) (pa_cons (pv 0) (pa_cons (pe_glob (v := .ref S.e8.C) (by rfl) S.e8.g rfl) pa_nil))) pa_nil))))))
      (pss_cons (ps_set (i := 1) nd rfl (.inl rfl) (pe_op op_cat (pv 1) (pe_lst (pa_cons (pe_callB EB.call_isErr (by rfl) mi (by decide +kernel) (pa_cons (pv 0) (pa_cons (pe_glob (v := .ref S.e9.C) (by rfl) S.e9.g rfl) pa_nil))) (pa_cons (pe_callB EB.call_isErr (by rfl) mi (by decide +kernel) (pa_cons (pv 0) (pa_cons (pe_glob (v := .ref S.e10.C) (by rfl) S.e10.g rfl) pa_nil))) (pa_cons (pe_callB EB.call_isErr (by rfl) mi (by decide +kernel) (pa_cons (pv 0) (pa_cons (pe_glob (v := .ref S.e11.C) (by rfl) S.e11.g rfl) pa_nil))) pa_nil))))))
      (pss_one (ps_ret (pe_op op_cat (pv 1) (pe_lst (pa_cons (pe_callB EB.call_isErr (by rfl) mi (by decide +kernel) (pa_cons (pv 0) (pa_cons (pe_glob (v := .ref S.e12.C) (by rfl) S.e12.g rfl) pa_nil))) (pa_cons (pe_callB EB.call_isErr (by rfl) mi (by decide +kernel) (pa_cons (pv 0) (pa_cons (pe_glob (v := .ref S.e13.C) (by rfl) S.e13.g rfl) pa_nil))) pa_nil)))))))))), ?_⟩
    have sm0 := same_refl (H := H)
    refine ⟨_, rfl, a, C, fs, _, _, b 0, rfl, ErrAt.same e sm0, T, .own _, kt 0 _ rfl, ?_⟩
    refine ⟨_, rfl, a, C, fs, _, _, b 1, rfl, ErrAt.same e sm0, T, .own _, kt 1 _ rfl, ?_⟩
    refine ⟨_, rfl, a, C, fs, _, _, b 2, rfl, ErrAt.same e sm0, T, .own _, kt 2 _ rfl, ?_⟩
    refine ⟨Nat.le_of_ble_eq_true rfl, fun l0 n0 => ?_⟩
    have sm1 := same_put (o := .lst [V.bl (b 0), V.bl (b 1), V.bl (b 2)]) sm0 (same_none sm0 n0)
    have hl0 : (upd H l0 (.lst [V.bl (b 0), V.bl (b 1), V.bl (b 2)])) l0 = some (.lst [V.bl (b 0), V.bl (b 1), V.bl (b 2)]) := upd_same
    generalize upd H l0 (.lst [V.bl (b 0), V.bl (b 1), V.bl (b 2)]) = H1 at sm1 hl0 ⊢
    refine ⟨_, rfl, ?_⟩
    refine ⟨_, rfl, a, C, fs, _, _, b 3, rfl, ErrAt.same e sm1, T, .own _, kt 3 _ rfl, ?_⟩
    refine ⟨_, rfl, a, C, fs, _, _, b 4, rfl, ErrAt.same e sm1, T, .own _, kt 4 _ rfl, ?_⟩
    refine ⟨_, rfl, a, C, fs, _, _, b 5, rfl, ErrAt.same e sm1, T, .own _, kt 5 _ rfl, ?_⟩
    refine ⟨Nat.le_of_ble_eq_true rfl, fun l1 n1 => cat_go sm1 hl0 n1 (Nat.le_of_ble_eq_true rfl) fun p1 H2 sm2 hl1 => ?_⟩
    refine ⟨_, rfl, ?_⟩
    refine ⟨_, rfl, a, C, fs, _, _, b 6, rfl, ErrAt.same e sm2, T, .own _, kt 6 _ rfl, ?_⟩
    refine ⟨_, rfl, a, C, fs, _, _, b 7, rfl, ErrAt.same e sm2, T, .own _, kt 7 _ rfl, ?_⟩
    refine ⟨_, rfl, a, C, fs, _, _, b 8, rfl, ErrAt.same e sm2, T, .own _, kt 8 _ rfl, ?_⟩
    refine ⟨Nat.le_of_ble_eq_true rfl, fun l2 n2 => cat_go sm2 hl1 n2 (Nat.le_of_ble_eq_true rfl) fun p2 H3 sm3 hl2 => ?_⟩
    refine ⟨_, rfl, ?_⟩
    refine ⟨_, rfl, a, C, fs, _, _, b 9, rfl, ErrAt.same e sm3, T, .own _, kt 9 _ rfl, ?_⟩
    refine ⟨_, rfl, a, C, fs, _, _, b 10, rfl, ErrAt.same e sm3, T, .own _, kt 10 _ rfl, ?_⟩
    refine ⟨_, rfl, a, C, fs, _, _, b 11, rfl, ErrAt.same e sm3, T, .own _, kt 11 _ rfl, ?_⟩
    refine ⟨Nat.le_of_ble_eq_true rfl, fun l3 n3 => cat_go sm3 hl2 n3 (Nat.le_of_ble_eq_true rfl) fun p3 H4 sm4 hl3 => ?_⟩
    refine ⟨_, rfl, ?_⟩
    refine ⟨_, rfl, a, C, fs, _, _, b 12, rfl, ErrAt.same e sm4, T, .own _, kt 12 _ rfl, ?_⟩
    refine ⟨_, rfl, a, C, fs, _, _, b 13, rfl, ErrAt.same e sm4, T, .own _, kt 13 _ rfl, ?_⟩
    refine ⟨Nat.le_of_ble_eq_true rfl, fun l4 n4 => cat_go sm4 hl3 n4 (Nat.le_of_ble_eq_true rfl) fun p4 H5 sm5 hl4 => ?_⟩
    exact q p4 _ sm5 hl4
theorem ok_above {f : Addr} {fd : FuncData} {k : Nat} (F : Fun K "_law_above" "_law_above" sAbove f fd) (S : Kinds P w K mg base) (mi : mg "isinstance" = none) (m1 : mg "ValueError" = none) (m2 : mg "IndexError" = none) (m3 : mg "KeyError" = none) (m4 : mg "OverflowError" = none) (m5 : mg "RuntimeError" = none) : FnOk P w K mg base CX0 (k + 1) f fd ["_law_error"] (spSorts K (above S.cT) 6) := by
  refine F.ok scAbove (fun vs H Q E h => ?_) (fun cdv A outer s H vs Q E hr h => ?_)
  · obtain ⟨a, C, fs, b, rfl, _⟩ := h
    rfl
  · obtain ⟨a, C, fs, b, rfl, e, T, kt, q⟩ := h
    have nd := scAbove.nd
    refine ⟨_, (pss_cons (ps_set (i := 1) nd rfl (.inl rfl) (pe_lst (pa_cons (pe_callB EB.call_isErr (by rfl) mi (by decide +kernel) (pa_cons (pv 0) (pa_cons (pe_glob (v := .ref S.cT) (by rfl) S.gT rfl) pa_nil))) (pa_cons (pe_callB EB.call_isErr (by rfl) mi (by decide +kernel) (pa_cons (pv 0) (pa_cons (pe_bltn (v := .ty "ValueError") (by rfl) m1 (by decide +kernel) rfl) pa_nil))) (pa_cons (pe_callB EB.call_isErr (by rfl) mi (by decide +kernel) (pa_cons (pv 0) (pa_cons (pe_bltn (v := .ty "IndexError") (by rfl) m2 (by decide +kernel) rfl) pa_nil))) pa_nil)))))
      (pss_cons (ps_set (i := 1) nd rfl (.inl rfl) (pe_op op_cat (pv 1) (pe_lst (pa_cons (pe_callB EB.call_isErr (by rfl) mi (by decide +kernel) (pa_cons (pv 0) (pa_cons (pe_bltn (v := .ty "KeyError") (by rfl) m3 (by decide +kernel) rfl) pa_nil))) (pa_cons (pe_callB EB.call_isErr (by rfl) mi (by decide +kernel) (pa_cons (pv 0) (pa_cons (pe_bltn (v := .ty "OverflowError") (by rfl) m4 (by decide +kernel) rfl) pa_nil))) (pa_cons (pe_callB EB.call_isErr (by rfl) mi (by decide +kernel) (pa_cons (pv 0) (pa_cons (pe_bltn (v := .ty "RuntimeError") (by rfl) m5 (by decide +kernel) rfl) pa_nil))) pa_nil))))))
      (pss_one (ps_ret (pv 1))))), ?_⟩
    have sm0 := same_refl (H := H)
    refine ⟨_, rfl, a, C, fs, _, _, b 0, rfl, ErrAt.same e sm0, T, .own _, kt 0 _ rfl, ?_⟩
    refine ⟨_, rfl, a, C, fs, _, _, b 1, rfl, ErrAt.same e sm0, T, .ty _, kt 1 _ rfl, ?_⟩
    refine ⟨_, rfl, a, C, fs, _, _, b 2, rfl, ErrAt.same e sm0, T, .ty _, kt 2 _ rfl, ?_⟩
    refine ⟨Nat.le_of_ble_eq_true rfl, fun l0 n0 => ?_⟩
    have sm1 := same_put (o := .lst [V.bl (b 0), V.bl (b 1), V.bl (b 2)]) sm0 (same_none sm0 n0)
    have hl0 : (upd H l0 (.lst [V.bl (b 0), V.bl (b 1), V.bl (b 2)])) l0 = some (.lst [V.bl (b 0), V.bl (b 1), V.bl (b 2)]) := upd_same
    generalize upd H l0 (.lst [V.bl (b 0), V.bl (b 1), V.bl (b 2)]) = H1 at sm1 hl0 ⊢
    refine ⟨_, rfl, ?_⟩
    refine ⟨_, rfl, a, C, fs, _, _, b 3, rfl, ErrAt.same e sm1, T, .ty _, kt 3 _ rfl, ?_⟩
    refine ⟨_, rfl, a, C, fs, _, _, b 4, rfl, ErrAt.same e sm1, T, .ty _, kt 4 _ rfl, ?_⟩
    refine ⟨_, rfl, a, C, fs, _, _, b 5, rfl, ErrAt.same e sm1, T, .ty _, kt 5 _ rfl, ?_⟩
    refine ⟨Nat.le_of_ble_eq_true rfl, fun l1 n1 => cat_go sm1 hl0 n1 (Nat.le_of_ble_eq_true rfl) fun p1 H2 sm2 hl1 => ?_⟩
    exact ⟨_, rfl, q p1 _ sm2 hl1⟩
def spDue : Sp := fun vs H Q _ => ∃ i : Nat, vs = [.int i] ∧ i < 14 ∧ ∀ (l : Addr) (H' : Hp), Same H H' → H' l = some (.lst ((due i).map V.bl)) → Q (.ref l) H'
theorem ok_due {f : Addr} {fd : FuncData} {k : Nat} (F : Fun K "_law_due" "_law_due" sDue f fd) : FnOk P w K mg base CX0 (k + 1) f fd ["_law_spot"] spDue := by
  refine F.ok scDue (fun vs H Q E h => ?_) (fun cdv A outer s H vs Q E hr h => ?_)
  · obtain ⟨i, rfl, _⟩ := h
    rfl
  · obtain ⟨i, rfl, hi, q⟩ := h
    have nd := scDue.nd
    refine ⟨_, pss_one (ps_ret (pe_lst (pa_cons (pe_cmpR op_lt (pv 0) pe_int (nomark _)) (pa_cons (pe_cmpR op_lt (pv 0) pe_int (nomark _))
      (pa_cons (pe_cmpR op_in_seq (pv 0) (pe_lst (pa_cons pe_int (pa_cons pe_int pa_nil))) (by with_unfolding_all rfl)) (pa_cons (pe_cmpR op_in_seq (pv 0) (pe_lst (pa_cons pe_int (pa_cons pe_int pa_nil))) (by with_unfolding_all rfl))
      (pa_cons (pe_cmpR op_eq (pv 0) pe_int (nomark _)) (pa_cons (pe_cmpR op_eq (pv 0) pe_int (nomark _)) pa_nil)))))))), ?_⟩
    refine ⟨_, rfl, _, _, rfl, rfl, _, rfl, _, _, rfl, rfl, _, rfl, Nat.le_of_ble_eq_true rfl, fun l1 n1 => ⟨l1, _, rfl, .inl (SqL.of upd_same), rfl, rfl, ?_⟩⟩
    refine ⟨_, rfl, Nat.le_of_ble_eq_true rfl, fun l2 n2 => ⟨l2, _, rfl, .inl (SqL.of upd_same), rfl, rfl, ?_⟩⟩
    refine ⟨_, rfl, rfl, _, rfl, rfl, Nat.le_of_ble_eq_true rfl, fun l3 n3 => ?_⟩
    refine q l3 _ (((same_new n1).trans (same_new n2)).trans (same_new n3)) ?_
    rw [upd_same]
    match i, hi with
    | 0, _ => rfl
    | 1, _ => rfl
    | 2, _ => rfl
    | 3, _ => rfl
    | 4, _ => rfl
    | 5, _ => rfl
    | 6, _ => rfl
    | 7, _ => rfl
    | 8, _ => rfl
    | 9, _ => rfl
    | 10, _ => rfl
    | 11, _ => rfl
    | 12, _ => rfl
    | 13, _ => rfl
end
end K03

set_option maxHeartbeats 4000000
namespace K03
open PySem PySem.Spec PyProof.Rows L2 G3 G5 E2 E3 E4 E5 E7 E8 E9 EB EC
abbrev sFields : Stmt := topS 23
abbrev sRaised : Stmt := topS 24
theorem scFields : FnScope ["_law_item", "_law_said", "_law_more"] ["_law_item"] (defScope sFields) := ⟨rfl, rfl, rfl, by decide +kernel, rfl, by decide +kernel, by decide +kernel⟩
theorem scRaised : FnScope ["_law_item", "_law_kept", "e"] ["_law_item"] (defScope sRaised) := ⟨rfl, rfl, rfl, by decide +kernel, rfl, by decide +kernel, by decide +kernel⟩
theorem fld_go {H : Hp} {a C : Addr} {fs : List (Str × V)} {f : Str} {v : V} (e : ErrAt H a C fs) (h : fs.lookup f = some v) : ∃ dx, H a = some (exo a C (some dx)) ∧ H dx = some (exd dx fs) := by
  rcases e with ⟨e, _⟩ | e
  · rw [e] at h
    cases h
  · exact e
/-- a new error that is raised -/
def tNewR (C : Addr) (fn : List Str) (ta : TA) : L2.St → Hp → XK → Prop := fun σ H Q => ta σ H fun vs H1 => vs.length ≤ 1000 ∧ vs.length = fn.length ∧ names fn vs ≠ [] ∧ ∀ d H', H1 d = none → Same H1 H' → H' d = some (.xd (names fn vs)) → Q (.ref C) (some d) H'
theorem pmk_new {X : Cx} {nm : Str} {fn : List Str} {p pos : Pos} {e : Expr} {es : List Expr} {ta : TA} (S : Err X.prog X.w X.K X.mg X.base nm fn) (hr : Room 2 X.A) (hg : Gl X nm) (ha : PA X (e :: es) ta)
    (hdb : (nm == ("__debug__" : Str)) = false := by decide) (he : starEach (e :: es) X.env = (false, eval e X.env) :: starEach es X.env := by rfl) (hpl : (backTo pos (starEach es X.env)).any (·.1) = false := by rfl) :
    PMk X (.Call (.Name nm p) (e :: es) [] pos) (tNewR S.C fn ta) := by
  intro pins s σ H Q I hyp
  refine wpAny_Call_Name_kw (ld_glob I hg S.g ?_ hdb)
  refine PySem.W.callWith_K (h₀ := X.base) I.ok.mod.kin S.T.kC (thn (ha.run pos pins s σ H _ I hyp) fun us s1 ⟨vs, H1, I1, r1, few, hl, hne, q1⟩ => ⟨I1.kIn, ?_⟩) he hpl
  refine EA.run_mk S.T S.ok hr S.kb I1 r1 few fun a na => ⟨a, vs, rfl, hl, upd_same, fun H2 gr en => ⟨rfl, .inl ?_⟩⟩
  rcases en with ⟨z, _⟩ | ⟨dx, ea, ed, nd⟩
  · exact (hne z).elim
  · have ne : dx ≠ a := fun e => by
      rw [e, upd_same] at nd
      cases nd
    have nd1 : H1 dx = none := by
      rw [upd_ne ne] at nd
      exact nd
    refine ⟨dx, _, ea, ed, nd1, q1 dx _ nd1 (fun b o hb => ?_) upd_same⟩
    have nba := ne_of_none hb na
    rw [upd_ne (ne_of_none hb nd1), del_ne nba]
    exact gr b o (by rw [upd_ne nba]; exact hb) nba
section
variable {P : Program} {w : World} {K : PySem.W.Frag} {mg : Str → Option Value} {base : Heap}
def spFR (K : PySem.W.Frag) : Sp := fun vs H Q _ => ∃ (v : V) (o : Option PyData), vs = [v] ∧ ItmAs K H v o ∧ ∀ H', Same H H' → Q (.bl true) H'
theorem ok_fields {f : Addr} {fd : FuncData} (F : Fun K "_law_fields_right" "_law_fields_right" sFields f fd) (S : Kinds P w K mg base) (mr : mg "repr" = none) : FnG P w K mg base CX0 3 f fd ["_law_item"] (spFR K) := by
  refine body_of0 F scFields (fun vs H Q E h => ?_) (fun cdv A outer s H vs Q E gu hr h => ?_)
  · obtain ⟨v, o, rfl, _⟩ := h
    rfl
  · obtain ⟨v, o, rfl, hi, q⟩ := h
    have nd := scFields.nd
    refine ⟨_, (pss_cons (ps_set (i := 1) nd rfl (.inl rfl) (pe_lst (pa_cons (pe_errF (pe_new S.e0 hr (by rfl) (pa_cons (pv 0) (pa_cons pe_int (pa_cons pe_non pa_nil))))) (pa_cons (pe_errF (pe_new S.e0 hr (by rfl) (pa_cons pe_int (pa_cons (pv 0) (pa_cons pe_int pa_nil))))) (pa_cons (pe_errF (pe_new S.e0 hr (by rfl) (pa_cons pe_int (pa_cons pe_int (pa_cons (pv 0) pa_nil))))) (pa_cons (pe_errF (pe_new S.e1 hr (by rfl) (pa_cons (pv 0) (pa_cons pe_int pa_nil)))) pa_nil))))))
      (pss_cons (ps_set (i := 1) nd rfl (.inl rfl) (pe_op op_cat (pv 1) (pe_lst (pa_cons (pe_errF (pe_new S.e1 hr (by rfl) (pa_cons pe_int (pa_cons (pv 0) pa_nil)))) (pa_cons (pe_errF (pe_new S.e6 hr (by rfl) (pa_cons (pv 0) pa_nil))) (pa_cons (pe_errF (pe_new S.e8 hr (by rfl) (pa_cons (pv 0) pa_nil))) (pa_cons (pe_errF (pe_new S.e9 hr (by rfl) (pa_cons (pv 0) pa_nil))) (pa_cons (pe_errF (pe_new S.e10 hr (by rfl) (pa_cons (pv 0) pa_nil))) pa_nil))))))))
      (pss_cons (ps_set (i := 1) nd rfl (.inl rfl) (pe_op op_cat (pv 1) (pe_lst (pa_cons (pe_errF (pe_new S.e11 hr (by rfl) (pa_cons (pv 0) pa_nil))) (pa_cons (pe_errF (pe_new S.e12 hr (by rfl) (pa_cons (pv 0) pa_nil))) pa_nil)))))
      (pss_cons (ps_set (i := 2) nd rfl (.inl rfl) (pe_lst (pa_cons (pe_errF (pe_newK S.e0 hr (by rfl) (pk_cons pe_int (pk_cons pe_int (pk_cons (pv 0) pk_nil))))) (pa_cons (pe_errF (pe_newK S.e1 hr (by rfl) (pk_cons pe_int (pk_cons (pv 0) pk_nil)))) (pa_cons (pe_errF (pe_newK S.e6 hr (by rfl) (pk_cons (pv 0) pk_nil))) pa_nil)))))
      (pss_cons (ps_set (i := 2) nd rfl (.inl rfl) (pe_op op_cat (pv 2) (pe_lst (pa_cons (pe_errF (pe_newK S.e8 hr (by rfl) (pk_cons (pv 0) pk_nil))) (pa_cons (pe_errF (pe_newK S.e9 hr (by rfl) (pk_cons (pv 0) pk_nil))) (pa_cons (pe_errF (pe_newK S.e10 hr (by rfl) (pk_cons (pv 0) pk_nil))) pa_nil))))))
      (pss_cons (ps_set (i := 2) nd rfl (.inl rfl) (pe_op op_cat (pv 2) (pe_lst (pa_cons (pe_errF (pe_newK S.e11 hr (by rfl) (pk_cons (pv 0) pk_nil))) (pa_cons (pe_errF (pe_newK S.e12 hr (by rfl) (pk_cons (pv 0) pk_nil))) pa_nil)))))
      (pss_one (ps_ret (pe_and (pe_cmpR op_eq (pe_callB (call_R gu hr.units) (by rfl) mr (by decide +kernel) (pa_cons (pv 1) pa_nil)) (pe_callB (call_R gu hr.units) (by rfl) mr (by decide +kernel) (pa_cons (pe_op op_rep (pe_lst (pa_cons (pv 0) pa_nil)) pe_int) pa_nil)) (nomark _)) (pe_one (pe_cmpR op_eq (pe_callB (call_R gu hr.units) (by rfl) mr (by decide +kernel) (pa_cons (pv 2) pa_nil)) (pe_callB (call_R gu hr.units) (by rfl) mr (by decide +kernel) (pa_cons (pe_op op_rep (pe_lst (pa_cons (pv 0) pa_nil)) pe_int) pa_nil)) (nomark _)))))))))))), ?_⟩
    have sm0 := same_refl (H := H)
    refine ⟨_, rfl, Nat.le_of_ble_eq_true rfl, _, fun _ => rfl, rfl, fun a1 H1 n1 z1 w1 => ?_⟩
    obtain ⟨d1, x1, y1⟩ := fld_go (f := "hand") (v := v) w1 rfl
    refine ⟨_, _, d1, _, v, rfl, S.e0.E, S.e0.fld _ (by simp), x1, y1, rfl, ?_⟩
    have sm1 := sm0.trans z1
    refine ⟨_, rfl, Nat.le_of_ble_eq_true rfl, _, fun _ => rfl, rfl, fun a2 H2 n2 z2 w2 => ?_⟩
    obtain ⟨d2, x2, y2⟩ := fld_go (f := "text") (v := v) w2 rfl
    refine ⟨_, _, d2, _, v, rfl, S.e0.E, S.e0.fld _ (by simp), x2, y2, rfl, ?_⟩
    have sm2 := sm1.trans z2
    refine ⟨_, rfl, Nat.le_of_ble_eq_true rfl, _, fun _ => rfl, rfl, fun a3 H3 n3 z3 w3 => ?_⟩
    obtain ⟨d3, x3, y3⟩ := fld_go (f := "row") (v := v) w3 rfl
    refine ⟨_, _, d3, _, v, rfl, S.e0.E, S.e0.fld _ (by simp), x3, y3, rfl, ?_⟩
    have sm3 := sm2.trans z3
    refine ⟨_, rfl, Nat.le_of_ble_eq_true rfl, _, fun _ => rfl, rfl, fun a4 H4 n4 z4 w4 => ?_⟩
    obtain ⟨d4, x4, y4⟩ := fld_go (f := "number") (v := v) w4 rfl
    refine ⟨_, _, d4, _, v, rfl, S.e1.E, S.e1.fld _ (by simp), x4, y4, rfl, ?_⟩
    have sm4 := sm3.trans z4
    refine ⟨Nat.le_of_ble_eq_true rfl, fun l5 n5 => ?_⟩
    have z5 := same_new (o := .lst [v, v, v, v]) n5
    have ph5 : (upd H4 l5 (.lst [v, v, v, v])) l5 = some (.lst [v, v, v, v]) := upd_same
    generalize upd H4 l5 (.lst [v, v, v, v]) = H5 at z5 ph5 ⊢
    have sm5 := sm4.trans z5
    refine ⟨_, rfl, ?_⟩
    refine ⟨_, rfl, Nat.le_of_ble_eq_true rfl, _, fun _ => rfl, rfl, fun a6 H6 n6 z6 w6 => ?_⟩
    obtain ⟨d6, x6, y6⟩ := fld_go (f := "at") (v := v) w6 rfl
    refine ⟨_, _, d6, _, v, rfl, S.e1.E, S.e1.fld _ (by simp), x6, y6, rfl, ?_⟩
    have sm6 := sm5.trans z6
    have ph6 := z6 _ _ ph5
    refine ⟨_, rfl, Nat.le_of_ble_eq_true rfl, _, fun _ => rfl, rfl, fun a7 H7 n7 z7 w7 => ?_⟩
    obtain ⟨d7, x7, y7⟩ := fld_go (f := "row") (v := v) w7 rfl
    refine ⟨_, _, d7, _, v, rfl, S.e6.E, S.e6.fld _ (by simp), x7, y7, rfl, ?_⟩
    have sm7 := sm6.trans z7
    have ph7 := z7 _ _ ph6
    refine ⟨_, rfl, Nat.le_of_ble_eq_true rfl, _, fun _ => rfl, rfl, fun a8 H8 n8 z8 w8 => ?_⟩
    obtain ⟨d8, x8, y8⟩ := fld_go (f := "hand") (v := v) w8 rfl
    refine ⟨_, _, d8, _, v, rfl, S.e8.E, S.e8.fld _ (by simp), x8, y8, rfl, ?_⟩
    have sm8 := sm7.trans z8
    have ph8 := z8 _ _ ph7
    refine ⟨_, rfl, Nat.le_of_ble_eq_true rfl, _, fun _ => rfl, rfl, fun a9 H9 n9 z9 w9 => ?_⟩
    obtain ⟨d9, x9, y9⟩ := fld_go (f := "point") (v := v) w9 rfl
    refine ⟨_, _, d9, _, v, rfl, S.e9.E, S.e9.fld _ (by simp), x9, y9, rfl, ?_⟩
    have sm9 := sm8.trans z9
    have ph9 := z9 _ _ ph8
    refine ⟨_, rfl, Nat.le_of_ble_eq_true rfl, _, fun _ => rfl, rfl, fun a10 H10 n10 z10 w10 => ?_⟩
    obtain ⟨d10, x10, y10⟩ := fld_go (f := "choice") (v := v) w10 rfl
    refine ⟨_, _, d10, _, v, rfl, S.e10.E, S.e10.fld _ (by simp), x10, y10, rfl, ?_⟩
    have sm10 := sm9.trans z10
    have ph10 := z10 _ _ ph9
    refine ⟨Nat.le_of_ble_eq_true rfl, fun l11 n11 => cat_go (same_refl (H := H10)) ph10 n11 (Nat.le_of_ble_eq_true rfl) fun p11 H11 z11 ph11 => ?_⟩
    have sm11 := sm10.trans z11
    refine ⟨_, rfl, ?_⟩
    refine ⟨_, rfl, Nat.le_of_ble_eq_true rfl, _, fun _ => rfl, rfl, fun a12 H12 n12 z12 w12 => ?_⟩
    obtain ⟨d12, x12, y12⟩ := fld_go (f := "name") (v := v) w12 rfl
    refine ⟨_, _, d12, _, v, rfl, S.e11.E, S.e11.fld _ (by simp), x12, y12, rfl, ?_⟩
    have sm12 := sm11.trans z12
    have ph12 := z12 _ _ ph11
    refine ⟨_, rfl, Nat.le_of_ble_eq_true rfl, _, fun _ => rfl, rfl, fun a13 H13 n13 z13 w13 => ?_⟩
    obtain ⟨d13, x13, y13⟩ := fld_go (f := "many") (v := v) w13 rfl
    refine ⟨_, _, d13, _, v, rfl, S.e12.E, S.e12.fld _ (by simp), x13, y13, rfl, ?_⟩
    have sm13 := sm12.trans z13
    have ph13 := z13 _ _ ph12
    refine ⟨Nat.le_of_ble_eq_true rfl, fun l14 n14 => cat_go (same_refl (H := H13)) ph13 n14 (Nat.le_of_ble_eq_true rfl) fun p14 H14 z14 ph14 => ?_⟩
    have sm14 := sm13.trans z14
    refine ⟨_, rfl, Nat.le_of_ble_eq_true rfl, _, fun _ => rfl, rfl, fun a15 H15 n15 z15 w15 => ?_⟩
    obtain ⟨d15, x15, y15⟩ := fld_go (f := "hand") (v := v) w15 rfl
    refine ⟨_, _, d15, _, v, rfl, S.e0.E, S.e0.fld _ (by simp), x15, y15, rfl, ?_⟩
    have sm15 := sm14.trans z15
    have hs15 := z15 _ _ ph14
    refine ⟨_, rfl, Nat.le_of_ble_eq_true rfl, _, fun _ => rfl, rfl, fun a16 H16 n16 z16 w16 => ?_⟩
    obtain ⟨d16, x16, y16⟩ := fld_go (f := "number") (v := v) w16 rfl
    refine ⟨_, _, d16, _, v, rfl, S.e1.E, S.e1.fld _ (by simp), x16, y16, rfl, ?_⟩
    have sm16 := sm15.trans z16
    have hs16 := z16 _ _ hs15
    refine ⟨_, rfl, Nat.le_of_ble_eq_true rfl, _, fun _ => rfl, rfl, fun a17 H17 n17 z17 w17 => ?_⟩
    obtain ⟨d17, x17, y17⟩ := fld_go (f := "row") (v := v) w17 rfl
    refine ⟨_, _, d17, _, v, rfl, S.e6.E, S.e6.fld _ (by simp), x17, y17, rfl, ?_⟩
    have sm17 := sm16.trans z17
    have hs17 := z17 _ _ hs16
    refine ⟨Nat.le_of_ble_eq_true rfl, fun l18 n18 => ?_⟩
    have z18 := same_new (o := .lst [v, v, v]) n18
    have ph18 : (upd H17 l18 (.lst [v, v, v])) l18 = some (.lst [v, v, v]) := upd_same
    generalize upd H17 l18 (.lst [v, v, v]) = H18 at z18 ph18 ⊢
    have sm18 := sm17.trans z18
    have hs18 := z18 _ _ hs17
    refine ⟨_, rfl, ?_⟩
    refine ⟨_, rfl, Nat.le_of_ble_eq_true rfl, _, fun _ => rfl, rfl, fun a19 H19 n19 z19 w19 => ?_⟩
    obtain ⟨d19, x19, y19⟩ := fld_go (f := "hand") (v := v) w19 rfl
    refine ⟨_, _, d19, _, v, rfl, S.e8.E, S.e8.fld _ (by simp), x19, y19, rfl, ?_⟩
    have sm19 := sm18.trans z19
    have hs19 := z19 _ _ hs18
    have ph19 := z19 _ _ ph18
    refine ⟨_, rfl, Nat.le_of_ble_eq_true rfl, _, fun _ => rfl, rfl, fun a20 H20 n20 z20 w20 => ?_⟩
    obtain ⟨d20, x20, y20⟩ := fld_go (f := "point") (v := v) w20 rfl
    refine ⟨_, _, d20, _, v, rfl, S.e9.E, S.e9.fld _ (by simp), x20, y20, rfl, ?_⟩
    have sm20 := sm19.trans z20
    have hs20 := z20 _ _ hs19
    have ph20 := z20 _ _ ph19
    refine ⟨_, rfl, Nat.le_of_ble_eq_true rfl, _, fun _ => rfl, rfl, fun a21 H21 n21 z21 w21 => ?_⟩
    obtain ⟨d21, x21, y21⟩ := fld_go (f := "choice") (v := v) w21 rfl
    refine ⟨_, _, d21, _, v, rfl, S.e10.E, S.e10.fld _ (by simp), x21, y21, rfl, ?_⟩
    have sm21 := sm20.trans z21
    have hs21 := z21 _ _ hs20
    have ph21 := z21 _ _ ph20
    refine ⟨Nat.le_of_ble_eq_true rfl, fun l22 n22 => cat_go (same_refl (H := H21)) ph21 n22 (Nat.le_of_ble_eq_true rfl) fun p22 H22 z22 ph22 => ?_⟩
    have sm22 := sm21.trans z22
    have hs22 := z22 _ _ hs21
    refine ⟨_, rfl, ?_⟩
    refine ⟨_, rfl, Nat.le_of_ble_eq_true rfl, _, fun _ => rfl, rfl, fun a23 H23 n23 z23 w23 => ?_⟩
    obtain ⟨d23, x23, y23⟩ := fld_go (f := "name") (v := v) w23 rfl
    refine ⟨_, _, d23, _, v, rfl, S.e11.E, S.e11.fld _ (by simp), x23, y23, rfl, ?_⟩
    have sm23 := sm22.trans z23
    have hs23 := z23 _ _ hs22
    have ph23 := z23 _ _ ph22
    refine ⟨_, rfl, Nat.le_of_ble_eq_true rfl, _, fun _ => rfl, rfl, fun a24 H24 n24 z24 w24 => ?_⟩
    obtain ⟨d24, x24, y24⟩ := fld_go (f := "many") (v := v) w24 rfl
    refine ⟨_, _, d24, _, v, rfl, S.e12.E, S.e12.fld _ (by simp), x24, y24, rfl, ?_⟩
    have sm24 := sm23.trans z24
    have hs24 := z24 _ _ hs23
    have ph24 := z24 _ _ ph23
    refine ⟨Nat.le_of_ble_eq_true rfl, fun l25 n25 => cat_go (same_refl (H := H24)) ph24 n25 (Nat.le_of_ble_eq_true rfl) fun p25 H25 z25 ph25 => ?_⟩
    have sm25 := sm24.trans z25
    have hs25 := z25 _ _ hs24
    have i25 := hi.same sm25
    refine ⟨_, rfl, v, o, i25, .inr ⟨_, 10, rfl, hs25, by decide, ?_⟩⟩
    refine ⟨_, rfl, Nat.le_of_ble_eq_true rfl, fun l nl => ⟨l, _, [v], rfl, rfl, upd_same, by decide, by decide, Nat.le_of_ble_eq_true rfl, fun p np => ?_⟩⟩
    have z1 := (same_new (o := .lst [v]) nl).trans (same_new (o := .lst (List.replicate (Int.toNat 11) [v]).flatten) np)
    refine ⟨v, o, i25.same z1, .inr ⟨p, 10, rfl, upd_same, by decide, rfl, true, ?_, ?_⟩⟩
    · rw [decide_eq_true rfl]
    show (_ : Prop)
    rw [if_pos rfl]
    have hm := z1 _ _ ph25
    have i2 := i25.same z1
    have smz := sm25.trans z1
    generalize upd (upd _ l (.lst [v])) p (.lst (List.replicate (Int.toNat 11) [v]).flatten) = G at hm i2 smz ⊢
    refine ⟨_, rfl, v, o, i2, .inr ⟨_, 7, rfl, hm, by decide, ?_⟩⟩
    refine ⟨_, rfl, Nat.le_of_ble_eq_true rfl, fun l2 nl2 => ⟨l2, _, [v], rfl, rfl, upd_same, by decide, by decide, Nat.le_of_ble_eq_true rfl, fun p2 np2 => ?_⟩⟩
    have z2 := (same_new (o := .lst [v]) nl2).trans (same_new (o := .lst (List.replicate (Int.toNat 8) [v]).flatten) np2)
    refine ⟨v, o, i2.same z2, .inr ⟨p2, 7, rfl, upd_same, by decide, rfl, ?_⟩⟩
    rw [decide_eq_true rfl]
    exact q _ (smz.trans z2)
end
end K03

set_option maxHeartbeats 4000000
namespace K03
open PySem PySem.Spec PyProof.Rows L2 G3 G5 E2 E3 E4 E5 E7 E8 E9 EB EC
theorem ps_raiseN {X : Cx} {nm : Str} {fn : List Str} {p pos pos' : Pos} {e : Expr} {es : List Expr} {ta : TA} {W : WX} (hc : X.calm = true) (tk : Takes X W) (S : Err X.prog X.w X.K X.mg X.base nm fn) (hr : Room 2 X.A) (hg : Gl X nm) (ha : PA X (e :: es) ta)
    (hdb : (nm == ("__debug__" : Str)) = false := by decide) (he : starEach (e :: es) X.env = (false, eval e X.env) :: starEach es X.env := by rfl) (hpl : (backTo pos (starEach es X.env)).any (·.1) = false := by rfl) :
    PS X (.Raise (some (.Call (.Name nm p) (e :: es) [] pos)) none pos') (fun _ σ H => tNewR S.C fn ta σ H fun cls d H' => W cls d σ H') := ps_raise hc tk (pmk_new S hr hg ha hdb he hpl)
section
variable {P : Program} {w : World} {K : PySem.W.Frag} {mg : Str → Option Value} {base : Heap}
theorem ok_raised {f : Addr} {fd : FuncData} (F : Fun K "_law_raised" "_law_raised" sRaised f fd) (S : Kinds P w K mg base) (mr : mg "repr" = none) (ex : PySem.W.exmOne K (.ref S.e6.C) (.ref S.cT) = some true) : FnG P w K mg base CX0 3 f fd ["_law_item"] (spFR K) := by
  refine body_of0 F scRaised (fun vs H Q E h => ?_) (fun cdv A outer s H vs Q E gu hr h => ?_)
  · obtain ⟨v, o, rfl, _⟩ := h
    rfl
  · obtain ⟨v, o, rfl, hi, q⟩ := h
    have nd := scRaised.nd
    refine ⟨_, pss_cons (ps_set (i := 1) nd rfl (.inl rfl) pe_non)
      (pss_cons (ps_try_kept (i := 2) (c := .ref S.cT) (tb := fun W => fun _ σ H => tNewR S.e6.C ["row"] (tCons (tVar 0) tNil) σ H fun cls d H' => W cls d σ H') (ts := fun a cls d => tAsg (tVar 2) (gName 1)) rfl rfl nd rfl rfl ⟨by rfl, by decide, .inl S.gT⟩ rfl
        (fun W pn xe tk po => pss_one (ps_raiseN rfl tk S.e6 hr (by rfl) (pa_cons (pv 0) pa_nil)))
        (fun a oe cls d pn _ _ => pss_one (ps_set (i := 1) nd rfl (.inl rfl) (pv 2))))
      (pss_one (ps_ret (pe_cmpR op_eq (pe_callB (call_R gu hr.units) (by rfl) mr (by decide +kernel) (pa_cons (pe_keptF (pv 1)) pa_nil)) (pe_callB (call_R gu hr.units) (by rfl) mr (by decide +kernel) (pa_cons (pv 0) pa_nil)) (nomark _))))), ?_⟩
    refine ⟨_, rfl, Nat.le_of_ble_eq_true rfl, rfl, by simp [names], fun d H1 n1 s1 e1 => ⟨true, ex, fun _ a na => ?_, fun z => nomatch z⟩⟩
    refine ⟨_, rfl, na, ?_⟩
    have s2 := s1.trans (same_new (o := exk a (.ref S.e6.C) (some d)) na)
    have ed : (upd H1 a (exk a (.ref S.e6.C) (some d))) d = some (.xd (names ["row"] [v])) := by
      rw [upd_ne (ne_of_none e1 na)]
      exact e1
    refine ⟨_, rfl, a, S.e6.C, d, _, v, rfl, S.e6.E, S.e6.fld _ (by simp), upd_same, ed, rfl, ?_⟩
    refine ⟨v, o, hi.same s2, .inl ⟨rfl, ?_⟩⟩
    refine ⟨_, rfl, v, o, hi.same s2, .inl ⟨rfl, rfl, ?_⟩⟩
    rw [decide_eq_true rfl]
    exact q _ s2
end
end K03

set_option maxHeartbeats 8000000
namespace K03
open PySem PySem.Spec PyProof.Rows L2 G0 G1 G3 G5 E2 E3 E4 E5 E7 E8 E9 EB EC
abbrev sLaw : Stmt := topS 25
abbrev nLaw : List Str := ["_law_script", "_law_k", "_law_pool_here", "_law_some", "_law_item", "_law_spot", "_law_error", "_law_own"]
theorem scLaw : FnScope nLaw ["_law_script"] (defScope sLaw) := ⟨rfl, rfl, rfl, by decide +kernel, rfl, by decide +kernel, by decide +kernel⟩
theorem for_enum {K : PySem.W.Frag} {a : Addr} {xs : List V} {g : TG} {tb : TS} {D : Ends} {σ : L2.St} {H : Hp} (Pv : Nat → L2.St → Hp → Prop) (h0 : Pv 0 σ H) (hl : ∀ i σ H, Pv i σ H → SqL K H a xs)
    (hs : ∀ (i : Nat) (x : V) (T : Addr) (σ : L2.St) (H : Hp), xs[i]? = some x → Pv i σ H → H T = none → g (.ref T) σ (upd H T (.tup [.int (i : Nat), x])) fun σ2 H2 => tb { D with nx := Pv (i + 1), ct := Pv (i + 1), bk := D.nx } σ2 H2) (hd : ∀ σ H, Pv xs.length σ H → D.nx σ H) :
    ∃ W : Nat → Nat → L2.St → Hp → Prop, (∃ m, W 0 m σ H) ∧ ∀ i m σ H, W i m σ H →
      ((Ite K a).stop i H ∧ D.nx σ H) ∨ ((Ite K a).go i H ∧ ∃ N : L2.St → Hp → Prop, (∀ σ' H', N σ' H' → ∃ m', m' < m ∧ W (i + 1) m' σ' H') ∧ ∀ x H', (Ite K a).yld i H x H' → g x σ H' fun σ2 H2 => tb { D with nx := N, ct := N, bk := D.nx } σ2 H2) := by
  refine ⟨fun i m σ H => m = xs.length - i ∧ i ≤ xs.length ∧ Pv i σ H, ⟨xs.length, rfl, Nat.zero_le _, h0⟩, ?_⟩
  rintro i m σ H ⟨rfl, hi, p⟩
  have q := hl i σ H p
  by_cases hlt : i < xs.length
  · refine .inr ⟨⟨xs, xs[i], q, by simp [hlt]⟩, Pv (i + 1), fun σ' H' p' => ⟨xs.length - (i + 1), by omega, rfl, hlt, p'⟩, fun v H' y => ?_⟩
    obtain ⟨T, x, rfl, hT, rfl, y⟩ := y
    exact hs i x T σ H (y xs q) p hT
  · have e : i = xs.length := by omega
    subst e
    exact .inl ⟨⟨xs, q, Nat.le_refl _⟩, hd σ H p⟩
/-- the things that items are made of -/
structure Stuff (H : Hp) (p t e d i : Addr) : Prop where
  ht : H t = some (.tup [.str "a", .int 1])
  he : H e = some (.lst [])
  hd : H d = some (.dK [(Sum.inr "b", .ref i)])
  hi : H i = some (.lst [])
  nt : t ≠ p
  ne : e ≠ p
  nd : d ≠ p
  ni : i ≠ p
theorem Stuff.put {H : Hp} {p t e d i : Addr} {o : HO} (h : Stuff H p t e d i) : Stuff (upd H p o) p t e d i :=
  ⟨by rw [upd_ne h.nt]; exact h.ht, by rw [upd_ne h.ne]; exact h.he, by rw [upd_ne h.nd]; exact h.hd, by rw [upd_ne h.ni]; exact h.hi, h.nt, h.ne, h.nd, h.ni⟩
theorem Stuff.same {H H' : Hp} {p t e d i : Addr} (h : Stuff H p t e d i) (s : Same H H') : Stuff H' p t e d i :=
  ⟨s _ _ h.ht, s _ _ h.he, s _ _ h.hd, s _ _ h.hi, h.nt, h.ne, h.nd, h.ni⟩
theorem ints_ok : ∀ n : Nat, n < 200 → (PyData.int (n - 100)).showable = true ∧ (PyData.int (n - 100)).leavesShort 30 = true := by decide +kernel
theorem int_ok {n : Int} (h : -100 ≤ n) (h2 : n < 100) : DataOk (.int n) := by
  have e : n = (((n + 100).toNat : Nat) : Int) - 100 := by omega
  have q := ints_ok (n + 100).toNat (by omega)
  rw [← e] at q
  exact ⟨q.1, by simp only [PyData.depth]; decide, q.2, by simp only [PyData.bulk]; decide⟩
theorem item_of {K : PySem.W.Frag} {H : Hp} {p t e d i : Addr} {n r : Int} (h : Stuff H p t e d i) (hn : -50 ≤ n) (hn2 : n < 49) (h0 : 0 ≤ r) (h1 : r < 9) :
    ∃ v o, atI [V.non, V.str "a", V.ref t, V.ref e, V.ref d, V.bl true, V.int 0, V.int (10 ^ 20), V.int n] r = some v ∧ ItmAs K H v o := by
  have hr : r = 0 ∨ r = 1 ∨ r = 2 ∨ r = 3 ∨ r = 4 ∨ r = 5 ∨ r = 6 ∨ r = 7 ∨ r = 8 := by omega
  rcases hr with rfl | rfl | rfl | rfl | rfl | rfl | rfl | rfl | rfl
  · exact ⟨_, some .none, atI_nat (j := 0) rfl, .non, ⟨by decide +kernel, by decide +kernel, by decide +kernel, by decide +kernel⟩⟩
  · exact ⟨_, some (.str "a"), atI_nat (j := 1) rfl, .str _, ⟨by decide +kernel, by decide +kernel, by decide +kernel, by decide +kernel⟩⟩
  · exact ⟨_, some (.tuple [.str "a", .int 1]), atI_nat (j := 2) rfl, .tup (SqT.of h.ht) (.cons (.str _) (.cons (.int _) .nil)), ⟨by decide +kernel, by decide +kernel, by decide +kernel, by decide +kernel⟩⟩
  · exact ⟨_, some (.list []), atI_nat (j := 3) rfl, .lst (SqL.of h.he) .nil, ⟨by decide +kernel, by decide +kernel, by decide +kernel, by decide +kernel⟩⟩
  · exact ⟨_, none, atI_nat (j := 4) rfl, d, rfl, i, h.hd, h.hi⟩
  · exact ⟨_, some (.bool true), atI_nat (j := 5) rfl, .bl _, ⟨by decide +kernel, by decide +kernel, by decide +kernel, by decide +kernel⟩⟩
  · exact ⟨_, some (.int 0), atI_nat (j := 6) rfl, .int _, ⟨by decide +kernel, by decide +kernel, by decide +kernel, by decide +kernel⟩⟩
  · exact ⟨_, some (.int (10 ^ 20)), atI_nat (j := 7) rfl, .int _, ⟨by decide +kernel, by decide +kernel, by decide +kernel, by decide +kernel⟩⟩
  · exact ⟨_, some (.int n), atI_nat (j := 8) rfl, .int _, int_ok (by omega) (by omega)⟩
theorem dpB {K : PySem.W.Frag} {H : Hp} : ∀ bs : List Bool, DpAll K H (bs.map V.bl) (bs.map PyData.bool)
  | [] => .nil
  | b :: bs => .cons (.bl b) (dpB bs)
theorem shapedB (bs : List Bool) : SeqAt.shaped (.list (bs.map PyData.bool)) = true :=
  G4.nice_shaped (G4.nice_list fun x hx => by
    obtain ⟨b, _, rfl⟩ := List.mem_map.mp hx
    exact G4.nice_bool b) (Nat.le_trans (G4.depth_list (k := 0) fun x hx => by
    obtain ⟨b, _, rfl⟩ := List.mem_map.mp hx
    simp only [PyData.depth]
    exact Nat.le_refl _) (by decide))
theorem eqvAllB : ∀ bs : List Bool, PyData.eqvAll (bs.map PyData.bool) (bs.map PyData.bool) = true
  | [] => by simp only [List.map_nil, PyData.eqvAll]
  | b :: bs => by cases b <;> simp [PyData.eqvAll, PyData.eqv, eqvAllB bs]
theorem neB (bs : List Bool) : (!PyData.eqv (.list (bs.map PyData.bool)) (.list (bs.map PyData.bool))) = false := by
  simp only [PyData.eqv, eqvAllB bs, Bool.not_true]
end K03

set_option maxHeartbeats 8000000
namespace K03
open PySem PySem.Spec PyProof.Rows L2 G0 G1 G3 G5 E2 E3 E4 E5 E7 E8 E9 EB EC
structure Facts (P : Program) (w : World) (K : PySem.W.Frag) (mg : Str → Option Value) (base : Heap) where
  S : Kinds P w K mg base
  fO : Addr
  dO : FuncData
  fT : Addr
  dT : FuncData
  fA : Addr
  dA : FuncData
  fS : Addr
  dS : FuncData
  fB : Addr
  dB : FuncData
  fD : Addr
  dD : FuncData
  fF : Addr
  dF : FuncData
  fR : Addr
  dR : FuncData
  okO : FnOk P w K mg base CX0 1 fO dO ["_law_script", "_law_k"] (spPool K)
  okT : FnOk P w K mg base CX0 1 fT dT ["_law_pool_here", "_law_size"] spTake
  okA : FnOk P w K mg base CX0 3 fA dA ["_law_item"] (spAll S.cs)
  okS : FnOk P w K mg base CX0 1 fS dS ["_law_error"] (spSorts K (S.cs.map Value.ref) 14)
  okB : FnOk P w K mg base CX0 1 fB dB ["_law_error"] (spSorts K (above S.cT) 6)
  okD : FnOk P w K mg base CX0 1 fD dD ["_law_spot"] spDue
  okF : FnG P w K mg base CX0 3 fF dF ["_law_item"] (spFR K)
  okR : FnG P w K mg base CX0 3 fR dR ["_law_item"] (spFR K)
  kO : PySem.W.keepIn K (.ref fO) = true
  kT : PySem.W.keepIn K (.ref fT) = true
  kA : PySem.W.keepIn K (.ref fA) = true
  kS : PySem.W.keepIn K (.ref fS) = true
  kB : PySem.W.keepIn K (.ref fB) = true
  kD : PySem.W.keepIn K (.ref fD) = true
  kF : PySem.W.keepIn K (.ref fF) = true
  kR : PySem.W.keepIn K (.ref fR) = true
  bO : Binds K dO ["_law_script", "_law_k"] []
  bT : Binds K dT ["_law_pool_here", "_law_size"] []
  bA : Binds K dA ["_law_item"] []
  bS : Binds K dS ["_law_error"] []
  bB : Binds K dB ["_law_error"] []
  bD : Binds K dD ["_law_spot"] []
  bF : Binds K dF ["_law_item"] []
  bR : Binds K dR ["_law_item"] []
  gO : mg "_law_pool" = some (.ref fO)
  gT : mg "_law_take" = some (.ref fT)
  gA : mg "_law_all" = some (.ref fA)
  gS : mg "_law_sorts" = some (.ref fS)
  gB : mg "_law_above" = some (.ref fB)
  gD : mg "_law_due" = some (.ref fD)
  gF : mg "_law_fields_right" = some (.ref fF)
  gR : mg "_law_raised" = some (.ref fR)
  mlen : mg "len" = none
  mmax : mg "max" = none
  mmin : mg "min" = none
  mran : mg "range" = none
  menu : mg "enumerate" = none
  ex : ∀ (i : Nat) (c : Addr), S.cs[i]? = some c → ExcC K c
  own : ∀ (i j : Nat) (c c2 : Addr), S.cs[i]? = some c → S.cs[j]? = some c2 → PySem.W.kitOne K (.ref c) (.ref c2) = some (decide (j = i))
  abv : ∀ (i j : Nat) (c : Addr) (u : Value), S.cs[i]? = some c → (above S.cT)[j]? = some u → PySem.W.kitOne K (.ref c) u = some ((due i).getD j false)
section
variable {P : Program} {w : World} {K : PySem.W.Frag} {mg : Str → Option Value} {base : Heap}
theorem law_body (X : Facts P w K mg base) {fa : Addr} {cdv : Value} {s : Shared} {H : Hp} {a : Addr} {ns : List Int} (hS : SqL K H a (ns.map V.int)) (hl : ns.length ≤ 63)
    (hr : Room 3 (callerA.deeper (envOfC "law" (defScope sLaw) s.heap.objs.size fa cdv))) :
    ∃ t, PSs (cxOf CX0 P w K mg base nLaw "law" (defScope sLaw) fa cdv callerA [] s H (fun _ _ _ => False)).nox (defBody sLaw) t ∧ t { nx := fun _ _ => False, rt := fun v _ => v = .bl true } (start nLaw [.ref a]) H := by
  have nd := scLaw.nd
  have hr1 := hr.mono (show 1 ≤ 3 by decide)
  refine ⟨_, pss_cons (ps_for PassesOwn.never rfl (pi_range1 (by rfl) X.mran (pa_cons (pe_callB (call_max2 rfl) (by rfl) X.mmax (by decide +kernel) (pa_cons pe_int (pa_cons (pe_callB (call_min2 rfl) (by rfl) X.mmin (by decide +kernel) (pa_cons (pe_callB call_len_seq (by rfl) X.mlen PySem.boot_len (pa_cons (pv 0) pa_nil)) (pa_cons pe_int pa_nil))) pa_nil))) pa_nil)) (pg_name (i := 1) nd rfl (.inl rfl))
      (pss_cons (ps_set (i := 2) nd rfl (.inl rfl) (pe_call X.okO hr1 (by rfl) X.gO X.kO X.bO .nil pass0 (pa_cons (pv 0) (pa_cons (pv 1) pa_nil))))
      (pss_cons (ps_set (i := 3) nd rfl (.inl rfl) (pe_lst (pa_cons pe_non (pa_cons pe_str (pa_cons (pe_tup (pa_cons pe_str (pa_cons pe_int pa_nil))) (pa_cons (pe_lst pa_nil) (pa_cons (pe_disp (pps_cons pe_str (pe_lst pa_nil) pps_nil) (by rfl) (by rfl) (fun z => by cases z) (by decide))
          (pa_cons pe_bl (pa_cons pe_int (pa_cons (pe_op op_pow pe_int pe_int) (pa_cons (pe_op op_sub (pe_call X.okT hr1 (by rfl) X.gT X.kT X.bT .nil pass0 (pa_cons (pv 2) (pa_cons pe_int pa_nil))) pe_int) pa_nil)))))))))))
      (pss_cons (ps_set (i := 4) nd rfl (.inl rfl) (pe_ix (r := rIxL K) ix_list (pv 3) (pe_call X.okT hr1 (by rfl) X.gT X.kT X.bT .nil pass0 (pa_cons (pv 2) (pa_cons pe_int pa_nil))) (fun _ _ => rfl)))
      (pss_cons (ps_for PassesOwn.never rfl (pi_enum (by rfl) X.menu (pa_cons (pe_call X.okA hr (by rfl) X.gA X.kA X.bA .nil pass0 (pa_cons (pv 4) pa_nil)) pa_nil)) (pg_tup rfl (pgs_cons (pg_name (i := 5) nd rfl (.inr rfl)) (pgs_cons (pg_name (i := 6) nd rfl (.inl rfl)) pgs_nil)))
        (pss_one (ps_if (PW.pt (pw_or (pt_cmpR (op_neD hr.units) (pe_call X.okS hr1 (by rfl) X.gS X.kS X.bS .nil pass0 (pa_cons (pv 6) pa_nil))
            (pe_lc (own := [("_law_own", 7)]) (g := gName 7) (tt := tYes) (by rfl) nd (pi_range1 (by rfl) X.mran (pa_cons pe_int pa_nil))
              (blkOk_by (N := nLaw) (sc := defScope sLaw) (by decide +kernel)) (fun _ _ _ _ _ => pg_name (i := 7) nd rfl (.inl rfl)) (fun _ _ _ _ _ => pts_nil)
              (fun _ _ _ _ _ => pe_cmpR op_eq (pv 7) (pv 5) (nomark _))) (nomark _))
          (pw_or1 (pt_cmpR (op_neD hr.units) (pe_call X.okB hr1 (by rfl) X.gB X.kB X.bB .nil pass0 (pa_cons (pv 6) pa_nil)) (pe_call X.okD hr1 (by rfl) X.gD X.kD X.bD .nil pass0 (pa_cons (pv 5) pa_nil)) (nomark _)))))
        (pss_one (ps_ret pe_bl)) pss_nil)))
      (pss_one (ps_if (PW.pt (pw_or (pt_not (pt_val (pe_callG X.okF rfl hr (by rfl) X.gF X.kF X.bF pass0 (pa_cons (pv 4) pa_nil)))) (pw_or1 (pt_not (pt_val (pe_callG X.okR rfl hr (by rfl) X.gR X.kR X.bR pass0 (pa_cons (pv 4) pa_nil)))))))
        (pss_one (ps_ret pe_bl)) pss_nil)))))))
    (pss_one (ps_ret pe_bl)), ?_⟩
  -- the cells
  refine ⟨_, rfl, a, _, rfl, .inl hS, _, _, rfl, _, _, rfl, ?_⟩
  obtain ⟨n, en, hn⟩ : ∃ n : Nat, (if (if (10 : Int) < ((ns.map V.int).length : Int) then (10 : Int) else ((ns.map V.int).length : Int)) > 1 then (if (10 : Int) < ((ns.map V.int).length : Int) then (10 : Int) else ((ns.map V.int).length : Int)) else 1) = (n : Int) ∧ n ≤ 10 := by
    refine ⟨((if (if (10 : Int) < ((ns.map V.int).length : Int) then (10 : Int) else ((ns.map V.int).length : Int)) > 1 then (if (10 : Int) < ((ns.map V.int).length : Int) then (10 : Int) else ((ns.map V.int).length : Int)) else 1)).toNat, ?_, ?_⟩ <;> (split <;> split <;> omega)
  refine ⟨(n : Int), congrArg (fun z => [V.int z]) en, by omega, by omega, ?_⟩
  rw [show ((n : Int)).toNat = n from Int.toNat_natCast n]
  refine for_range (n := n) (fun k σ H3 => ∃ y1 y2 y3 y4 y5 y6 y7, σ = [some (.ref a), y1, y2, y3, y4, y5, y6, y7] ∧ SqL K H3 a (ns.map V.int))
    ⟨none, none, none, none, none, none, none, rfl, hS⟩ (fun k σ H1 hk hP => ?_) (fun σ H3 hP => ?_)
  · obtain ⟨y1, y2, y3, y4, y5, y6, y7, rfl, hS1⟩ := hP
    -- pool_here = _law_pool(script, k)
    refine ⟨_, rfl, _, rfl, a, ns, k, congrArg (fun z : Int => [V.ref a, V.int z]) (Int.zero_add (k : Int)), hS1, by omega, fun p x0 y0 np hx0 hy0 hy20 => ?_⟩
    have pl0 : Pool (upd H1 p (.lst [.int x0, .int y0])) p := ⟨x0, y0, upd_same, hx0, hy0, hy20⟩
    have sm0 : Same H1 (upd H1 p (.lst [.int x0, .int y0])) := same_new np
    generalize upd H1 p (.lst [.int x0, .int y0]) = H2 at pl0 sm0 ⊢
    -- some = [..]
    refine ⟨Nat.le_of_ble_eq_true rfl, fun t nt => ?_⟩
    have s1 := same_new (o := .tup [.str "a", .int 1]) nt
    have ht1 : (upd H2 t (.tup [.str "a", .int 1])) t = some (.tup [.str "a", .int 1]) := upd_same
    have np2 : ∀ z, H2 z = none → z ≠ p := fun z hz e => by
      obtain ⟨x, y, hp, _⟩ := pl0
      rw [e, hp] at hz
      cases hz
    have ntp := np2 t nt
    generalize upd H2 t (.tup [.str "a", .int 1]) = H3 at s1 ht1 ⊢
    refine ⟨Nat.le_of_ble_eq_true rfl, fun e ne => ?_⟩
    have s2 := s1.trans (same_new (o := .lst []) ne)
    have nep := np2 e (same_none s1 ne)
    have ht2 : (upd H3 e (.lst [])) t = some (.tup [.str "a", .int 1]) := same_new ne _ _ ht1
    have he2 : (upd H3 e (.lst [])) e = some (.lst []) := upd_same
    generalize upd H3 e (.lst []) = H4 at s2 ht2 he2 ⊢
    refine fun d nd4 => ?_
    refine ⟨Nat.le_of_ble_eq_true rfl, fun i ni => ?_⟩
    have ndi : d ≠ i := fun e => by
      rw [← e, upd_same] at ni
      cases ni
    have ni4 : H4 i = none := by
      rw [upd_ne ndi.symm] at ni
      exact ni
    refine ⟨by rw [upd_ne ndi]; exact upd_same, [(Sum.inr "b", .ref i)], rfl, Nat.le_of_ble_eq_true rfl, ?_⟩
    have s3 : Same H2 (upd (upd (upd H4 d (.dK [])) i (.lst [])) d (.dK (mergeK [] [(Sum.inr "b", .ref i)]))) := same_put (same_put (same_put s2 (same_none s2 nd4)) (same_none s2 ni4)) (same_none s2 nd4)
    have ST : Stuff (upd (upd (upd H4 d (.dK [])) i (.lst [])) d (.dK (mergeK [] [(Sum.inr "b", .ref i)]))) p t e d i :=
      ⟨by rw [upd_ne (ne_of_none ht2 nd4), upd_ne (ne_of_none ht2 ni4), upd_ne (ne_of_none ht2 nd4)]; exact ht2, by rw [upd_ne (ne_of_none he2 nd4), upd_ne (ne_of_none he2 ni4), upd_ne (ne_of_none he2 nd4)]; exact he2, upd_same, by rw [upd_ne ndi.symm]; exact upd_same, ntp, nep, np2 d (same_none s2 nd4), np2 i (same_none s2 ni4)⟩
    generalize upd (upd (upd H4 d (.dK [])) i (.lst [])) d (.dK (mergeK [] [(Sum.inr "b", .ref i)])) = H5 at s3 ST ⊢
    clear s1 s2 ht1 ht2 he2 nt ne nd4 ni ni4
    refine ⟨_, _, rfl, rfl, ⟨by decide, by decide, by decide⟩, ?_⟩
    have pl5 : Pool H5 p := by
      obtain ⟨x, y, hp, hh⟩ := pl0
      exact ⟨x, y, s3 _ _ hp, hh⟩
    refine ⟨_, rfl, p, _, rfl, pl5, by decide, by decide, fun x1 y1' r1 hx1 hy1 hy21 hr10 hr11 => ?_⟩
    refine ⟨_, _, rfl, rfl, Nat.le_of_ble_eq_true rfl, fun so nso => ?_⟩
    have ST6 := (ST.put (o := .lst [.int x1, .int y1'])).same (same_new (o := .lst [V.non, V.str "a", V.ref t, V.ref e, V.ref d, V.bl true, V.int 0, V.int (10 ^ 20), V.int (r1 - 50)]) nso)
    have sm6 : Same H1 (upd (upd H5 p (.lst [.int x1, .int y1'])) so (.lst [V.non, V.str "a", V.ref t, V.ref e, V.ref d, V.bl true, V.int 0, V.int (10 ^ 20), V.int (r1 - 50)])) := by
      have q := same_put (o := .lst [.int x1, .int y1']) (sm0.trans s3) np
      exact same_put q (same_none q nso)
    have nsp : so ≠ p := fun e => by
      rw [e, upd_same] at nso
      cases nso
    have hso : (upd (upd H5 p (.lst [.int x1, .int y1'])) so (.lst [V.non, V.str "a", V.ref t, V.ref e, V.ref d, V.bl true, V.int 0, V.int (10 ^ 20), V.int (r1 - 50)])) so = some (.lst [V.non, V.str "a", V.ref t, V.ref e, V.ref d, V.bl true, V.int 0, V.int (10 ^ 20), V.int (r1 - 50)]) := upd_same
    have pl6 : Pool (upd (upd H5 p (.lst [.int x1, .int y1'])) so (.lst [V.non, V.str "a", V.ref t, V.ref e, V.ref d, V.bl true, V.int 0, V.int (10 ^ 20), V.int (r1 - 50)])) p := ⟨x1, y1', by rw [upd_ne nsp.symm]; exact upd_same, hx1, hy1, hy21⟩
    -- item = some[..]
    refine ⟨_, rfl, _, rfl, p, _, rfl, pl6, by decide, by decide, fun x2 y2' r2 hx2 hy2' hy22 hr20 hr21 => ?_⟩
    have ST7 := ST6.put (o := .lst [.int x2, .int y2'])
    obtain ⟨v, o, hv, hi⟩ := item_of (K := K) ST7 (show -50 ≤ r1 - 50 by omega) (show r1 - 50 < 49 by omega) hr20 hr21
    refine ⟨so, _, r2, v, rfl, rfl, SqL.of (by rw [upd_ne nsp]; exact hso), hv, ?_⟩
    have sm7 := same_put (o := .lst [.int x2, .int y2']) sm6 np
    generalize hG : upd (upd (upd H5 p _) so _) p _ = H7
    have hi : ItmAs K H7 v o := by rw [← hG]; exact hi
    have sm7 : Same H1 H7 := by rw [← hG]; exact sm7
    clear hG ST ST6 ST7 sm6 pl6 hso pl5 s3 sm0 pl0 np2
    have hS7 := sm7.seq hS1
    -- for spot, error in enumerate(all(item))
    refine ⟨_, rfl, v, rfl, fun l ps H8 hcs s8 hE hl8 => ⟨l, _, rfl, SqL.of hl8, ?_⟩⟩
    have hi8 := hi.same s8
    have hS8 := s8.seq hS7
    refine for_enum (xs := ps.map fun q => V.ref q.1) (fun j σ H9 => ∃ z5 z6 z7, σ = [some (.ref a), some (.int (0 + (k : Int))), some (.ref p), some (.ref so), some v, z5, z6, z7] ∧ Same H8 H9)
      ⟨y5, y6, y7, rfl, same_refl⟩ (fun j σ H9 hP => ?_) (fun j x T σ H9 hx hP nT => ?_) (fun σ H9 hP => ?_)
    · obtain ⟨_, _, _, _, s9⟩ := hP
      exact SqL.of (s9 _ _ hl8)
    · obtain ⟨z5, z6, z7, rfl, s9⟩ := hP
      rw [List.getElem?_map] at hx
      obtain ⟨q, hq, rfl⟩ := Option.map_eq_some_iff.mp hx
      have hj : X.S.cs[j]? = some q.2 := by
        rw [← hcs, List.getElem?_map, hq]
        rfl
      have hj14 : j < 14 := (List.getElem?_eq_some_iff.mp hj).1
      obtain ⟨fs, hq9⟩ := hE q (List.mem_of_getElem? hq)
      have s10 := s9.trans (same_new (o := .tup [.int (j : Nat), .ref q.1]) nT)
      refine ⟨T, _, rfl, SqT.of upd_same, rfl, _, _, rfl, _, _, rfl, rfl, ?_⟩
      generalize upd H9 T (.tup [.int (j : Nat), .ref q.1]) = H10 at s10 ⊢
      -- sorts(error) != [..]
      refine ⟨_, rfl, q.1, q.2, fs, fun m => decide (m = j), rfl, ErrAt.same hq9 s10, X.ex j _ hj, fun m u hu => ?_, fun l1 H11 s11 hl1 => ?_⟩
      · rw [List.getElem?_map] at hu
        obtain ⟨c2, hc2, rfl⟩ := Option.map_eq_some_iff.mp hu
        exact X.own j m _ _ hj hc2
      refine ⟨14, rfl, by decide, by decide, fun D hD => ?_⟩
      refine lc_range (n := 14) (fun m H12 => Same H11 H12 ∧ H12 D = some (.lst ((List.range m).map fun c => V.bl (decide (c = j))))) ⟨same_new hD, upd_same⟩ (fun m H12 hm hQ => ?_) (fun H12 hQ => ?_)
      · obtain ⟨s12, hD12⟩ := hQ
        refine ⟨rfl, ?_⟩
        dsimp only [tYes]
        rw [if_pos rfl]
        refine ⟨_, rfl, _, rfl, rfl, _, hD12, ?_, same_put s12 hD, ?_⟩
        · rw [List.length_map, List.length_range]
          exact Nat.lt_of_lt_of_le hm (by decide)
        · rw [upd_same, List.range_succ, List.map_append]
          have e : decide (V.int (0 + (m : Int)) = V.int (j : Int)) = decide (m = j) := by
            by_cases h : m = j
            · rw [h]
              simp
            · rw [decide_eq_false h]
              refine decide_eq_false fun z => h ?_
              have z2 : (0 : Int) + (m : Int) = (j : Int) := V.int.inj z
              omega
          show some (HO.lst (_ ++ [V.bl (decide (V.int (0 + (m : Int)) = V.int (j : Int)))])) = _
          rw [e]
          rfl
      · obtain ⟨s12, hD12⟩ := hQ
        have eb : ∀ n : Nat, ((List.range n).map fun c => V.bl (decide (c = j))) = ((List.range n).map fun c => decide (c = j)).map V.bl := fun n => by rw [List.map_map]; rfl
        rw [eb] at hD12 hl1
        refine ⟨_, _, .lst (SqL.of (s12 _ _ hl1)) (dpB _), .lst (SqL.of hD12) (dpB _), shapedB _, shapedB _, _, rfl, ?_⟩
        rw [neB]
        refine iteF ?_
        have s13 := (s10.trans s11).trans s12
        -- above(error) != due(spot)
        refine ⟨_, rfl, q.1, q.2, fs, fun m => (due j).getD m false, rfl, ErrAt.same hq9 s13, X.ex j _ hj, fun m u hu => X.abv j m _ _ hj hu, fun l2 H14 s14 hl2 => ?_⟩
        refine ⟨_, rfl, j, rfl, hj14, fun l3 H15 s15 hl3 => ?_⟩
        have hl2' : H14 l2 = some (.lst ((due j).map V.bl)) := hl2
        refine ⟨_, _, .lst (SqL.of (s15 _ _ hl2')) (dpB _), .lst (SqL.of hl3) (dpB _), shapedB _, shapedB _, _, rfl, ?_⟩
        rw [neB]
        exact iteF ⟨_, _, _, rfl, (s13.trans s14).trans s15⟩
    · obtain ⟨z5, z6, z7, rfl, s9⟩ := hP
      -- fields, raised
      refine ⟨_, rfl, v, o, rfl, hi8.same s9, fun H10 s10 => ⟨_, rfl, ?_⟩⟩
      refine iteF ⟨_, rfl, v, o, rfl, hi8.same (s9.trans s10), fun H11 s11 => ⟨_, rfl, ?_⟩⟩
      exact iteF ⟨_, _, _, _, _, _, _, rfl, ((s9.trans s10).trans s11).seq hS8⟩
  · exact rfl
end
end K03

set_option maxHeartbeats 8000000
namespace K03
open PySem PySem.Spec PyProof.Rows L2 G0 G1 G3 G5 E2 E3 E4 E5 E7 E8 E9 EB EC
/-- a def where the top has put it -/
def At (K : PySem.W.Frag) (x : Str) (st : Stmt) (f : Addr) : Prop :=
  PySem.W.nsIn K mainGlobals x = some (some (.ref f)) ∧ ∃ (od an : Option Addr) (sl : Array (Option Value)) (oc kV dc pm cd ct : Value),
    K.lookup f = some ⟨oc, od, .func (PySem.W.fnOf x x (defArgs st) (defBody st) (defScope st) .none kV dc pm an cd ct), sl⟩ ∧ PySem.W.codeIn K cd x = true ∧ PySem.W.keepIn K (.ref f) = true
theorem at_mk {K : PySem.W.Frag} {x : Str} {st : Stmt} {f : Addr} {od an : Option Addr} {sl : Array (Option Value)} {oc kV dc pm cd ct : Value} (a : PySem.W.nsIn K mainGlobals x = some (some (.ref f)))
    (l : K.lookup f = some ⟨oc, od, .func (PySem.W.fnOf x x (defArgs st) (defBody st) (defScope st) .none kV dc pm an cd ct), sl⟩) (c : PySem.W.codeIn K cd x = true) (k : PySem.W.keepIn K (.ref f) = true) : At K x st f := ⟨a, od, an, sl, oc, kV, dc, pm, cd, ct, l, c, k⟩
theorem At.fn {K : PySem.W.Frag} {x : Str} {st : Stmt} {f : Addr} (h : At K x st f) : ∃ fd, Fun K x x st f fd := by
  obtain ⟨_, od, an, sl, oc, kV, dc, pm, cd, ct, l, c, k⟩ := h
  exact ⟨_, fun_mk l c k⟩
/-- a class where the top has put it -/
def CAt (P : Program) (K : PySem.W.Frag) (nm ql : Str) (st : Stmt) (B newId initId : String) (bmB : List Value) (fn : List Str) (C fI : Addr) : Prop :=
  PySem.W.nsIn K mainGlobals nm = some (some (.ref C)) ∧ lookC K C fI B newId initId bmB fn = true ∧ ∃ fd, InitFn P K C fI ql (defArgs st) (defBody st) (defScope st) fd
theorem cat_mk {P : Program} {K : PySem.W.Frag} {nm ql : Str} {st : Stmt} {B newId initId : String} {bmB : List Value} {fn : List Str} {C fI cl cc : Addr} {od an od2 od3 : Option Addr} {sl sl2 sl3 : Array (Option Value)} {oc kV dc pm ct oc2 oc3 : Value} {fv : Array Value} {file : Str} {tf : Tok}
    (a : PySem.W.nsIn K mainGlobals nm = some (some (.ref C))) (i : PySem.W.findIn K (.ref C) "__init__" = some (some (.ref fI)))
    (l : K.lookup fI = some ⟨oc, od, .func (fnCl "__init__" ql (defArgs st) (defBody st) (defScope st) kV dc pm an (.ref cc) ct cl), sl⟩) (c : PySem.W.codeIn K (.ref cc) ql = true)
    (m : K.lookup cl = some ⟨oc2, od2, .cell (some (.ref C)), sl2⟩) (n : K.lookup cc = some ⟨oc3, od3, .fields fv, sl3⟩) (o : fv[2]? = some (.str file tf)) (p : ((P.main.file : Str) == file) = true) (top : (P.main.scope.names.lookup ("super" : Str)).isSome = false)
    (q : lookC K C fI B newId initId bmB fn = true) : CAt P K nm ql st B newId initId bmB fn C fI :=
  ⟨a, q, _, ⟨oc, kV, dc, pm, .ref cc, ct, od, an, sl, cl, cc, _, _, fv, file, tf, rfl, l, c, m, rfl, rfl, n, rfl, o, p⟩, top⟩
theorem table_at {K : PySem.W.Frag} {cs : List Addr} {us : List Value} {f : Nat → List Bool} (h : table K cs us f = true) {i j : Nat} {c : Addr} {u : Value} {b : Bool} (hi : cs[i]? = some c) (hj : us[j]? = some u) (hb : (f i)[j]? = some b) : PySem.W.kitOne K (.ref c) u = some b := by
  unfold table at h
  rw [List.all_eq_true] at h
  have h1 := h (c, i) (List.mem_zipIdx_iff_getElem?.mpr hi)
  rw [List.all_eq_true] at h1
  have m : (u, b) ∈ us.zip (f i) := by
    refine List.mem_of_getElem? (i := j) ?_
    rw [List.getElem?_zip_eq_some]
    exact ⟨hj, hb⟩
  exact of_decide_eq_true (h1 (u, b) m)
section
variable {P : Program} {w : World} {K : PySem.W.Frag} {mg : Str → Option Value} {base : Heap}
theorem Kinds.exc (S : Kinds P w K mg base) : ∀ c ∈ S.cs, ExcC K c := by
  intro c hc
  simp only [Kinds.cs, List.mem_cons, List.not_mem_nil, or_false] at hc
  rcases hc with rfl | rfl | rfl | rfl | rfl | rfl | rfl | rfl | rfl | rfl | rfl | rfl | rfl | rfl
  · exact S.e0.E
  · exact S.e1.E
  · exact S.e2.E
  · exact S.e3.E
  · exact S.e4.E
  · exact S.e5.E
  · exact S.e6.E
  · exact S.e7.E
  · exact S.e8.E
  · exact S.e9.E
  · exact S.e10.E
  · exact S.e11.E
  · exact S.e12.E
  · exact S.e13.E
theorem all_mk {h : Heap} {fa cT C0 I0 C1 I1 C2 I2 C3 I3 C4 I4 C5 I5 C6 I6 C7 I7 C8 I8 C9 I9 C10 I10 C11 I11 C12 I12 C13 I13 fO fT fA fS fB fD fF fR fL : Addr} (X : K.In h) (G : h.Ns mainGlobals mg) (hfa : mg "law" = some (.ref fa))
    (q0 : CAt P K "NoProgram" "NoProgram.__init__" (initS 2) "ValueError" "ValueError.__new__" "ValueError.__init__" [.type "ValueError", .type "Exception", .type "BaseException", .type "object"] ["hand", "text", "row"] C0 I0)
    (q1 : CAt P K "NoRun" "NoRun.__init__" (initS 3) "ValueError" "ValueError.__new__" "ValueError.__init__" [.type "ValueError", .type "Exception", .type "BaseException", .type "object"] ["number", "at"] C1 I1)
    (q2 : CAt P K "NoStand" "NoStand.__init__" (initS 4) "ValueError" "ValueError.__new__" "ValueError.__init__" [.type "ValueError", .type "Exception", .type "BaseException", .type "object"] [] C2 I2)
    (q3 : CAt P K "NoMachine" "NoMachine.__init__" (initS 5) "ValueError" "ValueError.__new__" "ValueError.__init__" [.type "ValueError", .type "Exception", .type "BaseException", .type "object"] [] C3 I3)
    (q4 : CAt P K "NoLimit" "NoLimit.__init__" (initS 6) "ValueError" "ValueError.__new__" "ValueError.__init__" [.type "ValueError", .type "Exception", .type "BaseException", .type "object"] [] C4 I4)
    (q5 : CAt P K "NoOrder" "NoOrder.__init__" (initS 7) "ValueError" "ValueError.__new__" "ValueError.__init__" [.type "ValueError", .type "Exception", .type "BaseException", .type "object"] [] C5 I5)
    (q6 : CAt P K "NoText" "NoText.__init__" (initS 8) "ValueError" "ValueError.__new__" "ValueError.__init__" [.type "ValueError", .type "Exception", .type "BaseException", .type "object"] ["row"] C6 I6)
    (q7 : CAt P K "NoRow" "NoRow.__init__" (initS 9) "ValueError" "ValueError.__new__" "ValueError.__init__" [.type "ValueError", .type "Exception", .type "BaseException", .type "object"] [] C7 I7)
    (q8 : CAt P K "NoHand" "NoHand.__init__" (initS 10) "IndexError" "IndexError.__new__" "IndexError.__init__" [.type "IndexError", .type "LookupError", .type "Exception", .type "BaseException", .type "object"] ["hand"] C8 I8)
    (q9 : CAt P K "NoPoint" "NoPoint.__init__" (initS 11) "IndexError" "IndexError.__new__" "IndexError.__init__" [.type "IndexError", .type "LookupError", .type "Exception", .type "BaseException", .type "object"] ["point"] C9 I9)
    (q10 : CAt P K "NoChoice" "NoChoice.__init__" (initS 12) "KeyError" "LookupError.__new__" "KeyError.__init__" keyTail ["choice"] C10 I10)
    (q11 : CAt P K "NoName" "NoName.__init__" (initS 13) "KeyError" "LookupError.__new__" "KeyError.__init__" keyTail ["name"] C11 I11)
    (q12 : CAt P K "TooMany" "TooMany.__init__" (initS 14) "OverflowError" "OverflowError.__new__" "OverflowError.__init__" [.type "OverflowError", .type "ArithmeticError", .type "Exception", .type "BaseException", .type "object"] ["many"] C12 I12)
    (q13 : CAt P K "Bare" "Bare.__init__" (initS 15) "RuntimeError" "RuntimeError.__new__" "RuntimeError.__init__" [.type "RuntimeError", .type "Exception", .type "BaseException", .type "object"] [] C13 I13)
    (aT : PySem.W.nsIn K mainGlobals "TurnsError" = some (some (.ref cT)))
    (dO : At K "_law_pool" sPool fO)
    (dT : At K "_law_take" sTake fT)
    (dA : At K "_law_all" sAll fA)
    (dS : At K "_law_sorts" sSorts fS)
    (dB : At K "_law_above" sAbove fB)
    (dD : At K "_law_due" sDue fD)
    (dF : At K "_law_fields_right" sFields fF)
    (dR : At K "_law_raised" sRaised fR)
    (dL : At K "law" sLaw fL)
    (t1 : table K [C0, C1, C2, C3, C4, C5, C6, C7, C8, C9, C10, C11, C12, C13] ([C0, C1, C2, C3, C4, C5, C6, C7, C8, C9, C10, C11, C12, C13].map Value.ref) own = true) (t2 : table K [C0, C1, C2, C3, C4, C5, C6, C7, C8, C9, C10, C11, C12, C13] (above cT) due = true) (xm : PySem.W.exmOne K (.ref C6) (.ref cT) = some true)
    (z0 : PySem.W.nsIn K mainGlobals "super" = some none) (z1 : PySem.W.nsIn K mainGlobals "isinstance" = some none) (z2 : PySem.W.nsIn K mainGlobals "ValueError" = some none) (z3 : PySem.W.nsIn K mainGlobals "IndexError" = some none) (z4 : PySem.W.nsIn K mainGlobals "KeyError" = some none) (z5 : PySem.W.nsIn K mainGlobals "OverflowError" = some none) (z6 : PySem.W.nsIn K mainGlobals "RuntimeError" = some none) (z7 : PySem.W.nsIn K mainGlobals "repr" = some none) (z8 : PySem.W.nsIn K mainGlobals "len" = some none) (z9 : PySem.W.nsIn K mainGlobals "max" = some none) (z10 : PySem.W.nsIn K mainGlobals "min" = some none) (z11 : PySem.W.nsIn K mainGlobals "range" = some none) (z12 : PySem.W.nsIn K mainGlobals "enumerate" = some none) (z13 : PySem.W.nsIn K mainGlobals "abs" = some none) (z14 : PySem.W.nsIn K mainGlobals "int" = some none) :
    LawDef P w K mg 3 fa "_law_script" (fun H a ns => SqL K H a (ns.map V.int) ∧ ns.length ≤ 63) := by
  have e := hfa.symm.trans (PySem.W.mg_of X G dL.1)
  cases e
  obtain ⟨rO, FO⟩ := dO.fn
  obtain ⟨rT, FT⟩ := dT.fn
  obtain ⟨rA, FA⟩ := dA.fn
  obtain ⟨rS, FS⟩ := dS.fn
  obtain ⟨rB, FB⟩ := dB.fn
  obtain ⟨rD, FD⟩ := dD.fn
  obtain ⟨rF, FF⟩ := dF.fn
  obtain ⟨rR, FR⟩ := dR.fn
  have bO := FO.binds (ps := ["_law_script", "_law_k"]) fun _ _ _ _ _ _ us hl => match us, hl with | [_, _], _ => rfl
  have bT := FT.binds (ps := ["_law_pool_here", "_law_size"]) fun _ _ _ _ _ _ us hl => match us, hl with | [_, _], _ => rfl
  have bA := FA.binds (ps := ["_law_item"]) fun _ _ _ _ _ _ us hl => match us, hl with | [_], _ => rfl
  have bS := FS.binds (ps := ["_law_error"]) fun _ _ _ _ _ _ us hl => match us, hl with | [_], _ => rfl
  have bB := FB.binds (ps := ["_law_error"]) fun _ _ _ _ _ _ us hl => match us, hl with | [_], _ => rfl
  have bD := FD.binds (ps := ["_law_spot"]) fun _ _ _ _ _ _ us hl => match us, hl with | [_], _ => rfl
  have bF := FF.binds (ps := ["_law_item"]) fun _ _ _ _ _ _ us hl => match us, hl with | [_], _ => rfl
  have bR := FR.binds (ps := ["_law_item"]) fun _ _ _ _ _ _ us hl => match us, hl with | [_], _ => rfl
  have n0 := PySem.W.mg_none_of X G z0
  have n1 := PySem.W.mg_none_of X G z1
  have n2 := PySem.W.mg_none_of X G z2
  have n3 := PySem.W.mg_none_of X G z3
  have n4 := PySem.W.mg_none_of X G z4
  have n5 := PySem.W.mg_none_of X G z5
  have n6 := PySem.W.mg_none_of X G z6
  have n7 := PySem.W.mg_none_of X G z7
  have n8 := PySem.W.mg_none_of X G z8
  have n9 := PySem.W.mg_none_of X G z9
  have n10 := PySem.W.mg_none_of X G z10
  have n11 := PySem.W.mg_none_of X G z11
  have n12 := PySem.W.mg_none_of X G z12
  have n13 := PySem.W.mg_none_of X G z13
  have n14 := PySem.W.mg_none_of X G z14
  obtain ⟨_, od, an, sl, oc, kV, dc, pm, cd, ct, l, c, k⟩ := dL
  obtain ⟨u0, v0, w0, i0⟩ := q0
  obtain ⟨u1, v1, w1, i1⟩ := q1
  obtain ⟨u2, v2, w2, i2⟩ := q2
  obtain ⟨u3, v3, w3, i3⟩ := q3
  obtain ⟨u4, v4, w4, i4⟩ := q4
  obtain ⟨u5, v5, w5, i5⟩ := q5
  obtain ⟨u6, v6, w6, i6⟩ := q6
  obtain ⟨u7, v7, w7, i7⟩ := q7
  obtain ⟨u8, v8, w8, i8⟩ := q8
  obtain ⟨u9, v9, w9, i9⟩ := q9
  obtain ⟨u10, v10, w10, i10⟩ := q10
  obtain ⟨u11, v11, w11, i11⟩ := q11
  obtain ⟨u12, v12, w12, i12⟩ := q12
  obtain ⟨u13, v13, w13, i13⟩ := q13
  refine ⟨_, "law", "law", defArgs sLaw, defBody sLaw, defScope sLaw, .none, kV, dc, pm, cd, ct, oc, an, od, sl, nLaw, rfl, l, c, scLaw, fun s v => .of_eq rfl, fun base _ _ s H a ns hw hr => ?_⟩
  obtain ⟨e0⟩ := mk2 (P := P) (w := w) (base := base) X G z0 u0 v0 i0
  have c0 : e0.C = C0 := Value.ref.inj (Option.some.inj (e0.g.symm.trans (PySem.W.mg_of X G u0)))
  obtain ⟨e1⟩ := mk3 (P := P) (w := w) (base := base) X G z0 u1 v1 i1
  have c1 : e1.C = C1 := Value.ref.inj (Option.some.inj (e1.g.symm.trans (PySem.W.mg_of X G u1)))
  obtain ⟨e2⟩ := mk4 (P := P) (w := w) (base := base) X G z0 u2 v2 i2
  have c2 : e2.C = C2 := Value.ref.inj (Option.some.inj (e2.g.symm.trans (PySem.W.mg_of X G u2)))
  obtain ⟨e3⟩ := mk5 (P := P) (w := w) (base := base) X G z0 u3 v3 i3
  have c3 : e3.C = C3 := Value.ref.inj (Option.some.inj (e3.g.symm.trans (PySem.W.mg_of X G u3)))
  obtain ⟨e4⟩ := mk6 (P := P) (w := w) (base := base) X G z0 u4 v4 i4
  have c4 : e4.C = C4 := Value.ref.inj (Option.some.inj (e4.g.symm.trans (PySem.W.mg_of X G u4)))
  obtain ⟨e5⟩ := mk7 (P := P) (w := w) (base := base) X G z0 u5 v5 i5
  have c5 : e5.C = C5 := Value.ref.inj (Option.some.inj (e5.g.symm.trans (PySem.W.mg_of X G u5)))
  obtain ⟨e6⟩ := mk8 (P := P) (w := w) (base := base) X G z0 u6 v6 i6
  have c6 : e6.C = C6 := Value.ref.inj (Option.some.inj (e6.g.symm.trans (PySem.W.mg_of X G u6)))
  obtain ⟨e7⟩ := mk9 (P := P) (w := w) (base := base) X G z0 u7 v7 i7
  have c7 : e7.C = C7 := Value.ref.inj (Option.some.inj (e7.g.symm.trans (PySem.W.mg_of X G u7)))
  obtain ⟨e8⟩ := mk10 (P := P) (w := w) (base := base) X G z0 u8 v8 i8
  have c8 : e8.C = C8 := Value.ref.inj (Option.some.inj (e8.g.symm.trans (PySem.W.mg_of X G u8)))
  obtain ⟨e9⟩ := mk11 (P := P) (w := w) (base := base) X G z0 u9 v9 i9
  have c9 : e9.C = C9 := Value.ref.inj (Option.some.inj (e9.g.symm.trans (PySem.W.mg_of X G u9)))
  obtain ⟨e10⟩ := mk12 (P := P) (w := w) (base := base) X G z0 u10 v10 i10
  have c10 : e10.C = C10 := Value.ref.inj (Option.some.inj (e10.g.symm.trans (PySem.W.mg_of X G u10)))
  obtain ⟨e11⟩ := mk13 (P := P) (w := w) (base := base) X G z0 u11 v11 i11
  have c11 : e11.C = C11 := Value.ref.inj (Option.some.inj (e11.g.symm.trans (PySem.W.mg_of X G u11)))
  obtain ⟨e12⟩ := mk14 (P := P) (w := w) (base := base) X G z0 u12 v12 i12
  have c12 : e12.C = C12 := Value.ref.inj (Option.some.inj (e12.g.symm.trans (PySem.W.mg_of X G u12)))
  obtain ⟨e13⟩ := mk15 (P := P) (w := w) (base := base) X G z0 u13 v13 i13
  have c13 : e13.C = C13 := Value.ref.inj (Option.some.inj (e13.g.symm.trans (PySem.W.mg_of X G u13)))
  let S : Kinds P w K mg base := ⟨e0, e1, e2, e3, e4, e5, e6, e7, e8, e9, e10, e11, e12, e13, cT, PySem.W.mg_of X G aT⟩
  have hcs : S.cs = [C0, C1, C2, C3, C4, C5, C6, C7, C8, C9, C10, C11, C12, C13] := by
    show [e0.C, e1.C, e2.C, e3.C, e4.C, e5.C, e6.C, e7.C, e8.C, e9.C, e10.C, e11.C, e12.C, e13.C] = _
    rw [c0, c1, c2, c3, c4, c5, c6, c7, c8, c9, c10, c11, c12, c13]
  have hxm : PySem.W.exmOne K (.ref S.e6.C) (.ref S.cT) = some true := by
    show PySem.W.exmOne K (.ref e6.C) (.ref cT) = some true
    rw [c6]
    exact xm
  obtain ⟨t, h1, h2⟩ := law_body (P := P) (w := w) (K := K) (mg := mg) (base := base)
    { S := S, fO := fO, dO := rO, fT := fT, dT := rT, fA := fA, dA := rA, fS := fS, dS := rS, fB := fB, dB := rB, fD := fD, dD := rD, fF := fF, dF := rF, fR := fR, dR := rR,
      okO := ok_pool FO n8 n13 n14, okT := ok_take FT, okA := ok_all FA S, okS := ok_sorts FS S n1, okB := ok_above FB S n1 n2 n3 n4 n5 n6, okD := ok_due FD, okF := ok_fields FF S n7, okR := ok_raised FR S n7 hxm,
      kO := FO.kp, kT := FT.kp, kA := FA.kp, kS := FS.kp, kB := FB.kp, kD := FD.kp, kF := FF.kp, kR := FR.kp, bO := bO, bT := bT, bA := bA, bS := bS, bB := bB, bD := bD, bF := bF, bR := bR,
      gO := PySem.W.mg_of X G dO.1, gT := PySem.W.mg_of X G dT.1, gA := PySem.W.mg_of X G dA.1, gS := PySem.W.mg_of X G dS.1, gB := PySem.W.mg_of X G dB.1, gD := PySem.W.mg_of X G dD.1, gF := PySem.W.mg_of X G dF.1, gR := PySem.W.mg_of X G dR.1,
      mlen := n8, mmax := n9, mmin := n10, mran := n11, menu := n12,
      ex := fun i c hc => S.exc c (List.mem_of_getElem? hc),
      own := fun i j c c2 hc hc2 => by
        rw [hcs] at hc hc2
        have hj : j < 14 := (List.getElem?_eq_some_iff.mp hc2).1
        refine table_at t1 hc (by rw [List.getElem?_map, hc2]; rfl) ?_
        show ((List.range 14).map fun j => decide (j = i))[j]? = _
        rw [List.getElem?_map, List.getElem?_range hj]
        rfl,
      abv := fun i j c u hc hu => by
        rw [hcs] at hc
        have hj : j < 6 := (List.getElem?_eq_some_iff.mp hu).1
        refine table_at t2 hc hu ?_
        match j, hj with
        | 0, _ => rfl
        | 1, _ => rfl
        | 2, _ => rfl
        | 3, _ => rfl
        | 4, _ => rfl
        | 5, _ => rfl } hw.1 hw.2 hr
  exact ⟨t, h1.nox, h2⟩
end
end K03

set_option maxHeartbeats 0
open PySem PySem.W PyProof.Rows
open_top head03 for PySem.Challenge.rw_fewturnsover_k03_refusals_apart

open PySem PySem.W PyProof.Rows
set_option maxHeartbeats 0 in
theorem PySem.Challenge.cw_fewturnsover_k03_refusals_apart_holds : PySem.Challenge.rw_fewturnsover_k03_refusals_apart.Holds := by
  exact head03 (by
  k_fill
  refine G2.walk_G (l := PySem.Challenge.rw_fewturnsover_k03_refusals_apart) (n := 63) (k := 3) (x := "_law_script") (fun K H a ns => L2.SqL K H a (ns.map L2.V.int) ∧ ns.length ≤ 63) rfl (by decide) rfl ⟨rfl, by decide, by decide⟩ (fun w h Y => PySem.W.kIn_of Y) ?F (fun _ _ _ _ hl _ hS => ⟨hS, hl⟩)
  case F =>
    intro w mg fa h KX G hmg
    refine' K03.all_mk KX G hmg (K03.cat_mk ?a0 ?i0 ?l0 ?c0 ?m0 ?n0 ?o0 ?p0 ?s0 ?q0) (K03.cat_mk ?a1 ?i1 ?l1 ?c1 ?m1 ?n1 ?o1 ?p1 ?s1 ?q1) (K03.cat_mk ?a2 ?i2 ?l2 ?c2 ?m2 ?n2 ?o2 ?p2 ?s2 ?q2) (K03.cat_mk ?a3 ?i3 ?l3 ?c3 ?m3 ?n3 ?o3 ?p3 ?s3 ?q3) (K03.cat_mk ?a4 ?i4 ?l4 ?c4 ?m4 ?n4 ?o4 ?p4 ?s4 ?q4) (K03.cat_mk ?a5 ?i5 ?l5 ?c5 ?m5 ?n5 ?o5 ?p5 ?s5 ?q5) (K03.cat_mk ?a6 ?i6 ?l6 ?c6 ?m6 ?n6 ?o6 ?p6 ?s6 ?q6) (K03.cat_mk ?a7 ?i7 ?l7 ?c7 ?m7 ?n7 ?o7 ?p7 ?s7 ?q7) (K03.cat_mk ?a8 ?i8 ?l8 ?c8 ?m8 ?n8 ?o8 ?p8 ?s8 ?q8) (K03.cat_mk ?a9 ?i9 ?l9 ?c9 ?m9 ?n9 ?o9 ?p9 ?s9 ?q9) (K03.cat_mk ?a10 ?i10 ?l10 ?c10 ?m10 ?n10 ?o10 ?p10 ?s10 ?q10) (K03.cat_mk ?a11 ?i11 ?l11 ?c11 ?m11 ?n11 ?o11 ?p11 ?s11 ?q11) (K03.cat_mk ?a12 ?i12 ?l12 ?c12 ?m12 ?n12 ?o12 ?p12 ?s12 ?q12) (K03.cat_mk ?a13 ?i13 ?l13 ?c13 ?m13 ?n13 ?o13 ?p13 ?s13 ?q13) ?aT (K03.at_mk ?daO ?dlO ?dcO ?dkO) (K03.at_mk ?daT ?dlT ?dcT ?dkT) (K03.at_mk ?daA ?dlA ?dcA ?dkA) (K03.at_mk ?daS ?dlS ?dcS ?dkS) (K03.at_mk ?daB ?dlB ?dcB ?dkB) (K03.at_mk ?daD ?dlD ?dcD ?dkD) (K03.at_mk ?daF ?dlF ?dcF ?dkF) (K03.at_mk ?daR ?dlR ?dcR ?dkR) (K03.at_mk ?daL ?dlL ?dcL ?dkL) ?t1 ?t2 ?xm ?z0 ?z1 ?z2 ?z3 ?z4 ?z5 ?z6 ?z7 ?z8 ?z9 ?z10 ?z11 ?z12 ?z13 ?z14
    (case a0 => k_is)
    (case i0 => k_is)
    (case l0 => k_is)
    (case c0 => k_is)
    (case m0 => k_is)
    (case n0 => k_is)
    (case o0 => rfl)
    (case p0 => first | rfl | decide +kernel)
    (case s0 => decide +kernel)
    (case q0 => kernel_rfl)
    (case a1 => k_is)
    (case i1 => k_is)
    (case l1 => k_is)
    (case c1 => k_is)
    (case m1 => k_is)
    (case n1 => k_is)
    (case o1 => rfl)
    (case p1 => first | rfl | decide +kernel)
    (case s1 => decide +kernel)
    (case q1 => kernel_rfl)
    (case a2 => k_is)
    (case i2 => k_is)
    (case l2 => k_is)
    (case c2 => k_is)
    (case m2 => k_is)
    (case n2 => k_is)
    (case o2 => rfl)
    (case p2 => first | rfl | decide +kernel)
    (case s2 => decide +kernel)
    (case q2 => kernel_rfl)
    (case a3 => k_is)
    (case i3 => k_is)
    (case l3 => k_is)
    (case c3 => k_is)
    (case m3 => k_is)
    (case n3 => k_is)
    (case o3 => rfl)
    (case p3 => first | rfl | decide +kernel)
    (case s3 => decide +kernel)
    (case q3 => kernel_rfl)
    (case a4 => k_is)
    (case i4 => k_is)
    (case l4 => k_is)
    (case c4 => k_is)
    (case m4 => k_is)
    (case n4 => k_is)
    (case o4 => rfl)
    (case p4 => first | rfl | decide +kernel)
    (case s4 => decide +kernel)
    (case q4 => kernel_rfl)
    (case a5 => k_is)
    (case i5 => k_is)
    (case l5 => k_is)
    (case c5 => k_is)
    (case m5 => k_is)
    (case n5 => k_is)
    (case o5 => rfl)
    (case p5 => first | rfl | decide +kernel)
    (case s5 => decide +kernel)
    (case q5 => kernel_rfl)
    (case a6 => k_is)
    (case i6 => k_is)
    (case l6 => k_is)
    (case c6 => k_is)
    (case m6 => k_is)
    (case n6 => k_is)
    (case o6 => rfl)
    (case p6 => first | rfl | decide +kernel)
    (case s6 => decide +kernel)
    (case q6 => kernel_rfl)
    (case a7 => k_is)
    (case i7 => k_is)
    (case l7 => k_is)
    (case c7 => k_is)
    (case m7 => k_is)
    (case n7 => k_is)
    (case o7 => rfl)
    (case p7 => first | rfl | decide +kernel)
    (case s7 => decide +kernel)
    (case q7 => kernel_rfl)
    (case a8 => k_is)
    (case i8 => k_is)
    (case l8 => k_is)
    (case c8 => k_is)
    (case m8 => k_is)
    (case n8 => k_is)
    (case o8 => rfl)
    (case p8 => first | rfl | decide +kernel)
    (case s8 => decide +kernel)
    (case q8 => kernel_rfl)
    (case a9 => k_is)
    (case i9 => k_is)
    (case l9 => k_is)
    (case c9 => k_is)
    (case m9 => k_is)
    (case n9 => k_is)
    (case o9 => rfl)
    (case p9 => first | rfl | decide +kernel)
    (case s9 => decide +kernel)
    (case q9 => kernel_rfl)
    (case a10 => k_is)
    (case i10 => k_is)
    (case l10 => k_is)
    (case c10 => k_is)
    (case m10 => k_is)
    (case n10 => k_is)
    (case o10 => rfl)
    (case p10 => first | rfl | decide +kernel)
    (case s10 => decide +kernel)
    (case q10 => kernel_rfl)
    (case a11 => k_is)
    (case i11 => k_is)
    (case l11 => k_is)
    (case c11 => k_is)
    (case m11 => k_is)
    (case n11 => k_is)
    (case o11 => rfl)
    (case p11 => first | rfl | decide +kernel)
    (case s11 => decide +kernel)
    (case q11 => kernel_rfl)
    (case a12 => k_is)
    (case i12 => k_is)
    (case l12 => k_is)
    (case c12 => k_is)
    (case m12 => k_is)
    (case n12 => k_is)
    (case o12 => rfl)
    (case p12 => first | rfl | decide +kernel)
    (case s12 => decide +kernel)
    (case q12 => kernel_rfl)
    (case a13 => k_is)
    (case i13 => k_is)
    (case l13 => k_is)
    (case c13 => k_is)
    (case m13 => k_is)
    (case n13 => k_is)
    (case o13 => rfl)
    (case p13 => first | rfl | decide +kernel)
    (case s13 => decide +kernel)
    (case q13 => kernel_rfl)
    (case aT => k_is)
    (case daO => k_is)
    (case dlO => k_is)
    (case dcO => k_is)
    (case dkO => k_is)
    (case daT => k_is)
    (case dlT => k_is)
    (case dcT => k_is)
    (case dkT => k_is)
    (case daA => k_is)
    (case dlA => k_is)
    (case dcA => k_is)
    (case dkA => k_is)
    (case daS => k_is)
    (case dlS => k_is)
    (case dcS => k_is)
    (case dkS => k_is)
    (case daB => k_is)
    (case dlB => k_is)
    (case dcB => k_is)
    (case dkB => k_is)
    (case daD => k_is)
    (case dlD => k_is)
    (case dcD => k_is)
    (case dkD => k_is)
    (case daF => k_is)
    (case dlF => k_is)
    (case dcF => k_is)
    (case dkF => k_is)
    (case daR => k_is)
    (case dlR => k_is)
    (case dcR => k_is)
    (case dkR => k_is)
    (case daL => k_is)
    (case dlL => k_is)
    (case dcL => k_is)
    (case dkL => k_is)
    (case t1 => kernel_rfl)
    (case t2 => kernel_rfl)
    (case xm => first | kernel_rfl | k_is)
    (case z0 => k_is)
    (case z1 => k_is)
    (case z2 => k_is)
    (case z3 => k_is)
    (case z4 => k_is)
    (case z5 => k_is)
    (case z6 => k_is)
    (case z7 => k_is)
    (case z8 => k_is)
    (case z9 => k_is)
    (case z10 => k_is)
    (case z11 => k_is)
    (case z12 => k_is)
    (case z13 => k_is)
    (case z14 => k_is))
