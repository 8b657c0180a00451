import PyProof.Rows.All
import Wide.All
import OpenK.AllK
import Wide.FinOn
import HandS.ForMost
import HandS.EndBits
import HandS.Wide
import HandS.IsInst
import PyProof.ReprRoads
import PyProof.ReprBulk
import KE.DataCmp
import KE.SortData
import HandS.SortRule
import HandS.TupAny
import HandS.CallLocal
import HandS.ForExc
import HandS.ExcInit
import KE.KExcSuper
import KE.KExcInit
import HandS.ExcIs
import HandS.ExcField
import KE.KExcIs
import HandS.ExcValue
import HandS.WordsExc
import HandS.Walk
import PyProof.DictCopy
import HandS.SetFor
import HandS.Strs
import HandS.TupMul
import HandS.StrMore
import HandS.Zip
import HandS.OwnIter
import KE.KItemsList
import HandS.Defaults
import KE.GoesEnum
import HandS.Iter
import HandS.Style
import PySem.Challenge.RW_fewturnsover_k27_limits_told
set_option Elab.async false
set_option linter.all false
set_option maxRecDepth 100000
set_option maxHeartbeats 4000000
namespace G0
open PySem PySem.Spec PyProof.Rows L2

/-! what repr tells of data of any depth -/
mutual
theorem nodict {K : PySem.W.Frag} {H : Hp} : ∀ (d : PyData) (v : V), Dp K H v d → d.hasDict = false
  | .none, _, _ => by simp [PyData.hasDict]
  | .bool _, _, _ => by simp [PyData.hasDict]
  | .int _, _, _ => by simp [PyData.hasDict]
  | .str _, _, _ => by simp [PyData.hasDict]
  | .list ds, _, h => by
    cases h with
    | lst _ ha => simp only [PyData.hasDict]; exact nodictAll ds _ ha
  | .tuple ds, _, h => by
    cases h with
    | tup _ ha => simp only [PyData.hasDict]; exact nodictAll ds _ ha
  | .dict _, _, h => by cases h
theorem nodictAll {K : PySem.W.Frag} {H : Hp} : ∀ (ds : List PyData) (vs : List V), DpAll K H vs ds → PyData.hasDictAll ds = false
  | [], _, _ => by simp [PyData.hasDictAll]
  | d :: ds, _, h => by
    cases h with
    | cons h1 h2 => simp only [PyData.hasDictAll, nodict d _ h1, nodictAll ds _ h2, Bool.or_self]
end

section
variable {X : Cx}
/-- repr(x) where nothing is being shown around -/
def rRepr (K : PySem.W.Frag) : List V → Hp → VK → Prop := fun xs H Q =>
  ∃ x d, xs = [x] ∧ Dp K H x d ∧ d.showable = true ∧ d.depth ≤ 60 ∧ d.shown.length ≤ sizeLine ∧ Q (.str d.shown) H
theorem call_reprD (gu : X.A.guards = some []) (ro : X.A.units + 64 < cLine) : CallR X (.builtin "repr") (rRepr X.K) := by
  intro pins s σ H xs us Q I rel hyp
  obtain ⟨x, d, rfl, dp, sh, dep, siz, fin⟩ := hyp
  obtain ⟨u, rfl, ru⟩ := vals1 rel
  cases dp with
  | non =>
    cases ru
    rw [PyData.shown_none] at fin
    exact PySem.P.repr_of_none ⟨.str _, H, I.tok _, ⟨_, rfl⟩, fin⟩
  | bl b =>
    cases ru
    rw [PyData.shown_bool] at fin
    exact PySem.P.repr_of_bool ⟨.str _, H, I.tok _, ⟨_, rfl⟩, by cases b <;> exact fin⟩
  | int i =>
    obtain ⟨t, rfl⟩ := ru
    rw [PyData.shown_int] at fin
    exact PySem.P.repr_of_int (by simpa [PyData.showable] using sh) ⟨.str _, H, I.tok _, ⟨_, rfl⟩, fin⟩
  | str z =>
    obtain ⟨t, rfl⟩ := ru
    rw [PyData.shown_str] at fin siz
    exact PySem.P.repr_of_str ⟨.str _, H, I.tok _, ⟨_, rfl⟩, fin⟩ siz
  | lst hs ha =>
    have hd := nodict _ _ (Dp.lst hs ha)
    obtain ⟨as, rd⟩ := Dp.reads I _ _ _ (Dp.lst hs ha) ru
    cases ru
    exact repr_of_reads' rd sh (fun q => absurd (q.symm.trans hd) (by decide)) gu (by omega) (fun _ _ e => e) (fun h' t k keep => ⟨.str _, H, I.kept keep, ⟨_, rfl⟩, fin⟩) siz
  | tup hs ha =>
    have hd := nodict _ _ (Dp.tup hs ha)
    obtain ⟨as, rd⟩ := Dp.reads I _ _ _ (Dp.tup hs ha) ru
    cases ru
    exact repr_of_reads' rd sh (fun q => absurd (q.symm.trans hd) (by decide)) gu (by omega) (fun _ _ e => e) (fun h' t k keep => ⟨.str _, H, I.kept keep, ⟨_, rfl⟩, fin⟩) siz
end
end G0

set_option maxHeartbeats 4000000
namespace G1
open PySem PySem.Spec PyProof.Rows L2

/-- the law's own def, run where nothing is around: its context knows that no repr is under way -/
structure LawDef (P : Program) (w : World) (K : PySem.W.Frag) (mg : Str → Option Value) (k : Nat) (fa : Addr) (x : Str) (want : Hp → Addr → List Int → Prop) : Prop where
  ex : ∃ (fd : FuncData) (nm ql : Str) (pr : Arguments) (bd : List Stmt) (sc : Scope) (dV kV doc pm cdv ct oc : Value) (an od : Option Addr) (osl : Array (Option Value)) (N : List Str),
    fd = PySem.W.fnOf nm ql pr bd sc dV kV doc pm an cdv ct ∧ K.lookup fa = some ⟨oc, od, .func fd, osl⟩ ∧ PySem.W.codeIn K cdv ql = true ∧ FnScope N [x] sc ∧
    (∀ (s : Shared) (u : Value), BindsTo s fd ⟨[u], []⟩ [(x, u)]) ∧
    ∀ base : Heap, K.In base → base.Ns mainGlobals mg → ∀ (s : Shared) (H : Hp) (a : Addr) (ns : List Int), want H a ns →
      Room k (callerA.deeper (envOfC ql sc s.heap.objs.size fa cdv)) →
      ∃ t, PSs (cxOf CX0 P w K mg base N ql sc fa cdv callerA [] s H (fun _ _ _ => False)) bd t ∧ t { nx := fun _ _ => False, rt := fun v _ => v = .bl true } (start N [.ref a]) H

section
variable {P : Program} {w : World} {K : PySem.W.Frag} {mg : Str → Option Value} {k : Nat} {fa : Addr} {x : Str} {want : Hp → Addr → List Int → Prop}
theorem LawDef.run (L : LawDef P w K mg k fa x want) {base : Heap} (hk : K.In base) (hm : base.Ns mainGlobals mg) {s : Shared} {H : Hp} {a : Addr} {ns : List Int} (hw : want H a ns) (ro : Room (k + 1) callerA)
    (e0 : Env0 P w K mg base callerA [] s H) :
    codeAny (model P w) callerA (.call (.ref fa) ⟨[.ref a], []⟩) (CR CX0 [] P w H s (fun v _ => v = .bl true) fun _ _ _ => False) s := by
  obtain ⟨fd, nm, ql, pr, bd, sc, dV, kV, doc, pm, cdv, ct, oc, an, od, osl, N, rfl, at1, cod, S, bnd, bod⟩ := L.ex
  have inS : K.In s.heap := e0.mod.kin.keeps fun b o e => (e0.bs b o e).1
  have noL : s.heap.NoLimit := e0.mod.nolimit.keeps fun b o e => (e0.bs b o e).1
  refine codeAny_call_function ro.depth (inS _ _ at1) rfl S.co S.gen rfl (PySem.W.codeRec_of inS cod) (bnd s (.ref a) _ _ _ _ ?_)
  refine wpAny_newFunctionEnv_cells S.kind (fun ⟨n, v⟩ hy => ?_) fun env he s1 y => ?_
  · have hn : n ∈ [x] := by
      have h1 := List.mem_singleton.mp hy
      rw [(Prod.mk.inj h1).1]
      exact List.mem_singleton.mpr rfl
    rcases S.par n hn with q | q
    · exact Or.inl q
    · exact Or.inr ⟨q, PySem.W.cellsFrom_some _ _ _ (Or.inl q)⟩
  subst he
  refine ⟨noL.keeps y.toInCall.keep, codeAny_func ?_⟩
  obtain ⟨t, pt, tt⟩ := bod base hk hm s H a ns hw (ro.deeper _)
  have I : Inv (cxOf CX0 P w K mg base N ql sc fa cdv callerA [] s H fun _ _ _ => False) [] (start N [.ref a]) H s1 := inv_start S ro.hd e0 rfl (.cons rfl .nil) y
  refine wpAny_mono (pt.run [] s1 _ H _ I tt) (fun fl s2 h2 => ?_) fun e s2 h2 => h2
  cases fl with
  | ret u =>
    obtain ⟨v, σ2, H2, J, rv, q⟩ := h2
    exact ⟨v, H2, J.os, J.bare, J.base, J.hok, rv, q⟩
  | next =>
    obtain ⟨_, _, _, q⟩ := h2
    exact q.elim
  | brk =>
    obtain ⟨_, _, _, q⟩ := h2
    exact q.elim
  | cont =>
    obtain ⟨_, _, _, q⟩ := h2
    exact q.elim
end
end G1

set_option maxHeartbeats 4000000
namespace G2
open PySem PySem.Spec PyProof.Rows L2 G1
section
variable {P : Program} {w : World} {K : PySem.W.Frag} {mg mb : Str → Option Value} {k : Nat} {fa a : Addr} {x : Str} {want : Hp → Addr → List Int → Prop} {S0 : Shared} {vs : List Value} {ns : List Int}
theorem not_in_nil {α : Type} {b : α} {p : Prop} (h : b ∈ ([] : List α)) : p := absurd h List.not_mem_nil
/-- from the run to what a row asks of it -/
theorem told_true {H : Hp} (fz : Only H) (hok : HOk P w H S0.heap) {r : Result} {S1 : Shared} (h : CR CX0 [] P w H S0 (fun v _ => v = .bl true) (fun _ _ _ => False) r S1) :
    r = .ok (.ret (.bool true)) ∧ OldK S0.heap S1.heap ∧ S1.os = S0.os ∧ AllBare S1.gens := by
  match r, h with
  | .error e, h => exact False.elim h
  | .ok .next, h => exact False.elim h
  | .ok .brk, h => exact False.elim h
  | .ok .cont, h => exact False.elim h
  | .ok (.ret u), ⟨v, H1, os, br, un, hk1, ru, vt⟩ =>
    have vt2 : v = .bl true := vt
    rw [vt2] at ru
    have ru2 : u = Value.bool true := ru
    subst ru2
    refine ⟨rfl, OldK.of_keep fun b o at0 => ?_, os, br⟩
    rcases fz b with free | ⟨ob, xs, frozen⟩
    · exact un.keep b o at0 free (fun z => not_in_nil z) (fun z => not_in_nil z)
    · have was := (hok b _ frozen).1
      have is := (hk1 b _ (un.frzs b ob _ frozen)).1
      rw [at0] at was
      cases was
      exact is
/-- the heap without the script -/
theorem bare_base (KX : K.In S0.heap) (gl : S0.heap.Ns mainGlobals mg) (bu : S0.heap.Ns builtinsNs mb) (bb : ∀ z : Str, z ≠ "__name__" → mb z = bootBuiltins z) (nl : S0.heap.NoLimit)
    (ob : S0.heap.get? a = some { cls := .type "list", data := .seq vs.toArray }) {H : Hp} (own : ∀ b, H b ≠ none → b = a) (out : H a ≠ none → K.lookup a = none) : Mod K mg (hidT S0.heap H) := by
  have plain : ∀ {b : Addr} {m : Str → Option Value}, S0.heap.Ns b m → (hidT S0.heap H).Ns b m := by
    rintro b m ⟨o, es, ep, at0, dat, more⟩
    refine ⟨o, es, ep, hidT_get at0 ?_, dat, more⟩
    cases hb : H b with
    | none => rfl
    | some u =>
      have ba : b = a := own b (by rw [hb]; exact Option.some_ne_none u)
      rw [ba, ob] at at0
      cases at0
      exact absurd dat (by intro z; cases z)
  refine ⟨fun b o lk => hidT_get (KX b o lk) ?_, plain gl, ⟨mb, plain bu, bb⟩, ?_⟩
  · cases hb : H b with
    | none => rfl
    | some u =>
      have ne : H b ≠ none := by rw [hb]; exact Option.some_ne_none u
      have ba : b = a := own b ne
      subst ba
      rw [out ne] at lk
      cases lk
  · obtain ⟨mc, n1, n2⟩ := nl
    exact ⟨mc, plain n1, n2⟩
theorem law_at (KX : K.In S0.heap) (gl : S0.heap.Ns mainGlobals mg) (bu : S0.heap.Ns builtinsNs mb) (bb : ∀ z : Str, z ≠ "__name__" → mb z = bootBuiltins z) (nl : S0.heap.NoLimit) (gn : S0.gens = #[])
    (ob : S0.heap.get? a = some { cls := .type "list", data := .seq vs.toArray }) (ia : IntsAre vs ns) (ln : ns.length ≤ sizeLine) (ro : Room (k + 1) callerA) (L : LawDef P w K mg k fa x want)
    (hw : ∀ H : Hp, SqL K H a (ns.map V.int) → want H a ns) :
    codeAny (model P w) callerA (.call (.ref fa) ⟨[.ref a], []⟩) (fun r S1 => r = .ok (.ret (.bool true)) ∧ OldK S0.heap S1.heap ∧ S1.os = S0.os ∧ AllBare S1.gens) S0 := by
  have lenV := ia.length
  have go : ∀ H : Hp, Only H → SqL K H a (ns.map V.int) → HOk P w H S0.heap → (∀ b, H b ≠ none → b = a) → (H a ≠ none → K.lookup a = none) →
      codeAny (model P w) callerA (.call (.ref fa) ⟨[.ref a], []⟩) (fun r S1 => r = .ok (.ret (.bool true)) ∧ OldK S0.heap S1.heap ∧ S1.os = S0.os ∧ AllBare S1.gens) S0 := by
    intro H fz sq hok own out
    have M := bare_base KX gl bu bb nl ob own out
    have e0 : Env0 P w K mg (hidT S0.heap H) callerA [] S0 H :=
      { frames := rfl, mod := M, bs := fun b o e => of_hidT e, bsz := Nat.le_of_eq (hidT_size _ _), funs := trivial, frf := fun b z => not_in_nil (show b ∈ ([] : List Addr) from z), hok := hok, bare := .of_eq gn }
    exact codeAny_mono (L.run M.kin M.glob (hw H sq) ro e0) fun r S1 h => told_true fz hok h
  by_cases hk : K.lookup a = none
  · let o0 : Obj := { cls := .type "list", data := .seq vs.toArray }
    let H0 : Hp := fun b => if b = a then some (.frz o0 (.lst (ns.map V.int))) else none
    have h1 : H0 a = some (.frz o0 (.lst (ns.map V.int))) := if_pos rfl
    have h2 : ∀ b, b ≠ a → H0 b = none := fun b hb => if_neg hb
    refine go H0 (fun b => ?_) (Or.inl (Or.inr ⟨o0, h1⟩)) (fun b u z => ?_) (fun b z => Decidable.byContradiction fun hb => z (h2 b hb)) (fun _ => hk)
    · by_cases hb : b = a
      · subst hb
        exact Or.inr ⟨_, _, h1⟩
      · exact Or.inl (h2 b hb)
    · by_cases hb : b = a
      · subst hb
        rw [h1] at z
        cases z
        exact ⟨ob, by rw [List.length_map]; exact ln, vs, _, vals_ints ia, ob⟩
      · rw [h2 b hb] at z
        cases z
  · obtain ⟨o, lk⟩ := Option.ne_none_iff_exists'.mp hk
    have same := KX a o lk
    rw [ob] at same
    cases same
    refine go (fun _ => none) (fun _ => Or.inl rfl) (Or.inr ⟨_, vs.toArray, _, lk, rfl, rfl, rfl, by rw [List.size_toArray, lenV]; exact ln, by simpa using vals_ints ia⟩) (fun b u z => by cases z) (fun b z => absurd rfl z) (fun z => absurd rfl z)
end
/-- what k_head leaves, from the law's def -/
theorem walk_G {l : PySem.W.OpenLaw} {n k : Nat} {q : Program} {loose : List Str} {XP : (Str → Option Value) → Heap → Prop} {YP : World → Heap → Prop} {d : DefRec} {K : Params → PySem.W.Frag} {x : Str} (want : PySem.W.Frag → Hp → Addr → List Int → Prop)
    (hn : l.most = some n) (hz : n ≤ sizeLine) (nodef : d.params.defaults = []) (ro : Room (k + 1) callerA) (hY : ∀ (w : World) (h : Heap), YP w h → (K w.params).In h)
    (F : ∀ (w : World) (mg : Str → Option Value) (fa : Addr) (h : Heap), (K w.params).In h → h.Ns mainGlobals mg → mg d.name = some (.ref fa) → LawDef l.prog w (K w.params) mg k fa x (want (K w.params)))
    (hw : ∀ (K : PySem.W.Frag) (H : Hp) (a : Addr) (ns : List Int), ns.length ≤ n → (∀ z ∈ ns, Builtin.Int.intBits z ≤ 1048576) → SqL K H a (ns.map V.int) → want K H a ns) :
    PySem.W.WalkO q loose XP YP l.row.toRowW d [] (fun f vs => PySem.call f vs) :=
  Att.attach_callB hn nodef fun w _ _ mg _ fa _ _ _ _ _ _ _ G Y _ _ _ atl ob ia ln bits gn =>
    law_at (hY w _ Y) G.T.g G.T.b G.T.builtins G.T.nolimit gn ob ia (Nat.le_trans ln hz) ro (F w mg fa _ (hY w _ Y) G.T.g atl) fun H sq => hw _ H _ _ ln bits sq
end G2

set_option maxHeartbeats 4000000
namespace G3
open PySem PySem.Spec PyProof.Rows L2
section
variable {X : Cx} {CX : CXT} {k : Nat} {f : Addr} {fd : FuncData} {ps ks : List Str} {sp : Sp} {E : XK} {x : Str} {p pos : Pos} {kws : List Keyword} {tk : TA} {g : List Value → List Value → List Value} {gV : List V → List V → List V}
/-- f(k = v, ..), nothing by place -/
theorem pe_named (F : FnOk X.prog X.w X.K X.mg X.base CX k f fd ps sp) (ro : Room k X.A) (gl : Gl X x) (at0 : X.mg x = some (.ref f)) (kp : PySem.W.keepIn X.K (.ref f) = true) (kb : KBinds X.K fd ps ks g gV) (px : Passes CX X E) (pk : PK X kws tk)
    (h1 : (backToKw pos (keywordEach kws X.env)).all (·.1.isSome) = true := by rfl) (h2 : (backToKw pos (keywordEach kws X.env)).filterMap (·.1) = ks := by rfl) (h3 : (x == ("__debug__" : Str)) = false := by decide)
    (h4 : ((backTo pos (starEach [] X.env)).any (·.1) || (backToKw pos (keywordEach kws X.env)).any (·.1.isNone)) = false := by rfl) :
    PE X (.Call (.Name x p) [] kws pos) (tCallK sp gV E tNil tk) := by
  refine ⟨fun pins s σ H Q I hyp => wpAny_Call_Name_kw (ld_glob I gl at0 ?_ h3)⟩
  refine PySem.W.callWith_KW0 (h₀ := X.base) I.ok.mod.kin kp h1 (thn (pk.run pos pins s σ H _ I hyp) fun ws s2 ⟨zs, H2, I2, rz, q2⟩ => ⟨I2.kIn, ?_⟩) h4
  rw [h2]
  exact run_fnk (us := []) (vs := []) F ro kb px I2 .nil rz q2
end
/-! heaps -/
theorem same_refl {H : Hp} : Same H H := fun _ _ e => e
theorem same_new {H : Hp} {p : Addr} {o : HO} (h : H p = none) : Same H (upd H p o) := fun b x e => by
  rw [upd_ne (ne_of_none e h)]
  exact e
/-- a store at what was not there at first -/
theorem same_put {H H1 : Hp} {p : Addr} {o : HO} (s : Same H H1) (h : H p = none) : Same H (upd H1 p o) := fun b x e => by
  rw [upd_ne (ne_of_none e h)]
  exact s b x e
theorem same_none {H H1 : Hp} {p : Addr} (s : Same H H1) (h : H1 p = none) : H p = none := by
  cases e : H p with
  | none => rfl
  | some o => rw [s _ _ e] at h; cases h
end G3

set_option maxHeartbeats 4000000
namespace G4
open PySem PySem.Spec PyProof.Rows L2
/-! data that is shown and compared: short leaves, no dicts -/
def nice (d : PyData) : Bool := d.showable && (d.canLay0 && d.leavesShort 13)
theorem nice_show {d : PyData} (h : nice d = true) : d.showable = true := (Bool.and_eq_true_iff.mp h).1
theorem nice_lay {d : PyData} (h : nice d = true) : d.canLay0 = true := (Bool.and_eq_true_iff.mp (Bool.and_eq_true_iff.mp h).2).1
theorem nice_short {d : PyData} (h : nice d = true) : d.leavesShort 13 = true := (Bool.and_eq_true_iff.mp (Bool.and_eq_true_iff.mp h).2).2
theorem nice_mk {d : PyData} (a : d.showable = true) (b : d.canLay0 = true) (c : d.leavesShort 13 = true) : nice d = true := by
  unfold nice
  rw [a, b, c]
  rfl
theorem nice_all : ∀ xs : List PyData, (∀ x ∈ xs, nice x = true) → PyData.showableAll xs = true ∧ PyData.canLayAll0 xs = true ∧ PyData.leavesShortAll 13 xs = true
  | [], _ => by simp only [PyData.showableAll, PyData.canLayAll0, PyData.leavesShortAll]; exact ⟨trivial, trivial, trivial⟩
  | x :: xs, h => by
    have hx := h x List.mem_cons_self
    have ih := nice_all xs fun y hy => h y (List.mem_cons_of_mem _ hy)
    simp only [PyData.showableAll, PyData.canLayAll0, PyData.leavesShortAll, nice_show hx, nice_lay hx, nice_short hx, ih.1, ih.2.1, ih.2.2, Bool.and_self]
    exact ⟨trivial, trivial, trivial⟩
theorem nice_list {xs : List PyData} (h : ∀ x ∈ xs, nice x = true) : nice (.list xs) = true := by
  have q := nice_all xs h
  exact nice_mk (by simp only [PyData.showable]; exact q.1) (by simp only [PyData.canLay0]; exact q.2.1) (by simp only [PyData.leavesShort]; exact q.2.2)
theorem nice_tuple {xs : List PyData} (h : ∀ x ∈ xs, nice x = true) : nice (.tuple xs) = true := by
  have q := nice_all xs h
  exact nice_mk (by simp only [PyData.showable]; exact q.1) (by simp only [PyData.canLay0]; exact q.2.1) (by simp only [PyData.leavesShort]; exact q.2.2)
theorem nice_none : nice .none = true := nice_mk (by simp only [PyData.showable]) (by simp only [PyData.canLay0]) (by simp only [PyData.leavesShort])
theorem nice_bool (b : Bool) : nice (.bool b) = true := nice_mk (by simp only [PyData.showable]) (by simp only [PyData.canLay0]) (by simp only [PyData.leavesShort])
theorem int_few : ∀ n : Nat, n < 200 → nice (.int (n - 100)) = true := by decide +kernel
theorem nice_int {i : Int} (h : -100 ≤ i) (h2 : i < 100) : nice (.int i) = true := by
  have q := int_few (i + 100).toNat (by omega)
  have e : (((i + 100).toNat : Nat) : Int) - 100 = i := by omega
  rw [e] at q
  exact q
theorem depth_all {k : Nat} : ∀ xs : List PyData, (∀ x ∈ xs, x.depth ≤ k) → PyData.depthAll xs ≤ k
  | [], _ => by simp only [PyData.depthAll]; exact Nat.zero_le _
  | x :: xs, h => by
    simp only [PyData.depthAll]
    exact Nat.max_le.mpr ⟨h x List.mem_cons_self, depth_all xs fun y hy => h y (List.mem_cons_of_mem _ hy)⟩
theorem depth_list {k : Nat} {xs : List PyData} (h : ∀ x ∈ xs, x.depth ≤ k) : (PyData.list xs).depth ≤ k + 1 := by
  simp only [PyData.depth]
  exact Nat.add_le_add_right (depth_all xs h) 1
theorem depth_tuple {k : Nat} {xs : List PyData} (h : ∀ x ∈ xs, x.depth ≤ k) : (PyData.tuple xs).depth ≤ k + 1 := by
  simp only [PyData.depth]
  exact Nat.add_le_add_right (depth_all xs h) 1
theorem bulk_all {m : Nat} : ∀ xs : List PyData, (∀ x ∈ xs, x.bulk ≤ m) → PyData.bulkAll xs ≤ (m + 1) * xs.length
  | [], _ => by simp only [PyData.bulkAll]; exact Nat.zero_le _
  | x :: xs, h => by
    have h1 := h x List.mem_cons_self
    have ih := bulk_all xs fun y hy => h y (List.mem_cons_of_mem _ hy)
    simp only [PyData.bulkAll, List.length_cons]
    rw [Nat.mul_add]
    omega
theorem bulk_list {m n : Nat} {xs : List PyData} (h : ∀ x ∈ xs, x.bulk ≤ m) (hn : xs.length ≤ n) : (PyData.list xs).bulk ≤ (m + 1) * n := by
  simp only [PyData.bulk]
  exact Nat.le_trans (bulk_all xs h) (Nat.mul_le_mul_left _ hn)
theorem bulk_tuple {m n : Nat} {xs : List PyData} (h : ∀ x ∈ xs, x.bulk ≤ m) (hn : xs.length ≤ n) : (PyData.tuple xs).bulk ≤ (m + 1) * n := by
  simp only [PyData.bulk]
  exact Nat.le_trans (bulk_all xs h) (Nat.mul_le_mul_left _ hn)
theorem nice_fits {d : PyData} (h : nice d = true) (hb : d.bulk ≤ 2 ^ 20) : d.shown.length ≤ sizeLine := PyData.shown_fits_bulk (B := 13) (by decide) (by decide) (nice_short h) hb
theorem nice_shaped {d : PyData} (h : nice d = true) (hd : d.depth ≤ 60) : SeqAt.shaped d = true := by
  unfold SeqAt.shaped
  rw [nice_lay h, decide_eq_true (show d.depth ≤ 64 by omega)]
  rfl
theorem dpAll_map {α : Type} {K : PySem.W.Frag} {H : Hp} {f : α → V} {g : α → PyData} : ∀ xs : List α, (∀ x ∈ xs, Dp K H (f x) (g x)) → DpAll K H (xs.map f) (xs.map g)
  | [], _ => .nil
  | x :: xs, h => .cons (h x List.mem_cons_self) (dpAll_map xs fun y hy => h y (List.mem_cons_of_mem _ hy))
end G4

set_option maxHeartbeats 4000000
namespace G5
open PySem PySem.Spec PyProof.Rows L2 G3
/-- a def's promise where no repr is under way -/
structure FnG (P : Program) (w : World) (K : PySem.W.Frag) (mg : Str → Option Value) (base : Heap) (CX : CXT) (k : Nat) (f : Addr) (fd : FuncData) (ps : List Str) (sp : Sp) : Prop where
  len : ∀ vs H Q E, sp vs H Q E → vs.length = ps.length
  run : ∀ (A : Around) (outer : List Env) (s : Shared) (H : Hp) (args : Args) (us : List Value) (vs : List V) (Q : VK) (E : XK), A.guards = some [] → Room k A → Env0 P w K mg base A outer s H → BindsTo s fd args (ps.zip us) → Vals vs us → sp vs H Q E →
    codeAny (model P w) A (.call (.ref f) args) (CR CX outer P w H s Q E) s
theorem FnG.of {P : Program} {w : World} {K : PySem.W.Frag} {mg : Str → Option Value} {base : Heap} {CX : CXT} {k : Nat} {f : Addr} {fd : FuncData} {ps : List Str} {sp : Sp} (F : FnOk P w K mg base CX k f fd ps sp) : FnG P w K mg base CX k f fd ps sp :=
  ⟨F.len, fun A outer s H args us vs Q E _ => F.run A outer s H args us vs Q E⟩
section
variable {P : Program} {w : World} {K : PySem.W.Frag} {mg : Str → Option Value} {base : Heap} {CX : CXT}
/-- a def by its body -/
theorem body_of {x ql : Str} {st : Stmt} {f : Addr} {fd : FuncData} {N ps : List Str} {k : Nat} {sp : Sp} (F : Fun K x ql st f fd) (S : FnScope N ps (defScope st)) (len : ∀ vs H Q E, sp vs H Q E → vs.length = ps.length)
    (body : ∀ (cdv : Value) (A : Around) (outer : List Env) (s : Shared) (H : Hp) (vs : List V) (Q : VK) (E : XK), A.guards = some [] → Room k (A.deeper (envOfC ql (defScope st) s.heap.objs.size f cdv)) → sp vs H Q E →
      ∃ t, PSs (cxOf CX P w K mg base N ql (defScope st) f cdv A outer s H E) (defBody st) t ∧ t { nx := fun _ H' => Q .non H', rt := Q } (start N vs) H) : FnG P w K mg base CX (k + 1) f fd ps sp := by
  obtain ⟨oc, od, kV, doc, pm, an, cdv, ct, osl, rfl, lk, hcd⟩ := F.ex
  refine ⟨len, fun A outer s H args us vs Q E gu hr e0 hb r hyp => ?_⟩
  have inS : K.In s.heap := e0.mod.kin.keeps fun b o e => (e0.bs b o e).1
  have noL : s.heap.NoLimit := e0.mod.nolimit.keeps fun b o e => (e0.bs b o e).1
  refine codeAny_call_function hr.depth (inS _ _ lk) rfl S.co S.gen rfl (PySem.W.codeRec_of inS hcd) (hb _ _ _ _ ?_)
  refine wpAny_newFunctionEnv_cells S.kind (fun ⟨n, v⟩ hy => ?_) fun env he s1 y => ?_
  · rcases S.par n (List.of_mem_zip hy).1 with q | q
    · exact Or.inl q
    · exact Or.inr ⟨q, PySem.W.cellsFrom_some _ _ _ (Or.inl q)⟩
  subst he
  refine ⟨noL.keeps y.toInCall.keep, codeAny_func ?_⟩
  obtain ⟨t, pt, tt⟩ := body cdv A outer s H vs Q E gu (hr.deeper _) hyp
  have I : Inv (cxOf CX P w K mg base N ql (defScope st) f cdv A outer s H E) [] (start N vs) H s1 := inv_start S hr.hd e0 (len _ _ _ _ hyp) r y
  refine wpAny_mono (pt.run [] s1 _ H _ I tt) (fun fl s2 h2 => ?_) fun e s2 h2 => h2
  cases fl with
  | ret u =>
    obtain ⟨v, σ2, H2, J, rv, q⟩ := h2
    exact ⟨v, H2, J.os, J.bare, J.base, J.hok, rv, q⟩
  | next =>
    obtain ⟨σ2, H2, J, q⟩ := h2
    exact ⟨.non, H2, J.os, J.bare, J.base, J.hok, rfl, q⟩
  | brk =>
    obtain ⟨_, _, _, q⟩ := h2
    exact q.elim
  | cont =>
    obtain ⟨_, _, _, q⟩ := h2
    exact q.elim
/-- the same where nothing is raised -/
theorem body_of0 {x ql : Str} {st : Stmt} {f : Addr} {fd : FuncData} {N ps : List Str} {k : Nat} {sp : Sp} (F : Fun K x ql st f fd) (S : FnScope N ps (defScope st)) (len : ∀ vs H Q E, sp vs H Q E → vs.length = ps.length)
    (body : ∀ (cdv : Value) (A : Around) (outer : List Env) (s : Shared) (H : Hp) (vs : List V) (Q : VK) (E : XK), A.guards = some [] → Room k (A.deeper (envOfC ql (defScope st) s.heap.objs.size f cdv)) → sp vs H Q E →
      ∃ t, PSs (cxOf CX0 P w K mg base N ql (defScope st) f cdv A outer s H E).nox (defBody st) t ∧ t { nx := fun _ H' => Q .non H', rt := Q } (start N vs) H) : FnG P w K mg base CX0 (k + 1) f fd ps sp :=
  body_of F S len fun cdv A outer s H vs Q E gu hr hyp => by
    obtain ⟨t, h1, h2⟩ := body cdv A outer s H vs Q E gu hr hyp
    exact ⟨t, h1.nox, h2⟩
end
section
variable {X : Cx} {CX : CXT} {k : Nat} {f : Addr} {fd : FuncData} {ps ks : List Str} {sp : Sp} {E : XK} {x : Str} {p pos : Pos} {e : Expr} {es : List Expr} {t tk : TA} {kws : List Keyword} {g : List Value → List Value → List Value} {gV : List V → List V → List V}
theorem run_G {pins : List (Addr × Obj)} {σ : L2.St} {H : Hp} {s : Shared} {Q : VK} {us ws : List Value} {vs zs : List V} (F : FnG X.prog X.w X.K X.mg X.base CX k f fd ps sp) (gu : X.A.guards = some []) (hr : Room k X.A) (kb : KBinds X.K fd ps ks g gV) (hx : Passes CX X E)
    (I : Inv X pins σ H s) (r : Vals vs us) (rz : Vals zs ws) (hyp : sp (gV vs zs) H Q E) : wpAny (model X.prog X.w) X.A (call (.ref f) us (ks.zip ws)) (EP X pins σ Q) X.xe s := by
  have r2 := kb.rel r rz
  have hl : (g us ws).length = ps.length := by rw [← r2.length]; exact F.len _ _ _ _ hyp
  refine wpAny_call (codeAny_mono (F.run X.A X.stack s H ⟨us, ks.zip ws⟩ (g us ws) _ Q E gu hr I.env0 (kb.to s us ws I.kIn hl) r2 hyp) fun rr s' hq => ?_)
  match rr, hq with
  | .error er, z => exact hx pins σ H s er s' I z
  | .ok .next, z => exact False.elim z
  | .ok .brk, z => exact False.elim z
  | .ok .cont, z => exact False.elim z
  | .ok (.ret u), z => exact I.after z
/-- by place alone -/
theorem kb_place {K : PySem.W.Frag} (b : Binds K fd ps []) : KBinds K fd ps [] (fun us _ => us) (fun vs _ => vs) := by
  refine ⟨fun s us ws X hl => ?_, fun r1 _ => r1⟩
  have h := b s us X (by rw [List.append_nil]; exact hl)
  rw [List.append_nil] at h
  cases ws <;> exact h
theorem pe_callG (F : FnG X.prog X.w X.K X.mg X.base CX k f fd ps sp) (gu : X.A.guards = some []) (hr : Room k X.A) (hg : Gl X x) (hm : X.mg x = some (.ref f)) (hk : PySem.W.keepIn X.K (.ref f) = true) (b : Binds X.K fd ps []) (hx : Passes CX X E) (ha : PA X (e :: es) t)
    (hdb : (x == ("__debug__" : Str)) = false := by decide) (he : starEach (e :: es) X.env = (false, eval e X.env) :: starEach es X.env := by rfl) (hpl : (backTo pos (starEach es X.env)).any (·.1) = false := by rfl) :
    PE X (.Call (.Name x p) (e :: es) [] pos) (fun σ H Q => t σ H fun vs H1 => sp vs H1 Q E) := by
  refine ⟨fun pins s σ H Q I hyp => wpAny_Call_Name_kw (ld_glob I hg hm ?_ hdb)⟩
  refine PySem.W.callWith_K (h₀ := X.base) I.ok.mod.kin hk (thn (ha.run pos pins s σ H _ I hyp) fun us s1 ⟨vs, H1, I1, r, q⟩ => ⟨I1.kIn, ?_⟩) he hpl
  exact run_G (ks := []) (ws := []) (zs := []) F gu hr (kb_place b) hx I1 r .nil q
end
end G5

set_option maxHeartbeats 4000000
namespace G6
open PySem PySem.Spec PyProof.Rows L2
/-- a dict with one text for a key and the empty list behind it -/
def DictB (H : Hp) (z : Str) (d : Addr) : Prop := ∃ i, H d = some (.dK [(Sum.inr z, .ref i)]) ∧ H i = some (.lst [])
def tB (z : Str) : Str := dictText [reprText z ++ ": " ++ "[]"]
section
variable {X : Cx} {pins : List (Addr × Obj)} {σ : L2.St} {H : Hp} {s : Shared} {d : Addr} {z : Str}
structure AtB (h : Heap) (prog : Program) (w : World) (d i : Addr) (z : Str) : Prop where
  di : d ≠ i
  dict : ∃ o es n, h.get? d = some o ∧ o.cls = .type "dict" ∧ o.data = .dict es n ∧ (d == sysModules) = false ∧ ReprEntriesK prog w [i] h 0 es.toList [reprText z ++ ": " ++ "[]"]
  emp : ∃ o n, h.get? i = some o ∧ o.cls = .type "list" ∧ o.data = .seq #[] n
theorem at_b (I : Inv X pins σ H s) (hz : (reprText z).length ≤ sizeLine) (h : DictB H z d) : ∃ i, AtB s.heap X.prog X.w d i z ∧ H i = some (.lst []) := by
  obtain ⟨i, hd, hi⟩ := h
  obtain ⟨_, its, n, rv, ei⟩ := (show ObjOk X.prog X.w H s.heap i (.lst []) from I.hok i _ hi)
  cases rv
  obtain ⟨_, nsys, vs, kv, o, es, ep, eo, ex, dt, ks, prs, _⟩ := (show ObjOk X.prog X.w H s.heap d (.dK [(Sum.inr z, .ref i)]) from I.hok d _ hd)
  have hdi : d ≠ i := ne_of hd hi (by intro q; cases q)
  refine ⟨i, ⟨hdi, ⟨o, es, ep, eo, ex.1, dt, nsys, ?_⟩, ⟨_, n, ei, rfl, rfl⟩⟩, hi⟩
  match vs, kv with
  | [(k', u)], .cons r1 .nil =>
    have e1 : k' = Sum.inr z := r1.1.symm
    have e2 : u = Value.ref i := r1.2
    subst e1 e2
    generalize es.toList = l at prs ⊢
    match l, prs with
    | [e], .cons p1 p2 .nil =>
      obtain ⟨key, t, e3, e4⟩ : ∃ x t, (Sum.inr z : Key) = Sum.inr x ∧ e.key = Value.str x t := by
        rcases keyIs_shape (show keyIs (Sum.inr z) e.key = true from p1) with ⟨_, _, q, _⟩ | ⟨x, t, q1, q2⟩
        · cases q
        · exact ⟨x, t, q1, q2⟩
      cases e3
      refine .cons ?_ ?_ .nil
      · rw [e4]
        exact .of_is (ReprIs.str z t hz) _ _ _
      · rw [show e.val = Value.ref i from p2]
        exact ReprK.listEmpty ei rfl rfl
/-- repr of such a dict, and of a list of the same over and over -/
def rReprB : List V → Hp → VK → Prop := fun xs H Q => ∃ (z : Str) (d : Addr), (reprText z).length ≤ 100 ∧ (tB z).length ≤ 200 ∧ DictB H z d ∧ ((xs = [.ref d] ∧ Q (.str (tB z)) H) ∨
  ∃ (l : Addr) (n : Nat), xs = [.ref l] ∧ H l = some (.lst (List.replicate (n + 1) (.ref d))) ∧ n ≤ 100 ∧ Q (.str (listText (List.replicate (n + 1) (tB z)))) H)
theorem vals_same {d : Addr} : ∀ {n : Nat} {its : List Value}, Vals (List.replicate n (V.ref d)) its → its = List.replicate n (Value.ref d)
  | 0, _, .nil => rfl
  | n + 1, _, r => by
    rw [List.replicate_succ] at r
    cases r with
    | cons r1 r2 =>
      cases r1
      rw [vals_same r2, List.replicate_succ]
theorem call_reprB (gu : X.A.guards = some []) (ro : X.A.units + 64 < cLine) : CallR X (.builtin "repr") rReprB := by
  intro pins s σ H xs us Q I rel hyp
  obtain ⟨z, d, hz, ln, hb, hyp⟩ := hyp
  have hz2 : (reprText z).length ≤ sizeLine := Nat.le_trans hz (by decide)
  obtain ⟨i, B, hi⟩ := at_b I hz2 hb
  obtain ⟨o, es, n, eo, ec, ed, nsys, ent⟩ := B.dict
  have one : ReprK X.prog X.w [d, i] s.heap 1 (.ref d) (tB z) := ReprK.dict eo ec ed nsys (by simp [B.di]) ent
  rcases hyp with ⟨rfl, fin⟩ | ⟨l, n, rfl, hl, hn, fin⟩
  · obtain ⟨u, rfl, ru⟩ := vals1 rel
    obtain rfl : u = Value.ref d := ru
    refine call_repr_slot (by omega) ⟨o, eo, ec⟩ F.slot_dict_repr (call_dict_reprK (d := 0) eo ec ed nsys (by simp [B.di]) ent gu (fun b _ => Clear.nil b) (by show X.A.units + 1 + 1 < cLine; omega) (fun _ _ e => e) (fun h' u tk k => ⟨_, _, rfl, .str _, H, I.kept k, ⟨_, rfl⟩, fin⟩) (Nat.le_trans ln (by decide)))
  · obtain ⟨u, rfl, ru⟩ := vals1 rel
    obtain rfl : u = Value.ref l := ru
    obtain ⟨_, its, m, rv, el⟩ := (show ObjOk X.prog X.w H s.heap l (.lst (List.replicate (n + 1) (.ref d))) from I.hok l _ hl)
    have eit := vals_same rv
    subst eit
    have hld : l ≠ d := by
      obtain ⟨i', hd, _⟩ := hb
      exact ne_of hl hd (by intro q; cases q)
    have hli : l ≠ i := ne_of hl hi (by intro q; rw [List.replicate_succ] at q; cases q)
    rw [List.replicate_succ] at el
    refine call_repr_slot (by omega) ⟨_, el, rfl⟩ F.slot_list_repr.toG (call_list_reprK (as := [d, i]) (d := 1) (ts := List.replicate (n + 1) (tB z)) el rfl rfl (by simp [hld, hli]) (by simp) (fun j y ej => ?_) gu (fun b _ => Clear.nil b) (by show X.A.units + 1 + (1 + 1) < cLine; omega) (fun _ _ e => e)
      (fun h' u tk k => ⟨_, _, rfl, .str _, H, I.kept k, ⟨_, rfl⟩, fin⟩) ?_)
    · rw [← List.replicate_succ, List.getElem?_toArray] at ej
      have hj : j < n + 1 := by
        have := (List.getElem?_eq_some_iff.mp ej).1
        rwa [List.length_replicate] at this
      rw [List.getElem?_replicate, if_pos hj] at ej
      obtain rfl : Value.ref d = y := Option.some.inj ej
      refine ⟨tB z, ?_, one⟩
      rw [List.getElem?_replicate, if_pos hj]
    · refine Nat.le_trans (listText_len_le _) ?_
      rw [List.map_replicate, List.sum_replicate_nat, List.length_replicate]
      refine Nat.le_trans (show (n + 1) * (tB z).length + 2 * (n + 1) + 3 ≤ 101 * 200 + 2 * 101 + 3 from ?_) (by decide)
      have := Nat.mul_le_mul (show n + 1 ≤ 101 by omega) ln
      omega
end
end G6

set_option maxHeartbeats 4000000
namespace N1
open PySem PySem.Spec PyProof.Rows L2 G3
section
variable {X : Cx}
/-- a < b, data of any depth that are alike -/
def rLtDp (K : PySem.W.Frag) : R2 := fun x y H Q => ∃ d e, Dp K H x d ∧ Dp K H y e ∧ PySem.W.alike d e = true ∧ d ≠ .none ∧ d.depth ≤ 60 ∧ Q (.bl (PySem.W.dataLt d e)) H
theorem op_ltDp (hu : X.A.units + 64 < cLine) : OpR X (compareOp .Lt) (rLtDp X.K) := by
  intro pins s σ H x y v u Q I rx ry h
  obtain ⟨d, e, hd, he, al, nn, dep, q⟩ := h
  obtain ⟨as, r1⟩ := Dp.reads I d x v hd rx
  obtain ⟨bs, r2⟩ := Dp.reads I e y u he ry
  exact PySem.W.lt_data r1 r2 al nn (by have := Nat.min_le_left d.depth e.depth; omega) ⟨.bl _, H, I, rfl, q⟩
theorem each_rel : ∀ {bs : List (V × PyData)} {us : List Value}, Vals (bs.map (·.1)) us → PySem.W.EachIs (fun v (b : V × PyData) => RelV b.1 v) us bs
  | [], _, .nil => .nil
  | _ :: _, _, .cons r t => .cons r (each_rel t)
theorem rel_each {us : List Value} {bs : List (V × PyData)} (h : PySem.W.EachIs (fun v (b : V × PyData) => RelV b.1 v) us bs) : Vals (bs.map (·.1)) us := by
  induction h with
  | nil => exact .nil
  | cons r _ ih => exact .cons r ih
theorem each_reads {pins : List (Addr × Obj)} {σ : L2.St} {H : Hp} {s : Shared} (I : Inv X pins σ H s) : ∀ {bs : List (V × PyData)} {us : List Value}, Vals (bs.map (·.1)) us → (∀ b ∈ bs, Dp X.K H b.1 b.2) → PySem.W.EachIs (fun v (b : V × PyData) => ∃ as, Reads s.heap v b.2 as) us bs
  | [], _, .nil, _ => .nil
  | b :: bs, _, .cons r t, h => .cons (Dp.reads I b.2 b.1 _ (h b List.mem_cons_self) r) (each_reads I t fun c hc => h c (List.mem_cons_of_mem _ hc))
/-- sorted(xs), data of any depth that are alike -/
def rSortD (K : PySem.W.Frag) : List V → Hp → VK → Prop := fun vs H Q => ∃ (a : Addr) (bs : List (V × PyData)), vs = [.ref a] ∧ SqL K H a (bs.map (·.1)) ∧ (∀ b ∈ bs, Dp K H b.1 b.2 ∧ b.2.depth ≤ 60) ∧ PySem.W.AllAlike (bs.map (·.2)) ∧ PySem.W.Sortable (bs.map (·.2)) ∧
  ∀ p, H p = none → Q (.ref p) (upd H p (.lst ((bs.mergeSort (PySem.W.dataLe false (·.2))).map (·.1))))
theorem cr_sortedD (hu : X.A.units + 64 < cLine) : CallR X (.builtin "sorted") (rSortD X.K) := by
  intro pins s σ H vs us Q I r h
  obtain ⟨a, bs, rfl, hs, hd, al, so, q⟩ := h
  obtain ⟨its, rv, hl, hz⟩ := I.list hs
  obtain ⟨u, rfl, ru⟩ := vals1 r
  obtain rfl : u = Value.ref a := ru
  rw [List.length_map] at hz
  refine PySem.W.sorted_data (enc := fun b : V × PyData => b.2) hl.isList (each_rel rv) (each_reads I rv fun b hb => (hd b hb).1) al so hz (fun b hb => by have := (hd b hb).2; omega) fun out ho eo => ?_
  obtain ⟨n, hn⟩ := sortedAll_at s.heap its out.toArray
  refine ⟨.ref (s.heap.objs.size + 1), _, I.laid (t' := s.toks) (o := .lst ((bs.mergeSort (PySem.W.dataLe false (·.2))).map (·.1))) (fun b o e => sortedAll_old e) (Nat.le_succ _) ⟨?_, out, n, rel_each eo, hn⟩, rfl, q _ (I.hok.fresh (Nat.le_succ _))⟩
  rw [List.length_map, List.length_mergeSort]
  exact hz
end
end N1

set_option maxHeartbeats 4000000
namespace M0
open PySem PySem.Spec PyProof.Rows L2 G3 G4
/-! what a value reads as, from one heap to another -/
theorem same_tup {K : PySem.W.Frag} {H H' : Hp} {a : Addr} {xs : List V} (e : Same H H') (h : SqT K H a xs) : SqT K H' a xs := by
  rcases h with (h | ⟨o, h⟩) | h
  · exact .inl (.inl (e _ _ h))
  · exact .inl (.inr ⟨o, e _ _ h⟩)
  · exact .inr h
mutual
theorem dp_same {K : PySem.W.Frag} {H H' : Hp} (e : Same H H') : ∀ (d : PyData) (v : V), Dp K H v d → Dp K H' v d
  | .none, _, h => by cases h; exact .non
  | .bool _, _, h => by cases h; exact .bl _
  | .int _, _, h => by cases h; exact .int _
  | .str _, _, h => by cases h; exact .str _
  | .list ds, _, h => by
    cases h with
    | lst hs ha => exact .lst (e.seq hs) (dpAll_same e ds _ ha)
  | .tuple ds, _, h => by
    cases h with
    | tup hs ha => exact .tup (same_tup e hs) (dpAll_same e ds _ ha)
  | .dict _, _, h => by cases h
theorem dpAll_same {K : PySem.W.Frag} {H H' : Hp} (e : Same H H') : ∀ (ds : List PyData) (vs : List V), DpAll K H vs ds → DpAll K H' vs ds
  | [], _, h => by cases h; exact .nil
  | d :: ds, _, h => by
    cases h with
    | cons h1 h2 => exact .cons (dp_same e d _ h1) (dpAll_same e ds _ h2)
end
theorem dpAll_len {K : PySem.W.Frag} {H : Hp} : ∀ {vs : List V} {ds : List PyData}, DpAll K H vs ds → vs.length = ds.length
  | _, _, .nil => rfl
  | _, _, .cons _ t => congrArg (· + 1) (dpAll_len t)
theorem dpAll_get {K : PySem.W.Frag} {H : Hp} : ∀ {vs : List V} {ds : List PyData} {i : Nat} {v : V}, DpAll K H vs ds → vs[i]? = some v → ∃ d, ds[i]? = some d ∧ Dp K H v d
  | _, _, _, _, .nil, e => by simp at e
  | _, _, 0, _, .cons h _, e => by
    simp only [List.getElem?_cons_zero, Option.some.injEq] at e
    subst e
    exact ⟨_, rfl, h⟩
  | _, _, i + 1, _, .cons _ t, e => by
    simp only [List.getElem?_cons_succ] at e
    obtain ⟨d, h1, h2⟩ := dpAll_get t e
    exact ⟨d, h1, h2⟩
theorem dpAll_getD {K : PySem.W.Frag} {H : Hp} : ∀ {vs : List V} {ds : List PyData} {i : Nat} {d : PyData}, DpAll K H vs ds → ds[i]? = some d → ∃ v, vs[i]? = some v ∧ Dp K H v d
  | _, _, _, _, .nil, e => by simp at e
  | _, _, 0, _, .cons h _, e => by
    simp only [List.getElem?_cons_zero, Option.some.injEq] at e
    subst e
    exact ⟨_, rfl, h⟩
  | _, _, i + 1, _, .cons _ t, e => by
    simp only [List.getElem?_cons_succ] at e
    obtain ⟨d, h1, h2⟩ := dpAll_getD t e
    exact ⟨d, h1, h2⟩
theorem dpAll_app {K : PySem.W.Frag} {H : Hp} : ∀ {vs ws : List V} {ds es : List PyData}, DpAll K H vs ds → DpAll K H ws es → DpAll K H (vs ++ ws) (ds ++ es)
  | _, _, _, _, .nil, h => h
  | _, _, _, _, .cons h t, g => .cons h (dpAll_app t g)
theorem dpAll_take {K : PySem.W.Frag} {H : Hp} : ∀ {vs : List V} {ds : List PyData} (n : Nat), DpAll K H vs ds → DpAll K H (vs.take n) (ds.take n)
  | _, _, 0, _ => by simp only [List.take_zero]; exact .nil
  | _, _, _ + 1, .nil => by simp only [List.take_nil]; exact .nil
  | _, _, n + 1, .cons h t => by simp only [List.take_succ_cons]; exact .cons h (dpAll_take n t)
theorem dpAll_drop {K : PySem.W.Frag} {H : Hp} : ∀ {vs : List V} {ds : List PyData} (n : Nat), DpAll K H vs ds → DpAll K H (vs.drop n) (ds.drop n)
  | _, _, 0, h => h
  | _, _, _ + 1, .nil => by simp only [List.drop_nil]; exact .nil
  | _, _, n + 1, .cons _ t => by simp only [List.drop_succ_cons]; exact dpAll_drop n t
theorem dpAll_rev {K : PySem.W.Frag} {H : Hp} : ∀ {vs : List V} {ds : List PyData}, DpAll K H vs ds → DpAll K H vs.reverse ds.reverse
  | _, _, .nil => .nil
  | _, _, .cons h t => by
    rw [List.reverse_cons, List.reverse_cons]
    exact dpAll_app (dpAll_rev t) (.cons h .nil)
theorem dpAll_set {K : PySem.W.Frag} {H : Hp} {v : V} {d : PyData} (hv : Dp K H v d) : ∀ {vs : List V} {ds : List PyData} (n : Nat), DpAll K H vs ds → DpAll K H (vs.set n v) (ds.set n d)
  | _, _, _, .nil => by simp only [List.set_nil]; exact .nil
  | _, _, 0, .cons h t => by simp only [List.set_cons_zero]; exact .cons hv t
  | _, _, n + 1, .cons h t => by simp only [List.set_cons_succ]; exact .cons h (dpAll_set hv n t)
/-! which class a value is of -/
def tyName : PyData → String
  | .none => "NoneType"
  | .bool _ => "bool"
  | .int _ => "int"
  | .str _ => "str"
  | .list _ => "list"
  | .tuple _ => "tuple"
  | .dict _ => "dict"
theorem dp_ty {K : PySem.W.Frag} {H : Hp} {v : V} {d : PyData} (h : Dp K H v d) : TyX K H v (.type (tyName d)) := by
  cases h with
  | non => exact .base .non
  | bl b => exact .base (.bl b)
  | int i => exact .base (.int i)
  | str x => exact .base (.str x)
  | lst hs _ =>
    rcases hs with (h | ⟨o, h⟩) | ⟨o, _, _, h, c, _⟩
    · exact .base (.lst h)
    · exact .base (.frz h)
    · exact .kList h c
  | tup hs _ =>
    rcases hs with (h | ⟨o, h⟩) | ⟨o, _, _, h, c, _⟩
    · exact .base (.tup h)
    · exact .fTuple h
    · exact .kTuple h c
def isInt : PyData → Bool
  | .bool _ => true
  | .int _ => true
  | _ => false
def isBool : PyData → Bool
  | .bool _ => true
  | _ => false
def isTup : PyData → Bool
  | .tuple _ => true
  | _ => false
theorem kit_int (K : PySem.W.Frag) {v : V} {H : Hp} {d : PyData} (h : Dp K H v d) : PySem.W.kitOne K (.type (tyName d)) (.type "int") = some (isInt d) := by
  cases h <;> kernel_rfl
theorem kit_bool (K : PySem.W.Frag) {v : V} {H : Hp} {d : PyData} (h : Dp K H v d) : PySem.W.kitOne K (.type (tyName d)) (.type "bool") = some (isBool d) := by
  cases h <;> kernel_rfl
theorem kit_tup (K : PySem.W.Frag) {v : V} {H : Hp} {d : PyData} (h : Dp K H v d) : PySem.W.kitOne K (.type (tyName d)) (.type "tuple") = some (isTup d) := by
  cases h <;> kernel_rfl
/-! sizes -/
theorem bulk_mem {d : PyData} : ∀ {ds : List PyData}, d ∈ ds → d.bulk ≤ PyData.bulkAll ds
  | _ :: ds, h => by
    simp only [PyData.bulkAll]
    rcases List.mem_cons.mp h with e | h
    · subst e; omega
    · have := bulk_mem h; omega
theorem bulk_len : ∀ ds : List PyData, ds.length ≤ PyData.bulkAll ds
  | [] => Nat.zero_le _
  | d :: ds => by
    have := bulk_len ds
    simp only [PyData.bulkAll, List.length_cons]
    omega
/-! what stands beside the pool -/
def off (p : Addr) (H : Hp) : Hp := fun b => if b = p then none else H b
theorem off_upd {p : Addr} {H : Hp} {o : HO} : off p (upd H p o) = off p H := by
  funext b
  unfold off
  by_cases e : b = p
  · rw [if_pos e, if_pos e]
  · rw [if_neg e, if_neg e, upd_ne e]
theorem off_sub {p : Addr} {H : Hp} : Same (off p H) H := fun b o e => by
  unfold off at e
  by_cases z : b = p
  · rw [if_pos z] at e; cases e
  · rw [if_neg z] at e; exact e
theorem off_ne {p b : Addr} {H : Hp} (z : b ≠ p) : off p H b = H b := if_neg z
theorem off_mono {p : Addr} {H H' : Hp} (e : Same H H') : Same (off p H) (off p H') := fun b o h => by
  by_cases z : b = p
  · unfold off at h; rw [if_pos z] at h; cases h
  · rw [off_ne z] at h ⊢; exact e b o h
theorem off_new {p : Addr} {H : Hp} {o : HO} (h : H p = none) : Same H (off p (upd H p o)) := fun b x e => by
  have z : b ≠ p := ne_of_none e h
  rw [off_ne z, upd_ne z]
  exact e
end M0

set_option maxHeartbeats 4000000
namespace E1
open PySem PySem.W Builtin Builtin.ObjectAttr
section
variable {prog : Program} {w : World} {A : Around} {R : Result → Shared → Prop} {hp : Heap} {g : Array GenState} {d : Drawn} {t : Nat} {os : OsState}
/-- the first field of an own error's object -/
theorem field_first {B : String} {bmB : List Value} {K : Frag} {name : Str} {tk : Tok} {v : Value} {x C : Addr} {fv : Array Value} {cd : ClassData} (SF : StoreFacts B bmB "object.__setattr__" "object")
    (X : K.In hp) (at0 : hp.get? x = some { cls := .ref C, data := .fields fv }) (cl : clsIn K C = some cd) (has : cd.hasDict = true) (ov : excOver K C bmB = true) (tak : takerIn K C name = some none)
    (go : ∀ h' tk' dx, (∀ b o, b ≠ x → hp.get? b = some o → h'.get? b = some o) → hp.objs.size ≤ dx → dx ≠ x → h'.get? x = some { cls := .ref C, dict := some dx, data := .fields fv } →
      h'.Ns1 dx (fun y => if y = name then some v else none) → R (.ok (.ret .none)) ⟨h', g, d, tk', os⟩) :
    codeAny (model prog w) A (.call (.builtin "object.__setattr__") ⟨[.ref x, .str name tk, v], []⟩) R ⟨hp, g, d, t, os⟩ := by
  have I : InstAt hp x { cls := .ref C, data := .fields fv } C none := ⟨at0, rfl, rfl, trivial⟩
  have xs : x ≠ hp.objs.size := Nat.ne_of_lt (Heap.lt_size at0)
  have data : Looks (model prog w) hp (classData C) cd := looks_clsIn X cl
  refine osa_openX (s := ⟨hp, g, d, t, os⟩) SF X I ov tak fun b => ?_
  show wpAny _ _ (storeInOwnDict (.ref x) (.ref C) (.str name tk) name v b) _ _ _
  obtain ⟨nm, bs, mro, ns, qn, hd, sn, sb, ab, col, del⟩ := cd
  dsimp only at has
  subst has
  unfold storeInOwnDict ownDictForStores
  repeat (first | with_reducible refine HandSPX.store_in_new ?_ ?_ | with_reducible refine wpAny_loadPart_at at0 ?_ | with_reducible refine data.at ?_ | wp_step)
  · exact ⟨_, #[], _, (Heap.get?_update_ne _ _ _ _ xs.symm).trans (Heap.get?_push_at rfl rfl), rfl, fun e he => absurd he (by simp), fun _ => rfl⟩
  · intro h' tk' isNs but
    have at1 : (hp.push { cls := .type "dict", data := .dict #[] }).get? x = some { cls := .ref C, data := .fields fv } := Heap.get?_push_of_some _ at0
    refine go h' tk' hp.objs.size (fun b o nb ob => ?_) (Nat.le_refl _) xs.symm ?_ isNs
    · exact (but.2 b (Nat.ne_of_lt (Heap.lt_size ob))).trans ((Heap.get?_update_ne _ _ _ _ nb).trans (Heap.get?_push_of_some _ ob))
    · exact (but.2 x xs).trans (Heap.get?_update_self _ at1 rfl)
/-- a further one -/
theorem field_more {B : String} {bmB : List Value} {K : Frag} {name : Str} {tk : Tok} {v : Value} {x C dx : Addr} {fv : Array Value} {cd : ClassData} {m0 : Str → Option Value} {nl : List Str} (SF : StoreFacts B bmB "object.__setattr__" "object")
    (X : K.In hp) (at0 : hp.get? x = some { cls := .ref C, dict := some dx, data := .fields fv }) (nsD : hp.Ns1 dx m0) (wi : Within m0 nl) (few : nl.length ≤ 1000) (cl : clsIn K C = some cd) (has : cd.hasDict = true) (ov : excOver K C bmB = true) (tak : takerIn K C name = some none)
    (go : ∀ h' tk', (∀ b o, b ≠ dx → hp.get? b = some o → h'.get? b = some o) → h'.Ns1 dx (fun y => if y = name then some v else m0 y) → R (.ok (.ret .none)) ⟨h', g, d, tk', os⟩) :
    codeAny (model prog w) A (.call (.builtin "object.__setattr__") ⟨[.ref x, .str name tk, v], []⟩) R ⟨hp, g, d, t, os⟩ := by
  obtain ⟨oD, esD, epD, hoD, hdD, _⟩ := nsD.count wi
  have I : InstAt hp x { cls := .ref C, dict := some dx, data := .fields fv } C (some oD) := ⟨at0, rfl, rfl, hoD⟩
  have data : Looks (model prog w) hp (classData C) cd := looks_clsIn X cl
  refine osa_openX (s := ⟨hp, g, d, t, os⟩) SF X I ov tak fun b => ?_
  show wpAny _ _ (storeInOwnDict (.ref x) (.ref C) (.str name tk) name v b) _ _ _
  obtain ⟨nm, bs, mro, ns, qn, hd, sn, sb, ab, col, del⟩ := cd
  dsimp only at has
  subst has
  unfold storeInOwnDict ownDictForStores
  repeat (first | with_reducible refine OEX.store_in_old nsD wi few ?_ | with_reducible refine wpAny_loadPart_at at0 ?_ | with_reducible refine data.at ?_ | wp_step)
  intro h' tk' isNs but
  exact go h' tk' (fun b o nb ob => (but.2 b nb).trans ob) isNs
end
end E1

set_option maxHeartbeats 4000000
namespace E2
open PySem PySem.Spec PyProof.Rows L2
/-- what is needed of a built-in __init__ -/
structure InitF (cls initId : String) : Prop where
  kind : builtinKind initId = some .slot
  row : Manifest.signature? initId = some ⟨.positional, "*", cls, .self, [⟨"args", .varPos, false⟩]⟩
  star : (cls != "*") = true
  plain : plainId initId = true
  entry : entryFor table initId = some Builtin.«BaseException.__init__»
theorem InitF.of {cls newId initId : String} (F : ExcCallFacts cls newId initId) : InitF cls initId := ⟨F.initKind, F.initRow, F.noStar, F.init.plain, F.initEntry⟩
/-- the built-in class that own error classes stand under: B gives __new__, Bs is the class itself, bmB its order -/
structure Under (B newId initId Bs : String) (bmB : List Value) : Prop where
  eb : ∃ i bmE, ExcBaseFacts B newId i bmE
  inf : InitF Bs initId
  kx : PySem.W.KxsFacts Bs initId
  sf : StoreFacts Bs bmB "object.__setattr__" "object"
  hasB : bmB.contains (.type B) = true
  noA : bmB.contains (.type "AttributeError") = false
  noN : bmB.contains (.type "NameError") = false
/-- what the written part says of an own error class at C, its __init__ at fI -/
structure ExC (K : PySem.W.Frag) (C fI : Addr) (B newId initId Bs : String) (bmB : List Value) : Prop where
  un : Under B newId initId Bs bmB
  made : PySem.W.excInitIn K C bmB newId = true
  ov : PySem.W.excOver K C bmB = true
  cls : ∃ cd, PySem.W.clsIn K C = some cd ∧ cd.hasDict = true
  sa : PySem.W.findIn K (.ref C) "__setattr__" = some (some (.builtin "object.__setattr__"))
  ini : PySem.W.findIn K (.ref C) "__init__" = some (some (.ref fI))
  isF : PySem.W.isFn K (.ref fI) = true
  sup : PySem.W.ks_superIn K C C "__init__" = some (some (.builtin initId))
  sub : PySem.W.subIn K (.ref C) (.type Bs) = some true
  self : PySem.W.subIn K (.ref C) (.ref C) = some true
  op : PySem.W.nsIn K cStatics "thirdparty.any" = some none
  exC : PySem.W.subIn K (.ref C) (.type "BaseException") = some true
  tyC : PySem.W.typeIn K (.ref C) = some (.type "type")
  kC : PySem.W.keepIn K (.ref C) = true
section
variable {X : Cx} {pins : List (Addr × Obj)} {σ : L2.St} {H : Hp} {s : Shared} {a C dx : Addr} {f : Str} {y : V} {u : Value} {fs : List (Str × V)} {Q : Unit → Shared → Prop} {E : Value → Shared → Prop} {A : Around} {fI : Addr} {B newId initId Bs : String} {bmB : List Value}
theorem ext_ne {φ : Heap → Prop} {o : HO} (h : ∀ ψ, o ≠ .ext ψ) : HO.ext φ ≠ o := fun z => h φ z.symm
/-- the object gets its dict -/
theorem inv_first {hp h' : Heap} {g : Array GenState} {dr : Drawn} {t tk' : Nat} {os : OsState} {t1 : Addr} {mA : Str → Option Value} (I : Inv X pins σ H ⟨hp, g, dr, t, os⟩) (e : H a = some (exo a C none))
    (k : ∀ b o, b ≠ a → hp.get? b = some o → h'.get? b = some o) (dn : hp.objs.size ≤ dx) (dne : dx ≠ a) (hx : h'.get? a = some ({ cls := .ref C, dict := some dx, data := .fields #[.ref t1, .none, .none, .none, .bool false, .none] } : Obj))
    (hn : h'.Ns1 dx mA) (rel : ∀ f, RelO (fs.lookup f) (mA f)) : H dx = none ∧ Inv X pins σ (upd (upd H dx (exd dx fs)) a (exo a C (some dx))) ⟨h', g, dr, tk', os⟩ := by
  have new : H dx = none := I.hok.fresh dn
  have offD : ∀ {b : Addr} {o : Obj}, hp.get? b = some o → b ≠ dx := fun {b o} q => Nat.ne_of_lt (Nat.lt_of_lt_of_le (Heap.lt_size q) dn)
  have offA : ∀ {b : Addr}, H b = none → b ≠ a := fun {b} n z => by
    rw [z, e] at n
    cases n
  have keepU : ∀ {b : Addr} {o : HO}, H b = some o → (∀ ψ, o ≠ .ext ψ) → upd (upd H dx (exd dx fs)) a (exo a C (some dx)) b = some o := fun {b o} q ne => by
    have ba : b ≠ a := at_ne e q (ext_ne ne)
    rw [upd_ne ba, upd_ne (ne_of_none q new)]
    exact q
  have U : Un X.fs [] H (upd (upd H dx (exd dx fs)) a (exo a C (some dx))) hp h' :=
    { keep := fun b o q n _ _ => k b o (offA n) q
      slot := fun b o q n _ _ => ⟨o.slots, k b o (offA n) q⟩
      free := fun b o q n _ => by
        rw [upd_ne (offA n), upd_ne (offD q)]
        exact n
      there := fun b o q _ => by
        by_cases ba : b = a
        · rw [ba]
          exact ⟨_, hx⟩
        · exact ⟨o, k b o ba q⟩
      tups := fun b xs q => keepU q fun ψ z => by cases z
      frzs := fun b o v q => keepU q fun ψ z => by cases z
      tbls := fun b ps q => ⟨#[], by rw [keepU q fun ψ z => by cases z]; simp⟩ }
  refine ⟨new, I.un (t' := tk') U fun b o q => ?_⟩
  by_cases ba : b = a
  · subst ba
    rw [upd_same] at q
    cases q
    exact exo_ok hx
  · rw [upd_ne ba] at q
    by_cases bd : b = dx
    · subst bd
      rw [upd_same] at q
      cases q
      exact exd_ok hn rel
    · rw [upd_ne bd] at q
      refine (I.hok b o q).stay (fun c v hc z => k c v ?_ z) (fun c hc => keepU hc fun ψ z => by cases z) (fun c xs hc => keepU hc fun ψ z => by cases z)
      rcases hc with hc | hc
      · rw [hc]
        exact ba
      · exact at_ne e hc exo_own
/-- self.f = y, the first -/
theorem keep_first (T : ExC X.K C fI B newId initId Bs bmB) (I : Inv X pins σ H s) (e : H a = some (exo a C none)) (tak : PySem.W.takerIn X.K C f = some none) (ry : RelV y u)
    (go : ∀ dx s', H dx = none → dx ≠ a → Inv X pins σ (upd (upd H dx (exd dx [(f, y)])) a (exo a C (some dx))) s' → Q () s') : wpAny (model X.prog X.w) A (setAttr (.ref a) f u) Q E s := by
  obtain ⟨cd, cl, has⟩ := T.cls
  obtain ⟨t1, at0⟩ := exo_at I.hok e
  obtain ⟨hp, g, dr, t, os⟩ := s
  refine PySem.W.set_plain I.kIn (ox := { cls := .ref C, dict := none, data := .fields #[.ref t1, .none, .none, .none, .bool false, .none] }) (od := none) ⟨at0, rfl, rfl, trivial⟩ T.sa ?_
  refine E1.field_first T.un.sf I.kIn at0 cl has T.ov tak fun h' tk' dx k dn dne hx hn => ?_
  have J := inv_first (tk' := tk') (fs := [(f, y)]) I e k dn dne hx hn (relO_put (fs := []) ry fun _ => True.intro)
  exact go dx _ J.1 dne J.2
/-- self.f = y, a further one -/
theorem keep_more (T : ExC X.K C fI B newId initId Bs bmB) (I : Inv X pins σ H s) (e : H a = some (exo a C (some dx))) (ed : H dx = some (exd dx fs)) (few : fs.length ≤ 900) (tak : PySem.W.takerIn X.K C f = some none) (ry : RelV y u)
    (go : ∀ s', Inv X pins σ (upd H dx (exd dx ((f, y) :: fs))) s' → Q () s') : wpAny (model X.prog X.w) A (setAttr (.ref a) f u) Q E s := by
  obtain ⟨cd, cl, has⟩ := T.cls
  obtain ⟨t1, at0⟩ := exo_at I.hok e
  obtain ⟨mA, nsD, rel⟩ := exd_at I.hok ed
  have wi := within_of rel
  obtain ⟨hp, g, dr, t, os⟩ := s
  obtain ⟨oD, _, _, hoD, _, _⟩ := nsD.count wi
  refine PySem.W.set_plain I.kIn (ox := { cls := .ref C, dict := some dx, data := .fields #[.ref t1, .none, .none, .none, .bool false, .none] }) (od := some oD) ⟨at0, rfl, rfl, hoD⟩ T.sa ?_
  refine E1.field_more T.un.sf I.kIn at0 nsD wi (by rw [List.length_map]; omega) cl has T.ov tak fun h' tk' k hn => ?_
  have there : ∃ o, h'.get? dx = some o := by
    obtain ⟨o, _, _, e', _⟩ := hn
    exact ⟨o, e'⟩
  exact go _ (I.write (t' := tk') (x := dx) (e := dx) (o := exd dx ((f, y) :: fs)) (by rw [ed]; exact True.intro) (.inl rfl) k there (exd_ok hn (relO_put ry rel)))
end
/-- self.f = e in an own error's __init__ -/
def tKeep (K : PySem.W.Frag) (f : Str) (to te : TE) : TS := fun D σ H => te σ H fun y H1 => to σ H1 fun x H2 => ∃ (a C fI : Addr) (B newId initId Bs : String) (bmB : List Value), x = .ref a ∧ ExC K C fI B newId initId Bs bmB ∧ PySem.W.takerIn K C f = some none ∧
  ((H2 a = some (exo a C none) ∧ ∀ dx, H2 dx = none → dx ≠ a → D.nx σ (upd (upd H2 dx (exd dx [(f, y)])) a (exo a C (some dx)))) ∨
    ∃ (dx : Addr) (fs : List (Str × V)), H2 a = some (exo a C (some dx)) ∧ H2 dx = some (exd dx fs) ∧ fs.length ≤ 900 ∧ D.nx σ (upd H2 dx (exd dx ((f, y) :: fs))))
theorem ps_keep {X : Cx} {o e : Expr} {to te : TE} {f : Str} {p' pos : Pos} (ho : PE X o to) (he : PE X e te) (hs : swapsWith e (some (.Attribute o f p')) pos.line X.env = pure false := by rfl) : PS X (.Assign [.Attribute o f p'] e pos) (tKeep X.K f to te) := by
  refine ⟨fun pins s σ H D I hyp => plainObj_wpAny_Assign_Attribute (thn (he.run pins s σ H _ I hyp) fun v s1 ⟨y, H1, I1, r1, q1⟩ => thn (ho.run pins s1 σ H1 _ I1 q1) fun u s2 ⟨x, H2, I2, r2, a, C, fI, B, n, i, b2, bm, ex, T, tak, q⟩ => ?_) hs⟩
  subst ex
  obtain rfl : u = Value.ref a := r2
  rcases q with ⟨ea, q⟩ | ⟨dx, fs, ea, ed, few, q⟩
  · exact keep_first T I2 ea tak r1 fun dx s' n ne J => ⟨σ, _, J, q dx n ne⟩
  · exact keep_more T I2 ea ed few tak r1 fun s' J => ⟨σ, _, J, q⟩
end E2

set_option maxHeartbeats 4000000
namespace E3
open PySem PySem.Spec PyProof.Rows L2 E2
/-- a def within a class that says super(): it keeps the class -/
abbrev fnCl (nm ql : Str) (pr : Arguments) (bd : List Stmt) (sc : Scope) (kV doc pm : Value) (an : Option Addr) (cdv ct : Value) (cl : Addr) : FuncData := { PySem.W.fnOf nm ql pr bd sc .none kV doc pm an cdv ct with closure := [("__class__", cl)] }
structure InitFn (P : Program) (K : PySem.W.Frag) (C f : Addr) (ql : Str) (pr : Arguments) (bd : List Stmt) (sc : Scope) (fd : FuncData) : Prop where
  ex : ∃ (oc kV doc pm cdv ct : Value) (od an : Option Addr) (osl : Array (Option Value)) (cl cc : Addr) (ocl occ : Obj) (vs : Array Value) (file : Str) (tf : Tok),
    fd = fnCl "__init__" ql pr bd sc kV doc pm an cdv ct cl ∧ K.lookup f = some ⟨oc, od, .func fd, osl⟩ ∧ PySem.W.codeIn K cdv ql = true ∧ K.lookup cl = some ocl ∧ ocl.data = .cell (some (.ref C)) ∧
    cdv = .ref cc ∧ K.lookup cc = some occ ∧ occ.data = .fields vs ∧ vs[2]? = some (.str file tf) ∧ ((P.main.file : Str) == file) = true
  top : (P.main.scope.names.lookup ("super" : Str)).isSome = false
/-- its names -/
structure InitScope (N ps : List Str) (sc : Scope) : Prop where
  kind : sc.kind = .function
  co : sc.isCoroutine = false
  gen : sc.isGenerator = false
  nd : N.Nodup
  is : N = ps
  par : ∀ x ∈ ps, sc.names.lookup x = some .local
  nocell : ∀ y ∈ sc.names, y.2 ≠ .cell
  only : ∀ y ∈ sc.names, y.2 = .free → y.1 = Str.ofString "__class__"
  cls : sc.names.lookup (Str.ofString "__class__") = some .free
  sup : sc.names.lookup (Str.ofString "super") = some .globalImplicit
def cxI (P : Program) (w : World) (K : PySem.W.Frag) (mg : Str → Option Value) (base : Heap) (N : List Str) (fd : FuncData) (f : Addr) (A : Around) (outer : List Env) (s : Shared) (H : Hp) : Cx where
  prog := P
  w := w
  K := K
  mg := mg
  base := base
  A := A.deeper (callEnv fd s.heap.objs.size f)
  N := N
  s_0 := s
  H_0 := H
  env := callEnv fd s.heap.objs.size f
  outer := outer
  stack := callEnv fd s.heap.objs.size f :: outer
  ex := []
  calm := true
  fn := fun _ => false
  pn := []
  xe := fun _ _ => False
theorem zip_look : ∀ {ps : List Str} {us : List Value} {i : Nat} {x : Str} {u : Value}, ps.Nodup → ps[i]? = some x → us[i]? = some u → (ps.zip us).reverse.lookup x = some u := by
  intro ps us i x u nd hp hu
  have mem : (x, u) ∈ (ps.zip us).reverse := by
    rw [List.mem_reverse]
    refine List.mem_of_getElem? (i := i) ?_
    rw [List.getElem?_zip_eq_some]
    exact ⟨hp, hu⟩
  have uni : ∀ (l : List (Str × Value)), (∀ v, (x, v) ∈ l → v = u) → (x, u) ∈ l → l.lookup x = some u := by
    intro l
    induction l with
    | nil => intro _ h; cases h
    | cons p l ih =>
      intro h m
      obtain ⟨y, v⟩ := p
      by_cases e : x = y
      · subst e
        rw [List.lookup_cons, beq_self_eq_true]
        exact congrArg some (h v List.mem_cons_self)
      · have e2 : (x == y) = false := by simpa using e
        rw [List.lookup_cons, e2]
        refine ih (fun v' hv => h v' (List.mem_cons_of_mem _ hv)) ?_
        rcases List.mem_cons.mp m with q | q
        · exact absurd (Prod.mk.inj q).1 e
        · exact q
  refine uni _ (fun v hv => ?_) mem
  rw [List.mem_reverse] at hv
  obtain ⟨j, hj⟩ := List.getElem?_of_mem hv
  rw [List.getElem?_zip_eq_some] at hj
  have ej : j = i := (List.getElem?_inj (List.getElem?_eq_some_iff.mp hj.1).1 nd).mp (hj.1.trans hp.symm)
  rw [ej, hu] at hj
  exact (Option.some.inj hj.2).symm
section
variable {P : Program} {w : World} {K : PySem.W.Frag} {mg : Str → Option Value} {base : Heap} {C f : Addr} {ql : Str} {pr : Arguments} {bd : List Stmt} {sc : Scope} {N ps : List Str} {A : Around} {outer : List Env} {s : Shared} {H : Hp} {us : List Value} {vs : List V} {kV doc pm cdv ct : Value} {an : Option Addr} {cl : Addr} {h0 : Heap}
theorem start_init {ocl : Obj} (S : InitScope N ps sc) (hd : A.handled = none) (e0 : Env0 P w K mg base A outer s H) (hl : vs.length = ps.length) (r : Vals vs us) (lcl : K.lookup cl = some ocl) (dcl : ocl.data = .cell (some (.ref C)))
    (ns : h0.Ns s.heap.objs.size (fun x => (ps.zip us).reverse.lookup x)) (kp : ∀ b o, s.heap.get? b = some o → h0.get? b = some o) {t : Nat} :
    Inv (cxI P w K mg base N (fnCl "__init__" ql pr bd sc kV doc pm an cdv ct cl) f A outer s H) [] (start N vs) H { s with heap := h0, toks := t } := by
  have hNp := S.is
  subst hNp
  have inB : base.get? cl = some ocl := e0.mod.kin cl ocl lcl
  have inS := e0.bs cl ocl inB
  have oneC : ∀ {x : Str} {c : Addr}, (callEnv (fnCl "__init__" ql pr bd sc kV doc pm an cdv ct cl) s.heap.objs.size f).cells.lookup x = some c → x = "__class__" ∧ c = cl := by
    intro x c h
    have h : ([(Str.ofString "__class__", cl)] : List (Str × Addr)).lookup x = some c := h
    by_cases e : x = "__class__"
    · subst e
      rw [List.lookup_cons, beq_self_eq_true] at h
      exact ⟨rfl, (Option.some.inj h).symm⟩
    · have e2 : (x == (Str.ofString "__class__")) = false := by simpa using e
      rw [List.lookup_cons, e2] at h
      cases h
  refine ⟨⟨e0.mod, S.kind, rfl, rfl, Nat.le_refl _, fun x y c h1 h2 => (oneC h1).1.trans (oneC h2).1.symm, fun x hx => ?_, fun x c h _ => ?_, fun _ => hd, Around.frames_deeper e0.frames, .inr ⟨rfl, rfl⟩, fun b z => G2.not_in_nil z, e0.bs, e0.bsz, fun b _ _ z => G2.not_in_nil z, fun b z => G2.not_in_nil z, e0.funs, e0.frf⟩,
    rfl, e0.bare, Un.kept kp, ⟨_, ns, fun i x v h1 h2 _ => ?_⟩, fun x c h => ?_, e0.hok.fresh (Nat.le_refl _), fun x c h => ?_, fun p z => G2.not_in_nil z, e0.hok.kept kp, ?_⟩
  · have hx : sc.names.lookup x = some .cell ∨ sc.names.lookup x = some .free := hx
    rcases hx with q | q
    · exact absurd rfl (S.nocell _ (PySem.mem_of_lookup q))
    · have e := S.only _ (PySem.mem_of_lookup q) rfl
      dsimp only at e
      subst e
      exact ⟨cl, rfl⟩
  · exact absurd h Bool.false_ne_true
  · have hi : i < vs.length := by
      by_cases q : i < vs.length
      · exact q
      · unfold L2.start at h2
        rw [List.getElem?_append_right (by simpa using q), List.getElem?_replicate] at h2
        split at h2 <;> cases h2
    have hv : vs[i]? = some v := by
      unfold L2.start at h2
      rw [List.getElem?_append_left (by simpa using hi), List.getElem?_map] at h2
      cases e : vs[i]? with
      | none => rw [e] at h2; cases h2
      | some z => rw [e] at h2; cases h2; rfl
    obtain ⟨u, hu, rv⟩ := r.get hv
    exact ⟨u, rv, .inl ⟨S.par x (List.mem_of_getElem? h1), zip_look S.nd h1 hu⟩⟩
  · obtain ⟨_, rfl⟩ := oneC h
    exact ⟨_, ocl, kp _ _ inS.1, dcl⟩
  · obtain ⟨_, rfl⟩ := oneC h
    exact inS.2
  · unfold L2.start
    show _ = N.length
    rw [List.length_append, List.length_map, List.length_replicate]
    omega
end
end E3

set_option maxHeartbeats 4000000
namespace E4
open PySem PySem.Spec PyProof.Rows L2 E2 E3
/-- a built-in __init__ bound to an own error may be called with anything by place -/
theorem bound_init {Mo : Model} {Ar : Around} {X : Value → Shared → Prop} {st : Shared} {top newId initId : String} (F : InitF top initId) {nm qn : Str} {C N x : Addr} {ox : Obj} {bases tail : List Value} {hasD : Bool} {sn : List Str} {subs : List Value} {abs : Bool} {col : Option Bool} {dd : Option Addr}
    {j0 j1 j2 j3 j5 : Option Value} {more : List Value} {R : Unit → Shared → Prop} (atC : st.heap.get? C = some (excClassObj nm qn C N bases tail hasD sn subs abs col dd j0 j1 j2 j3 j5 newId)) (atX : st.heap.get? x = some ox) (of : ox.cls = .ref C) (fin : R () st) :
    wpAny Mo Ar (checkBoundCall initId ⟨.ref x :: more, []⟩) R X st := by
  obtain ⟨hp, gs, dr, tk, os⟩ := st
  have ns := F.star
  have free : ∀ (u v : String) (m : Nat), Bind.check ⟨.positional, "*", top, .self, [⟨"args", .varPos, false⟩]⟩ u v m [] = pure () := fun u v m => check_star_args _ _ _ _ _ _
  simp only [checkBoundCall, F.kind, F.row]
  repeat
    first
    | (with_reducible refine wpAny_loadPart_at atX ?_
       rw [of])
    | with_reducible refine wpAny_loadPart_at atC ?_
    | wp_step
  refine wpAny_onRaise ?_
  simp only [List.map_nil]
  rw [free]
  exact wpAny_pure fin
/-- the built-in __init__, bound to the object, is called -/
theorem call_bound {prog : Program} {w : World} {A : Around} {E : Value → Shared → Prop} {h : Heap} {g : Array GenState} {d : Drawn} {t : Nat} {os : OsState} {K : PySem.W.Frag} {C x u t0 : Addr} {B newId i : String} {bmB : List Value} {rest : List Value} {Q : Value → Shared → Prop}
    (X : K.In h) (FB : InitF B i) (made : PySem.W.excInitIn K C bmB newId = true) (at1 : h.get? x = some ({ cls := .ref C, dict := none, data := .fields #[.ref t0, .none, .none, .none, .bool false, .none] } : Obj)) (atU : h.get? u = some (PySem.W.kxs_mw i x)) (few : rest.length ≤ sizeLine)
    (go : ∀ h' t1, (∀ b o, b ≠ x → h.get? b = some o → h'.get? b = some o) → h'.get? x = some ({ cls := .ref C, dict := none, data := .fields #[.ref t1, .none, .none, .none, .bool false, .none] } : Obj) → Q .none ⟨h', g, d, t, os⟩) :
    wpAny (model prog w) A (call (.ref u) rest) Q E ⟨h, g, d, t, os⟩ := by
  obtain ⟨nm, N', qn, bs, bm, hdct, sn, sub, ab, col, dd, k0, k1, k2, k3, k5, hC, hT⟩ := PySem.W.excInit_of X made
  refine wpAny_call (codeAny_of_tree ?_)
  show wpAny _ A.in1 (callAny (.ref u) ⟨rest, []⟩) _ _ _
  simp only [callAny]
  refine wpAny_bind (wpAny_load atU ?_)
  have isW : (Value.type "method-wrapper" == Value.type "method" || Value.type "method-wrapper" == Value.type "builtin_function_or_method" || Value.type "method-wrapper" == Value.type "method-wrapper") = true := by decide
  simp only [PySem.W.kxs_mw, isW, if_true]
  refine PySem.W.KFB.if_so (by decide) ?_
  refine wpAny_bind (bound_init FB hC at1 rfl ?_)
  refine wpAny_bind (wpAny_pure (wpAny_pure ?_))
  refine ⟨plainId_quiet FB.plain _, codeAny_builtin FB.entry ?_⟩
  exact PySem.W.exc_init_tree (cls := .ref C) (t0 := t0) (dv := none) (c2 := .none) (c3 := .none) (b4 := .bool false) at1 few fun h' k e _ => go h' _ k e
/-- super().__init__('..'), self in the first place -/
abbrev supE (p0 p1 p2 p3 p4 : Pos) (z : Str) (k : Nat) : Expr := .Call (.Attribute (.Call (.Name "super" p0) [] [] p1) "__init__" p2) [.Constant (.str z) k p3] [] p4
section
variable {P : Program} {w : World} {K : PySem.W.Frag} {mg : Str → Option Value} {base : Heap} {C f : Addr} {ql : Str} {pr : Arguments} {bd : List Stmt} {sc : Scope} {ps : List Str} {A : Around} {outer : List Env} {s s1 : Shared} {H : Hp} {σ : L2.St} {cdv : Value}
variable {B newId initId Bs : String} {bmB : List Value} {fI : Addr}
theorem run_super {fd : FuncData} {pl : Sem Bool} {ar : Arg} {a : Addr} {p0 p1 p2 p3 p4 : Pos} {z : Str} {kk : Nat} {Q : Value → Shared → Prop} {E : Value → Shared → Prop} {body : List Stmt} (T : ExC K C f B newId initId Bs bmB) (F : InitFn P K C f ql pr bd sc fd) (S : InitScope ps ps sc)
    (hp : (pr.posonlyargs ++ pr.args).head? = some ar) (p0s : ps[0]? = some ar.arg) (ms : mg "super" = none) (I : Inv (cxI P w K mg base ps fd f A outer s H) [] σ H s1) (sl : σ[0]? = some (some (.ref a))) (ea : H a = some (exo a C none))
    (he : eval (supE p0 p1 p2 p3 p4 z kk) (callEnv fd s.heap.objs.size f) = (do
      let ov ← attributeBase (.Call (.Name "super" p0) [] [] p1) "__init__" (callEnv fd s.heap.objs.size f) (eval (.Call (.Name "super" p0) [] [] p1) (callEnv fd s.heap.objs.size f))
      standAt p2.atName
      let (m, first) ← holding [ov] (getMethod ov "__init__" pl)
      callWith p4 m first (backTo p4 (starEach [.Constant (.str z) kk p3] (callEnv fd s.heap.objs.size f))) []))
    (go : ∀ s2, Inv (cxI P w K mg base ps fd f A outer s H) [] σ H s2 → Q .none s2) :
    PySem.wpAt (model P w) (A.deeper (callEnv fd s.heap.objs.size f)) (.func body (callEnv fd s.heap.objs.size f)) (eval (supE p0 p1 p2 p3 p4 z kk) (callEnv fd s.heap.objs.size f)) Q E s1 := by
  obtain ⟨oc, kV, doc, pm, cdv, ct, od, an, osl, cl, cc, ocl, occ, vs, file, tf, rfl, lf, cod, lcl, dcl, rfl, lcc, dcc, vfile, isf⟩ := F.ex
  have KX := I.kIn
  obtain ⟨cd, hcl, hasD⟩ := T.cls
  have env0 : callEnv (fnCl "__init__" ql pr bd sc kV doc pm an (.ref cc) ct cl) s.heap.objs.size f = (cxI P w K mg base ps (fnCl "__init__" ql pr bd sc kV doc pm an (.ref cc) ct cl) f A outer s H).env := rfl
  obtain ⟨nm, N', qn, bs, bm, hdct, sn, sub, ab, col, dd, k0, k1, k2, k3, k5, hC, hT⟩ := PySem.W.excInit_of KX T.made
  obtain ⟨t0, atA⟩ := exo_at I.hok ea
  obtain ⟨m, hn, hv⟩ := I.loc
  obtain ⟨u, ru, look⟩ := hv 0 ar.arg (.ref a) p0s sl (.inl (S.par _ (List.mem_of_getElem? p0s)))
  obtain rfl : u = Value.ref a := ru
  have mself : m ar.arg = some (.ref a) := by
    rcases look with ⟨_, q⟩ | ⟨q, _⟩
    · exact q
    · have loc : sc.names.lookup ar.arg = some .local := S.par _ (List.mem_of_getElem? p0s)
      have q : sc.names.lookup ar.arg = some .cell ∨ sc.names.lookup ar.arg = some .free := q
      rw [loc] at q
      rcases q with q | q <;> cases q
  obtain ⟨mb, b1, b2⟩ := I.mod.blt
  refine PySem.ks_wpAt_MethodCall (PySem.ks_wpAt_super_base (f := f) (ar := ar) S.sup S.cls (by decide) rfl (KX _ _ lf) rfl hp rfl (KX _ _ lcc) dcc vfile isf F.top ?_) he
  rw [show loadName (callEnv (fnCl "__init__" ql pr bd sc kV doc pm an (.ref cc) ct cl) s.heap.objs.size f) "super" = loadGlobal (callEnv (fnCl "__init__" ql pr bd sc kV doc pm an (.ref cc) ct cl) s.heap.objs.size f) "super" from loadName_read S.kind S.sup]
  refine Calls.loadGlobal_builtin (mg := mg) (mb := mb) (show s1.heap.Ns mainGlobals mg from I.mod.glob.keeps I.bk) ms (show s1.heap.Ns builtinsNs mb from b1.keeps I.bk) ((b2 _ (by decide)).trans (show bootBuiltins "super" = some (.type "super") by decide +kernel)) ⟨rfl, ?_⟩
  refine wpAny_loadName_free S.kind S.cls (c := cl) rfl ⟨ocl, KX _ _ lcl, dcl⟩ ?_
  refine wpAny_loadName_local S.kind (S.par _ (List.mem_of_getElem? p0s)) hn mself ?_
  obtain ⟨hp1, g, dr, t, os⟩ := s1
  refine PySem.ks_wpAny_isType_cls hC rfl ⟨rfl, ?_⟩
  refine PySem.ks_wpAny_call_super hC rfl atA rfl (fun c z => by cases z) (PySem.W.looks_subIn KX T.self) fun h2 atS kS => ?_
  have K2 := KX.keeps kS
  have atA2 := kS _ _ atA
  have Ia : PySem.W.InstAt h2 a ({ cls := .ref C, dict := none, data := .fields #[.ref t0, .none, .none, .none, .bool false, .none] } : Obj) C none := ⟨atA2, rfl, rfl, trivial⟩
  have sup := T.sup
  unfold PySem.W.ks_superIn at sup
  rw [hcl] at sup
  refine PySem.W.kxs_getMethod T.un.kx atS (PySem.W.looks_opaque K2 T.op) (l₀ := cd.mro) (fun A Q E s k q => wpAny_bind ((PySem.W.looks_clsIn K2 hcl) A _ E s k (wpAny_pure q))) rfl K2 sup (Ia.type.andThen (PySem.W.looks_subIn K2 T.sub)) (PySem.W.ks_ne K2 Ia hcl) (by decide) ?_
  have k3' : ∀ b o, hp1.get? b = some o → (h2.push (PySem.W.kxs_mw initId a)).get? b = some o := fun b o e => Heap.get?_push_of_some _ (kS b o e)
  refine PySem.W.kxs_callWith (i := initId) (x := a) rfl (Calls.evalArgs_plain ?_)
  refine Calls.spliced_cons (Calls.Constant_str (k := kk) (pos := p3) ?_)
  refine Calls.spliced_nil ⟨?_, ?_⟩
  · exact Heap.get?_push_at rfl rfl
  · refine call_bound (KX.keeps k3') T.un.inf T.made (k3' _ _ atA) (Heap.get?_push_at rfl rfl) (by show 1 ≤ sizeLine; decide) fun h4 t1 k4 at4 => ?_
    refine go _ ?_
    have J := (I.kept (h' := h2.push (PySem.W.kxs_mw initId a)) (t' := 0) k3').write (t' := t + 1 + 1) (x := a) (e := a) (o := exo a C none) (by rw [ea]; exact True.intro) (.inl rfl) k4 ⟨_, at4⟩ (exo_ok at4)
    have eu : upd H a (exo a C none) = H := by
      funext b
      by_cases hb : b = a
      · rw [hb, upd_same, ea]
      · rw [upd_ne hb]
    rw [eu] at J
    exact J
end
end E4

set_option maxHeartbeats 4000000
namespace E5
open PySem PySem.Spec PyProof.Rows L2 E2 E3 E4
section
variable {P : Program} {w : World} {K : PySem.W.Frag} {mg : Str → Option Value} {base : Heap} {C f : Addr} {ql : Str} {pr : Arguments} {rest : List Stmt} {sc : Scope} {ps : List Str} {B newId initId Bs : String} {bmB : List Value} {p0 p1 p2 p3 p4 p5 : Pos} {z : Str} {kk : Nat}
/-- what is asked of the text of super().__init__('..') -/
structure SupOk (fd : FuncData) (f : Addr) (p0 p1 p2 p3 p4 p5 : Pos) (z : Str) (kk : Nat) : Prop where
  he : ∀ L : Addr, ∃ pl : Sem Bool, eval (supE p0 p1 p2 p3 p4 z kk) (callEnv fd L f) = (do
      let ov ← attributeBase (.Call (.Name "super" p0) [] [] p1) "__init__" (callEnv fd L f) (eval (.Call (.Name "super" p0) [] [] p1) (callEnv fd L f))
      standAt p2.atName
      let (m, first) ← holding [ov] (getMethod ov "__init__" pl)
      callWith p4 m first (backTo p4 (starEach [.Constant (.str z) kk p3] (callEnv fd L f))) [])
  hi : ∀ L : Addr, interactive (callEnv fd L f) = false
  hs : ∀ L : Addr, swapsWith (supE p0 p1 p2 p3 p4 z kk) none p5.line (callEnv fd L f) = pure false
theorem ok_init {CX : CXT} {sp : Sp} {fd : FuncData} {ar : Arg} {k : Nat} (T : ExC K C f B newId initId Bs bmB) (F : InitFn P K C f ql pr (.Expr (supE p0 p1 p2 p3 p4 z kk) p5 :: rest) sc fd) (S : InitScope ps ps sc) (hp : (pr.posonlyargs ++ pr.args).head? = some ar) (p0s : ps[0]? = some ar.arg)
    (ms : mg "super" = none) (U : SupOk fd f p0 p1 p2 p3 p4 p5 z kk) (len : ∀ vs H Q E, sp vs H Q E → vs.length = ps.length)
    (self : ∀ vs H Q E, sp vs H Q E → ∃ a ws, vs = .ref a :: ws ∧ H a = some (exo a C none))
    (body : ∀ (A : Around) (outer : List Env) (s : Shared) (H : Hp) (vs : List V) (Q : VK) (E : XK), sp vs H Q E → ∃ t, PSs (cxI P w K mg base ps fd f A outer s H) rest t ∧ t { nx := fun _ H' => Q .non H', rt := Q } (start ps vs) H) :
    FnOk P w K mg base CX (k + 1) f fd ps sp := by
  refine ⟨len, fun A outer s H args us vs Q E hr e0 hb r hyp => ?_⟩
  have F0 := F
  obtain ⟨oc, kV, doc, pm, cdv, ct, od, an, osl, cl, cc, ocl, occ, fv, file, tf, efd, lf, cod, lcl, dcl, ecd, lcc, dcc, vfile, isf⟩ := F.ex
  have inS : K.In s.heap := e0.mod.kin.keeps fun b o e => (e0.bs b o e).1
  have noL : s.heap.NoLimit := e0.mod.nolimit.keeps fun b o e => (e0.bs b o e).1
  have hl := len _ _ _ _ hyp
  obtain ⟨a, ws, ev, ea⟩ := self _ _ _ _ hyp
  obtain ⟨t, pt, tt⟩ := body A outer s H vs Q E hyp
  have hcd : s.heap.CodeRec fd.code fd.qualname := by rw [efd]; exact PySem.W.codeRec_of inS cod
  refine PySem.ks_codeAny_call_defAt (body := .Expr (supE p0 p1 p2 p3 p4 z kk) p5 :: rest) hr.depth (inS _ _ lf) rfl noL hcd (by rw [efd]) hb (by rw [efd]; exact S.nocell) (fun x hx => ?_) (fun h0 ns kp => ?_) (by rw [efd]; exact S.co) (by rw [efd]; exact S.gen) (by rw [efd]; exact S.kind)
  · obtain ⟨n, v⟩ := x
    rw [efd]
    exact S.par n (List.of_mem_zip hx).1
  · have I : Inv (cxI P w K mg base ps fd f A outer s H) [] (start ps vs) H { s with heap := h0, toks := s.toks + (ps.zip us).length } := by
      rw [efd]
      exact start_init S hr.hd e0 hl r lcl dcl ns kp
    obtain ⟨pl, he⟩ := U.he s.heap.objs.size
    refine PySem.ks_wpAt_execs_cons (PySem.ks_wpAt_Expr_any (run_super T F0 S hp p0s ms I (by rw [ev]; rfl) ea he fun s2 J => ?_) (U.hi _) (U.hs _))
    refine wpAt_of_wpAny (wpAny_mono (pt.run [] s2 _ H _ J tt) (fun fl s3 h3 => ?_) fun e s3 h3 => h3.elim)
    cases fl with
    | ret u =>
      obtain ⟨v, σ', H', J', rv, q⟩ := h3
      exact ⟨v, H', J'.os, J'.bare, J'.base, J'.hok, rv, q⟩
    | next =>
      obtain ⟨σ', H', J', q⟩ := h3
      exact ⟨.non, H', J'.os, J'.bare, J'.base, J'.hok, rfl, q⟩
    | brk =>
      obtain ⟨_, _, _, q⟩ := h3
      exact q.elim
    | cont =>
      obtain ⟨_, _, _, q⟩ := h3
      exact q.elim
end
end E5

set_option maxHeartbeats 4000000
namespace E6
open PySem PySem.W
section
variable {M : Model} {prog : Program} {w : World} {A : Around} {E : Value → Shared → Prop} {R : Result → Shared → Prop} {h : Heap} {g : Array GenState} {d : Drawn} {t : Nat} {os : OsState}
variable {nm q : Str} {C N : Addr} {bs bm bmB : List Value} {hdct : Bool} {sn : List Str} {sub : List Value} {ab : Bool} {col : Option Bool} {dd : Option Addr} {k0 k1 k2 k3 k5 : Option Value} {B newId initId : String} {kw : List (Str × Value)}
theorem may_new (F : ExcBaseFacts B newId initId bmB) (cB : (Value.ref C :: bm).contains (.type B) = true) {rest : List Value} {Q : Unit → Shared → Prop}
    (hC : h.get? C = some (excClassObj nm q C N bs bm hdct sn sub ab col dd k0 k1 k2 k3 k5 newId)) (go : Q () ⟨h, g, d, t, os⟩) : wpAny M A (checkBuiltinCall newId ⟨.ref C :: rest, kw⟩) Q E ⟨h, g, d, t, os⟩ := by
  have star := F.noStar
  simp only [checkBuiltinCall, F.newKind, F.newSplit, F.newRow]
  repeat (first | refine wpAny_loadPart_at hC ?_ | (refine wpAny_isSubtype_exc hC ?_; rw [cB]) | refine wpAny_staticBase_exc hC ?_ | refine wpAny_madeBy_exc hC ?_ | simp only [bne_self_eq_false, Bool.false_eq_true, if_false] | wp_step)
  exact go
theorem new_obj (F : ExcBaseFacts B newId initId bmB) (cB : (Value.ref C :: bm).contains (.type B) = true) (cA : (Value.ref C :: bm).contains (.type "AttributeError") = false) (cN : (Value.ref C :: bm).contains (.type "NameError") = false) {rest : List Value}
    (hC : h.get? C = some (excClassObj nm q C N bs bm hdct sn sub ab col dd k0 k1 k2 k3 k5 newId)) (few : rest.length ≤ sizeLine)
    (go : R (.ok (.ret (.ref (h.objs.size + 1)))) ⟨(h.push (kdv_tup rest)).push (HandSPX.excO C h.objs.size), g, d, t, os⟩) :
    codeAny (model prog w) A (.builtin newId ⟨.ref C :: rest, kw⟩) R ⟨h, g, d, t, os⟩ := by
  have ends := F.ends
  refine codeAny_builtinAt F.entry ?_
  unfold Builtin.«BaseException.__new__»
  refine wpAt_bind ?_
  show wpAt _ _ _ (stack >>= _) _ _ _
  refine wpAt_bind (wpAt_stack fun p below => wpAt_of_wpAny ?_)
  wp_walk
  refine wpAt_of_wpAny ?_
  rw [F.owner]
  repeat (first | with_reducible refine wpAny_madeHere_exc F.canon hC ?_ | with_reducible refine wpAny_loadPart_at hC ?_ | (with_reducible refine wpAny_isSubtype_exc hC ?_; first | rw [cB] | rw [cA] | rw [cN]) | wp_step)
  show R _ _
  rw [Heap.size_push]
  exact go
theorem run_type (F : ExcBaseFacts B newId initId bmB) (cB : (Value.ref C :: bm).contains (.type B) = true) (cA : (Value.ref C :: bm).contains (.type "AttributeError") = false) (cN : (Value.ref C :: bm).contains (.type "NameError") = false) {rest : List Value} {fI : Addr} {Q : Fin → Shared → Prop}
    (hC : h.get? C = some (excClassObj nm q C N bs bm hdct sn sub ab col dd k0 k1 k2 k3 k5 newId)) (ini : Looks (model prog w) h (typeLookup (.ref C) "__init__") (some (.ref fI))) (bnd : ∀ self, Looks (model prog w) h (bindSpecial (.ref fI) self) (.ref fI, [self])) (few : rest.length ≤ sizeLine)
    (go : codeAny (model prog w) A (.call (.ref fI) ⟨.ref (h.objs.size + 1) :: rest, kw⟩)
      (fun r s' => match r with | .ok (.ret v) => v = .none ∧ Q (.done (.ret (.ref (h.objs.size + 1)))) s' | .ok _ => False | .error e => E e s') ⟨(h.push (kdv_tup rest)).push (HandSPX.excO C h.objs.size), g, d, t, os⟩) :
    wpAny (model prog w) A (Builtin.«type.__call__» ⟨.ref C :: rest, kw⟩) Q E ⟨h, g, d, t, os⟩ := by
  have up : ∀ b o, h.get? b = some o → ((h.push (kdv_tup rest)).push (HandSPX.excO C h.objs.size)).get? b = some o := fun b o e => Heap.get?_push_of_some _ (Heap.get?_push_of_some _ e)
  have hC2 := up _ _ hC
  have mine : ((h.push (kdv_tup rest)).push (HandSPX.excO C h.objs.size)).get? (h.objs.size + 1) = some (HandSPX.excO C h.objs.size) := by heap_get
  have cC : (Value.ref C :: bm).contains (.ref C) = true := by simp
  have ini2 := ini.keeps up
  have bnd2 := (bnd (.ref (h.objs.size + 1))).keeps up
  repeat (first | with_reducible refine wpAny_loadPart_at hC ?_ | with_reducible refine wpAny_madeBy_exc hC ?_ | wp_step)
  refine codeAny_call_builtin_code (Code.quiet_builtin _ F.quiet) (may_new F cB hC (new_obj F cB cA cN hC few ?_))
  show wpAny _ _ _ _ _ _
  unfold isInstance
  repeat (first | with_reducible refine wpAny_loadPart_at mine ?_ | (with_reducible refine wpAny_isSubtype_exc hC2 ?_; rw [cC]) | wp_step)
  show wpAny _ _ (typeLookup (.ref C) _) _ _ _
  refine ini2.at (wpAny_holding (wpAny_bind (bnd2.at ?_)))
  refine wpAny_bind (wpAny_call (codeAny_mono go fun r s' z => ?_))
  rcases r with e | (v | _ | _ | _) <;> first | exact z | exact z.elim | skip
  obtain ⟨rfl, z⟩ := z
  first | exact wpAny_pure (wpAny_pure z) | (wp_walk; exact z)
theorem may_call {rest : List Value} {Q : Unit → Shared → Prop} (hC : h.get? C = some (excClassObj nm q C N bs bm hdct sn sub ab col dd k0 k1 k2 k3 k5 newId)) (go : Q () ⟨h, g, d, t, os⟩) :
    wpAny M A (checkBuiltinCall "type.__call__" ⟨.ref C :: rest, kw⟩) Q E ⟨h, g, d, t, os⟩ := by
  have l3 := tc_sub
  have isT : (⟨h, g, d, t, os⟩ : Shared).TypeIs (.ref C) "type" := ⟨_, hC, rfl⟩
  simp only [checkBuiltinCall, tc_kind, tc_split]
  repeat (any_goals (first | assumption | with_reducible refine wpAny_loadPart_at hC ?_ | with_reducible refine wpAny_onRaise ?_ | with_reducible refine wpAny_map ?_ | wp_step))
theorem call_made (F : ExcBaseFacts B newId initId bmB) (cB : (Value.ref C :: bm).contains (.type B) = true) (cA : (Value.ref C :: bm).contains (.type "AttributeError") = false) (cN : (Value.ref C :: bm).contains (.type "NameError") = false) {rest : List Value} {fI : Addr}
    (hC : h.get? C = some (excClassObj nm q C N bs bm hdct sn sub ab col dd k0 k1 k2 k3 k5 newId)) (ini : Looks (model prog w) h (typeLookup (.ref C) "__init__") (some (.ref fI))) (bnd : ∀ self, Looks (model prog w) h (bindSpecial (.ref fI) self) (.ref fI, [self])) (few : rest.length ≤ sizeLine)
    (go : codeAny (model prog w) (A.under (.builtin "type.__call__" ⟨.ref C :: rest, kw⟩)) (.call (.ref fI) ⟨.ref (h.objs.size + 1) :: rest, kw⟩) (InitBack (h.objs.size + 1) R) ⟨(h.push (kdv_tup rest)).push (HandSPX.excO C h.objs.size), g, d, t, os⟩) :
    codeAny (model prog w) A (.call (.ref C) ⟨rest, kw⟩) R ⟨h, g, d, t, os⟩ := by
  have l1 := tc_lookup
  have l2 := tc_bind (.ref C)
  have isT : (⟨h, g, d, t, os⟩ : Shared).TypeIs (.ref C) "type" := ⟨_, hC, rfl⟩
  refine codeAny_of_tree ?_
  show wpAny _ _ (callAny (.ref C) _) _ _ _
  repeat (any_goals (first | assumption | with_reducible refine wpAny_loadPart_at hC ?_ | wp_step))
  refine ⟨rfl, codeAny_call_builtin_at (Code.quiet_builtin _ (by decide +kernel)) entry_typeCall (may_call hC (run_type F cB cA cN hC ini bnd few ?_))⟩
  refine codeAny_mono go fun r s' z => ?_
  rcases r with e | (v | _ | _ | _) <;> exact z
end
end E6

set_option maxHeartbeats 4000000
namespace E7
open PySem PySem.Spec PyProof.Rows L2 E2 E3 E4 E5
/-- C(..), an own error as a value -/
def tErr (C : Addr) (sp : Sp) (gV : List V → List V → List V) (ta tk : TA) : TE := fun σ H Q => ta σ H fun vs H1 => tk σ H1 fun zs H2 => vs.length ≤ 1000 ∧
  ∀ a, H2 a = none → sp (gV (.ref a :: vs) zs) (upd H2 a (exo a C none)) (fun v H3 => v = .non ∧ Q (.ref a) H3) fun _ _ _ => False
section
variable {X : Cx} {pins : List (Addr × Obj)} {σ : L2.St} {H : Hp} {s : Shared} {C fI : Addr} {B newId initId Bs : String} {bmB : List Value} {k : Nat} {fd : FuncData} {ps ks : List Str} {sp : Sp} {g : List Value → List Value → List Value} {gV : List V → List V → List V} {vs zs : List V} {us ws : List Value} {Q : VK}
theorem tl_has {l : List Value} (z : String) (h : PySem.W.excTail bmB l = true) : (Value.ref C :: l).contains (.type z) = bmB.contains (.type z) := by
  rw [List.contains_cons, PySem.W.excTail_contains z l h]
  rfl
theorem run_err (T : ExC X.K C fI B newId initId Bs bmB) (F1 : FnOk X.prog X.w X.K X.mg X.base CX0 k fI fd ps sp) (hr : Room (k + 1) X.A) (kb : KBinds X.K fd ps ks g gV) (I : Inv X pins σ H s) (r : Vals vs us) (rz : Vals zs ws) (few : vs.length ≤ 1000)
    (hyp : ∀ a, H a = none → sp (gV (.ref a :: vs) zs) (upd H a (exo a C none)) (fun v H3 => v = .non ∧ Q (.ref a) H3) fun _ _ _ => False) :
    wpAny (model X.prog X.w) X.A (call (.ref C) us (ks.zip ws)) (EP X pins σ Q) X.xe s := by
  obtain ⟨_, bmE, eb⟩ := T.un.eb
  have KX := I.kIn
  obtain ⟨nm, N', qn, bs, bm, hdct, sn, sub, ab, col, dd, k0, k1, k2, k3, k5, hC, hT⟩ := PySem.W.excInit_of KX T.made
  have con : ∀ z : String, (Value.ref C :: bm).contains (.type z) = bmB.contains (.type z) := fun z => by
    rw [List.contains_cons, hT]
    rfl
  obtain ⟨hp, g0, dr, tk, os⟩ := s
  have new : H (hp.objs.size + 1) = none := I.hok.fresh (Nat.le_succ _)
  have hq := hyp (hp.objs.size + 1) new
  have up : ∀ b o, hp.get? b = some o → ((hp.push (PySem.W.kdv_tup us)).push (HandSPX.excO C hp.objs.size)).get? b = some o := fun b o e => Heap.get?_push_of_some _ (Heap.get?_push_of_some _ e)
  have mine : ((hp.push (PySem.W.kdv_tup us)).push (HandSPX.excO C hp.objs.size)).get? (hp.objs.size + 1) = some (HandSPX.excO C hp.objs.size) := by heap_get
  have I2 : Inv X pins σ (upd H (hp.objs.size + 1) (exo (hp.objs.size + 1) C none)) ⟨(hp.push (PySem.W.kdv_tup us)).push (HandSPX.excO C hp.objs.size), g0, dr, tk, os⟩ :=
    I.laid (t' := tk) (a := hp.objs.size + 1) (o := exo (hp.objs.size + 1) C none) (h' := (hp.push (PySem.W.kdv_tup us)).push (HandSPX.excO C hp.objs.size)) up (Nat.le_succ _) (exo_ok mine)
  have r1 : Vals (V.ref (hp.objs.size + 1) :: vs) (Value.ref (hp.objs.size + 1) :: us) := .cons rfl r
  have r2 := kb.rel r1 rz
  have hl : (g (Value.ref (hp.objs.size + 1) :: us) ws).length = ps.length := by
    rw [← r2.length, F1.len _ _ _ _ hq]
  have hus : us.length ≤ sizeLine := by
    rw [← Paired.length r, sizeLine_eq]
    omega
  obtain ⟨oI, hoI, hcI⟩ : ∃ oI, hp.get? fI = some oI ∧ oI.cls = .type "function" := by
    obtain ⟨o, ho, hc⟩ := Option.map_eq_some_iff.mp (show (X.K.lookup fI).map (·.cls) = some (.type "function") from beq_iff_eq.mp T.isF)
    exact ⟨o, KX _ _ ho, hc⟩
  refine wpAny_call (E6.call_made eb ((con B).trans T.un.hasB) ((con _).trans T.un.noA) ((con _).trans T.un.noN) hC (PySem.W.looks_findIn KX T.ini) (fun self => PySem.W.exc_bind hoI hcI self) hus ?_)
  refine codeAny_mono (F1.run _ X.stack _ _ ⟨Value.ref (hp.objs.size + 1) :: us, ks.zip ws⟩ (g (Value.ref (hp.objs.size + 1) :: us) ws) _ _ (fun _ _ _ => False) (hr.make C us (ks.zip ws)) (I2.env0.make C us (ks.zip ws)) (kb.to _ _ ws I2.kIn hl) r2 hq) fun rr s' hq' => ?_
  match rr, hq' with
  | .error er, z => exact z.elim
  | .ok .next, z => exact z.elim
  | .ok .brk, z => exact z.elim
  | .ok .cont, z => exact z.elim
  | .ok (.ret u), z =>
    obtain ⟨v, H3, I3, rv, ev, q3⟩ := I2.after z
    subst ev
    exact ⟨rv, .ref _, H3, I3, rfl, q3⟩
end
section
variable {X : Cx} {C fI : Addr} {B newId initId Bs : String} {bmB : List Value} {k : Nat} {fd : FuncData} {ps ks : List Str} {sp : Sp} {g : List Value → List Value → List Value} {gV : List V → List V → List V} {x : Str} {p pos : Pos} {e : Expr} {es : List Expr} {kws : List Keyword} {ta tk : TA}
/-- C(e, ..) -/
theorem pe_err (T : ExC X.K C fI B newId initId Bs bmB) (F1 : FnOk X.prog X.w X.K X.mg X.base CX0 k fI fd ps sp) (hr : Room (k + 1) X.A) (kb : KBinds X.K fd ps [] g gV) (hg : Gl X x) (hm : X.mg x = some (.ref C)) (ha : PA X (e :: es) ta)
    (hdb : (x == ("__debug__" : Str)) = false := by decide) (he : starEach (e :: es) X.env = (false, eval e X.env) :: starEach es X.env := by rfl) (hpl : (backTo pos (starEach es X.env)).any (·.1) = false := by rfl) :
    PE X (.Call (.Name x p) (e :: es) [] pos) (tErr C sp gV ta tNil) := by
  refine ⟨fun pins s σ H Q I hyp => wpAny_Call_Name_kw (ld_glob I hg hm ?_ hdb)⟩
  refine PySem.W.callWith_K (h₀ := X.base) I.ok.mod.kin T.kC (thn (ha.run pos pins s σ H _ I hyp) fun us s1 ⟨vs, H1, I1, r1, few, q1⟩ => ⟨I1.kIn, ?_⟩) he hpl
  exact run_err (ks := []) (ws := []) (zs := []) T F1 hr kb I1 r1 .nil few q1
/-- C(k = v, ..) -/
theorem pe_errK (T : ExC X.K C fI B newId initId Bs bmB) (F1 : FnOk X.prog X.w X.K X.mg X.base CX0 k fI fd ps sp) (hr : Room (k + 1) X.A) (kb : KBinds X.K fd ps ks g gV) (hg : Gl X x) (hm : X.mg x = some (.ref C)) (pk : PK X kws tk)
    (h1 : (backToKw pos (keywordEach kws X.env)).all (·.1.isSome) = true := by rfl) (h2 : (backToKw pos (keywordEach kws X.env)).filterMap (·.1) = ks := by rfl) (h3 : (x == ("__debug__" : Str)) = false := by decide)
    (h4 : ((backTo pos (starEach [] X.env)).any (·.1) || (backToKw pos (keywordEach kws X.env)).any (·.1.isNone)) = false := by rfl) :
    PE X (.Call (.Name x p) [] kws pos) (tErr C sp gV tNil tk) := by
  refine ⟨fun pins s σ H Q I hyp => wpAny_Call_Name_kw (ld_glob I hg hm ?_ h3)⟩
  refine PySem.W.callWith_KW0 (h₀ := X.base) I.ok.mod.kin T.kC h1 (thn (pk.run pos pins s σ H _ I hyp) fun ws s2 ⟨zs, H2, I2, rz, few, q2⟩ => ⟨I2.kIn, ?_⟩) h4
  rw [h2]
  exact run_err (us := []) (vs := []) T F1 hr kb I2 .nil rz few q2
end
end E7

set_option maxHeartbeats 4000000
namespace E8
open PySem PySem.Spec PyProof.Rows L2 E2 E3 E4 E5 E7
/-- err.f -/
def tErrF (K : PySem.W.Frag) (f : Str) (te : TE) : TE := fun σ H Q => te σ H fun x H1 => ∃ (a C dx : Addr) (fs : List (Str × V)) (v : V), x = .ref a ∧ ExcC K C ∧ PySem.W.findIn K (.ref C) f = some none ∧ H1 a = some (exo a C (some dx)) ∧ H1 dx = some (exd dx fs) ∧ fs.lookup f = some v ∧ Q v H1
theorem pe_errF {X : Cx} {e : Expr} {te : TE} {pos : Pos} {n : Str} (he : PE X e te) (hb : attributeBase e n X.env (eval e X.env) = eval e X.env := by rfl) : PE X (.Attribute e n pos) (tErrF X.K n te) := by
  refine ⟨fun pins s σ H Q I hyp => attr_of hb (thn (he.run pins s σ H _ I hyp) fun u s1 hh => ?_)⟩
  obtain ⟨x, H1, I1, rx, a, C, dx, fs, v, ex, T, no, ea, ed, l, q⟩ := hh
  subst ex
  obtain rfl : u = Value.ref a := rx
  obtain ⟨t1, at0⟩ := exo_at I1.hok ea
  obtain ⟨mA, nsD, rel⟩ := exd_at I1.hok ed
  obtain ⟨od, ho, hl⟩ := lookIn_ns nsD
  obtain ⟨u, hu, ru⟩ := RelO.some_of (v := v) (o := mA n) (by rw [← l]; exact rel n)
  have J : PySem.W.InstAt s1.heap a _ C (some od) := ⟨at0, rfl, rfl, ho⟩
  exact HandSPX.exc_get I1.kIn J T.hg T.hk T.hs (PySem.W.findObj_own T.hd no rfl (by rw [hl, hu])) (handed_of ru) ⟨v, H1, I1.tok _, ru, q⟩
end E8

set_option maxHeartbeats 4000000
namespace E9
open PySem PySem.Spec PyProof.Rows L2 E2 E3 E4 E5 E7 E8
/-- an own error at a, of the class at C, with these fields -/
def ErrAt (H : Hp) (a C : Addr) (fs : List (Str × V)) : Prop := (fs = [] ∧ H a = some (exo a C none)) ∨ ∃ dx, H a = some (exo a C (some dx)) ∧ H dx = some (exd dx fs)
/-- the same, its fields in a new dict -/
def ErrNew (H0 H : Hp) (a C : Addr) (fs : List (Str × V)) : Prop := (fs = [] ∧ H a = some (exo a C none)) ∨ ∃ dx, H a = some (exo a C (some dx)) ∧ H dx = some (exd dx fs) ∧ H0 dx = none
theorem ErrNew.at {H0 H : Hp} {a C : Addr} {fs : List (Str × V)} (h : ErrNew H0 H a C fs) : ErrAt H a C fs := by
  rcases h with h | ⟨dx, h1, h2, _⟩
  · exact .inl h
  · exact .inr ⟨dx, h1, h2⟩
/-- new things at a and d alone -/
def Grow (H H' : Hp) (a : Addr) : Prop := ∀ b o, H b = some o → b ≠ a → H' b = some o
def names : List Str → List V → List (Str × V)
  | f :: fs, v :: vs => names fs vs ++ [(f, v)]
  | _, _ => []
def spI (C : Addr) (fn : List Str) : Sp := fun vs H Q _ => ∃ (a : Addr) (ws : List V), vs = .ref a :: ws ∧ ws.length = fn.length ∧ H a = some (exo a C none) ∧
  ∀ H', Grow H H' a → ErrNew H H' a C (names fn ws) → Q .non H'
section
variable {P : Program} {w : World} {K : PySem.W.Frag} {mg : Str → Option Value} {base : Heap} {C f : Addr} {ql : Str} {pr : Arguments} {sc : Scope} {B newId initId Bs : String} {bmB : List Value} {p0 p1 p2 p3 p4 p5 : Pos} {z : Str} {kk : Nat} {fd : FuncData} {ar : Arg} {k : Nat}
structure Nm (x : Str) : Prop where
  db : (x == ("__debug__" : Str)) = false
  cd : (x == ("__classdict__" : Str)) = false
theorem nm_self : Nm "self" := ⟨by decide, by decide⟩
theorem ok0 (T : ExC K C f B newId initId Bs bmB) (F : InitFn P K C f ql pr [.Expr (supE p0 p1 p2 p3 p4 z kk) p5] sc fd) (S : InitScope ["self"] ["self"] sc) (hp : (pr.posonlyargs ++ pr.args).head? = some ar) (h0 : ("self" : Str) = ar.arg) (ms : mg "super" = none) (U : SupOk fd f p0 p1 p2 p3 p4 p5 z kk) :
    FnOk P w K mg base CX0 (k + 1) f fd ["self"] (spI C []) := by
  refine ok_init T F S hp (by rw [← h0]; rfl) ms U (fun vs H Q E hyp => ?_) (fun vs H Q E hyp => ?_) (fun A outer s H vs Q E hyp => ?_)
  · obtain ⟨a, ws, rfl, hl, _⟩ := hyp
    rw [List.length_cons, hl]
    rfl
  · obtain ⟨a, ws, rfl, _, ea, _⟩ := hyp
    exact ⟨a, ws, rfl, ea⟩
  · obtain ⟨a, ws, rfl, hl, ea, q⟩ := hyp
    have e : ws = [] := List.length_eq_zero_iff.mp hl
    subst e
    exact ⟨_, pss_nil, q H (fun b o h _ => h) (.inl ⟨rfl, ea⟩)⟩
/-- self.x = x -/
abbrev keepS (x : Str) (q1 q2 q3 q4 : Pos) : Stmt := .Assign [.Attribute (.Name "self" q1) x q2] (.Name x q3) q4
theorem tak_name {x : Str} {X : Cx} {i : Nat} {pos : Pos} (n : Nm x) (hi : X.N[i]? = some x) (hv : X.env.scope.names.lookup x = some .local) : PE X (.Name x pos) (tVar i) := pe_var hi (.inl hv) n.db n.cd
theorem ok1 {x1 : Str} {a1 a2 a3 a4 : Pos} (T : ExC K C f B newId initId Bs bmB) (F : InitFn P K C f ql pr [.Expr (supE p0 p1 p2 p3 p4 z kk) p5, keepS x1 a1 a2 a3 a4] sc fd) (S : InitScope ["self", x1] ["self", x1] sc) (hp : (pr.posonlyargs ++ pr.args).head? = some ar) (h0 : ("self" : Str) = ar.arg) (ms : mg "super" = none) (U : SupOk fd f p0 p1 p2 p3 p4 p5 z kk)
    (n1 : Nm x1) (k1 : PySem.W.takerIn K C x1 = some none) : FnOk P w K mg base CX0 (k + 1) f fd ["self", x1] (spI C [x1]) := by
  refine ok_init T F S hp (by rw [← h0]; rfl) ms U (fun vs H Q E hyp => ?_) (fun vs H Q E hyp => ?_) (fun A outer s H vs Q E hyp => ?_)
  · obtain ⟨a, ws, rfl, hl, _⟩ := hyp
    rw [List.length_cons, hl]
    rfl
  · obtain ⟨a, ws, rfl, _, ea, _⟩ := hyp
    exact ⟨a, ws, rfl, ea⟩
  · obtain ⟨a, ws, rfl, hl, ea, q⟩ := hyp
    match ws, hl with
    | [v1], _ =>
      have env : (cxI P w K mg base ["self", x1] fd f A outer s H).env.scope = sc := by
        obtain ⟨oc, kV, doc, pm, cdv, ct, od, an, osl, cl, cc, ocl, occ, fv, file, tf, efd, _⟩ := F.ex
        rw [efd]
        rfl
      refine ⟨_, pss_one (ps_keep (tak_name (i := 0) nm_self rfl (by rw [env]; exact S.par _ (by simp))) (tak_name (i := 1) n1 rfl (by rw [env]; exact S.par _ (by simp)))), ?_⟩
      refine ⟨v1, rfl, .ref a, rfl, a, C, f, B, newId, initId, Bs, bmB, rfl, T, k1, .inl ⟨ea, fun dx nd ne => ?_⟩⟩
      refine q _ (fun b o hb hba => ?_) (.inr ⟨dx, upd_same, ?_, nd⟩)
      · rw [upd_ne hba, upd_ne (ne_of_none hb nd)]
        exact hb
      · rw [upd_ne ne]
        exact upd_same
theorem ok2 {x1 : Str} {a11 a21 a31 a41 : Pos} {x2 : Str} {a12 a22 a32 a42 : Pos} (T : ExC K C f B newId initId Bs bmB) (F : InitFn P K C f ql pr (.Expr (supE p0 p1 p2 p3 p4 z kk) p5 :: [keepS x1 a11 a21 a31 a41, keepS x2 a12 a22 a32 a42]) sc fd) (S : InitScope ["self", x1, x2] ["self", x1, x2] sc) (hp : (pr.posonlyargs ++ pr.args).head? = some ar) (h0 : ("self" : Str) = ar.arg) (ms : mg "super" = none) (U : SupOk fd f p0 p1 p2 p3 p4 p5 z kk)
    (n1 : Nm x1) (k1 : PySem.W.takerIn K C x1 = some none) (n2 : Nm x2) (k2 : PySem.W.takerIn K C x2 = some none) : FnOk P w K mg base CX0 (k + 1) f fd ["self", x1, x2] (spI C [x1, x2]) := by
  refine ok_init T F S hp (by rw [← h0]; rfl) ms U (fun vs H Q E hyp => ?_) (fun vs H Q E hyp => ?_) (fun A outer s H vs Q E hyp => ?_)
  · obtain ⟨a, ws, rfl, hl, _⟩ := hyp
    rw [List.length_cons, hl]
    rfl
  · obtain ⟨a, ws, rfl, _, ea, _⟩ := hyp
    exact ⟨a, ws, rfl, ea⟩
  · obtain ⟨a, ws, rfl, hl, ea, q⟩ := hyp
    match ws, hl with
    | [v1, v2], _ =>
      have env : (cxI P w K mg base ["self", x1, x2] fd f A outer s H).env.scope = sc := by
        obtain ⟨oc, kV, doc, pm, cdv, ct, od, an, osl, cl, cc, ocl, occ, fv, file, tf, efd, _⟩ := F.ex
        rw [efd]
        rfl
      refine ⟨_, pss_cons (ps_keep (tak_name (i := 0) nm_self rfl (by rw [env]; exact S.par _ (by simp))) (tak_name (i := 1) n1 rfl (by rw [env]; exact S.par _ (by simp)))) (pss_one (ps_keep (tak_name (i := 0) nm_self rfl (by rw [env]; exact S.par _ (by simp))) (tak_name (i := 2) n2 rfl (by rw [env]; exact S.par _ (by simp))))), ?_⟩
      refine ⟨v1, rfl, .ref a, rfl, a, C, f, B, newId, initId, Bs, bmB, rfl, T, k1, .inl ⟨ea, fun dx nd ne => ?_⟩⟩
      have ha1 : (upd (upd H dx (exd dx [(x1, v1)])) a (exo a C (some dx))) a = some (exo a C (some dx)) := upd_same
      have hd1 : (upd (upd H dx (exd dx [(x1, v1)])) a (exo a C (some dx))) dx = some (exd dx [(x1, v1)]) := by
        rw [upd_ne ne]
        exact upd_same
      have hg1 : Grow H (upd (upd H dx (exd dx [(x1, v1)])) a (exo a C (some dx))) a := fun b o hb hba => by
        rw [upd_ne hba, upd_ne (ne_of_none hb nd)]
        exact hb
      generalize upd (upd H dx (exd dx [(x1, v1)])) a (exo a C (some dx)) = H1 at ha1 hd1 hg1 ⊢
      refine ⟨v2, rfl, .ref a, rfl, a, C, f, B, newId, initId, Bs, bmB, rfl, T, k2, .inr ⟨dx, _, ha1, hd1, by simp, ?_⟩⟩
      have ha2 : (upd H1 dx (exd dx [(x2, v2), (x1, v1)])) a = some (exo a C (some dx)) := by
        rw [upd_ne ne.symm]
        exact ha1
      have hd2 : (upd H1 dx (exd dx [(x2, v2), (x1, v1)])) dx = some (exd dx [(x2, v2), (x1, v1)]) := upd_same
      have hg2 : Grow H (upd H1 dx (exd dx [(x2, v2), (x1, v1)])) a := fun b o hb hba => by
        rw [upd_ne (ne_of_none hb nd)]
        exact hg1 b o hb hba
      generalize upd H1 dx (exd dx [(x2, v2), (x1, v1)]) = H2 at ha2 hd2 hg2 ⊢
      exact q _ hg2 (.inr ⟨dx, ha2, hd2, nd⟩)
theorem ok3 {x1 : Str} {a11 a21 a31 a41 : Pos} {x2 : Str} {a12 a22 a32 a42 : Pos} {x3 : Str} {a13 a23 a33 a43 : Pos} (T : ExC K C f B newId initId Bs bmB) (F : InitFn P K C f ql pr (.Expr (supE p0 p1 p2 p3 p4 z kk) p5 :: [keepS x1 a11 a21 a31 a41, keepS x2 a12 a22 a32 a42, keepS x3 a13 a23 a33 a43]) sc fd) (S : InitScope ["self", x1, x2, x3] ["self", x1, x2, x3] sc) (hp : (pr.posonlyargs ++ pr.args).head? = some ar) (h0 : ("self" : Str) = ar.arg) (ms : mg "super" = none) (U : SupOk fd f p0 p1 p2 p3 p4 p5 z kk)
    (n1 : Nm x1) (k1 : PySem.W.takerIn K C x1 = some none) (n2 : Nm x2) (k2 : PySem.W.takerIn K C x2 = some none) (n3 : Nm x3) (k3 : PySem.W.takerIn K C x3 = some none) : FnOk P w K mg base CX0 (k + 1) f fd ["self", x1, x2, x3] (spI C [x1, x2, x3]) := by
  refine ok_init T F S hp (by rw [← h0]; rfl) ms U (fun vs H Q E hyp => ?_) (fun vs H Q E hyp => ?_) (fun A outer s H vs Q E hyp => ?_)
  · obtain ⟨a, ws, rfl, hl, _⟩ := hyp
    rw [List.length_cons, hl]
    rfl
  · obtain ⟨a, ws, rfl, _, ea, _⟩ := hyp
    exact ⟨a, ws, rfl, ea⟩
  · obtain ⟨a, ws, rfl, hl, ea, q⟩ := hyp
    match ws, hl with
    | [v1, v2, v3], _ =>
      have env : (cxI P w K mg base ["self", x1, x2, x3] fd f A outer s H).env.scope = sc := by
        obtain ⟨oc, kV, doc, pm, cdv, ct, od, an, osl, cl, cc, ocl, occ, fv, file, tf, efd, _⟩ := F.ex
        rw [efd]
        rfl
      refine ⟨_, pss_cons (ps_keep (tak_name (i := 0) nm_self rfl (by rw [env]; exact S.par _ (by simp))) (tak_name (i := 1) n1 rfl (by rw [env]; exact S.par _ (by simp)))) (pss_cons (ps_keep (tak_name (i := 0) nm_self rfl (by rw [env]; exact S.par _ (by simp))) (tak_name (i := 2) n2 rfl (by rw [env]; exact S.par _ (by simp)))) (pss_one (ps_keep (tak_name (i := 0) nm_self rfl (by rw [env]; exact S.par _ (by simp))) (tak_name (i := 3) n3 rfl (by rw [env]; exact S.par _ (by simp)))))), ?_⟩
      refine ⟨v1, rfl, .ref a, rfl, a, C, f, B, newId, initId, Bs, bmB, rfl, T, k1, .inl ⟨ea, fun dx nd ne => ?_⟩⟩
      have ha1 : (upd (upd H dx (exd dx [(x1, v1)])) a (exo a C (some dx))) a = some (exo a C (some dx)) := upd_same
      have hd1 : (upd (upd H dx (exd dx [(x1, v1)])) a (exo a C (some dx))) dx = some (exd dx [(x1, v1)]) := by
        rw [upd_ne ne]
        exact upd_same
      have hg1 : Grow H (upd (upd H dx (exd dx [(x1, v1)])) a (exo a C (some dx))) a := fun b o hb hba => by
        rw [upd_ne hba, upd_ne (ne_of_none hb nd)]
        exact hb
      generalize upd (upd H dx (exd dx [(x1, v1)])) a (exo a C (some dx)) = H1 at ha1 hd1 hg1 ⊢
      refine ⟨v2, rfl, .ref a, rfl, a, C, f, B, newId, initId, Bs, bmB, rfl, T, k2, .inr ⟨dx, _, ha1, hd1, by simp, ?_⟩⟩
      have ha2 : (upd H1 dx (exd dx [(x2, v2), (x1, v1)])) a = some (exo a C (some dx)) := by
        rw [upd_ne ne.symm]
        exact ha1
      have hd2 : (upd H1 dx (exd dx [(x2, v2), (x1, v1)])) dx = some (exd dx [(x2, v2), (x1, v1)]) := upd_same
      have hg2 : Grow H (upd H1 dx (exd dx [(x2, v2), (x1, v1)])) a := fun b o hb hba => by
        rw [upd_ne (ne_of_none hb nd)]
        exact hg1 b o hb hba
      generalize upd H1 dx (exd dx [(x2, v2), (x1, v1)]) = H2 at ha2 hd2 hg2 ⊢
      refine ⟨v3, rfl, .ref a, rfl, a, C, f, B, newId, initId, Bs, bmB, rfl, T, k3, .inr ⟨dx, _, ha2, hd2, by simp, ?_⟩⟩
      have ha3 : (upd H2 dx (exd dx [(x3, v3), (x2, v2), (x1, v1)])) a = some (exo a C (some dx)) := by
        rw [upd_ne ne.symm]
        exact ha2
      have hd3 : (upd H2 dx (exd dx [(x3, v3), (x2, v2), (x1, v1)])) dx = some (exd dx [(x3, v3), (x2, v2), (x1, v1)]) := upd_same
      have hg3 : Grow H (upd H2 dx (exd dx [(x3, v3), (x2, v2), (x1, v1)])) a := fun b o hb hba => by
        rw [upd_ne (ne_of_none hb nd)]
        exact hg2 b o hb hba
      generalize upd H2 dx (exd dx [(x3, v3), (x2, v2), (x1, v1)]) = H3 at ha3 hd3 hg3 ⊢
      exact q _ hg3 (.inr ⟨dx, ha3, hd3, nd⟩)
end
end E9

set_option maxHeartbeats 4000000
namespace EA
open PySem PySem.Spec PyProof.Rows L2 E2 E3 E4 E5 E7 E8 E9
section
variable {X : Cx} {pins : List (Addr × Obj)} {σ : L2.St}
/-- an error without fields is let go of -/
theorem let_go {H1 H2 : Hp} {hp hp2 h2 : Heap} {g1 g2 : Array GenState} {d1 d2 : Drawn} {t1 t2 : Nat} {os1 os2 : OsState} {a C : Addr} (I1 : Inv X pins σ H1 ⟨hp, g1, d1, t1, os1⟩) (ha : hp.objs.size ≤ a) (k : ∀ b o, hp.get? b = some o → hp2.get? b = some o)
    (un : Un (frs X.stack) [] (upd H1 a (exo a C none)) H2 hp2 h2) (hok : HOk X.prog X.w H2 h2) (ho : os2 = os1) (hb : AllBare g2) (ea : H2 a = some (exo a C none)) :
    ∃ (t0 : Addr) (G : Heap), Inv X pins σ (del H2 a) ⟨G, g2, d2, t2, os2⟩ ∧ (∀ b o, G.get? b = some o → h2.get? b = some o) ∧ G.get? a = none ∧
      h2.get? a = some ({ cls := .ref C, dict := none, data := .fields #[.ref t0, .none, .none, .none, .bool false, .none] } : Obj) := by
  obtain ⟨t0, at2⟩ := exo_at hok ea
  have new : H1 a = none := I1.hok.fresh ha
  obtain ⟨G, gin, gout⟩ := restrict h2 fun b => decide (b ≠ a)
  have gk : ∀ b, b ≠ a → G.get? b = h2.get? b := fun b nb => gin b (decide_eq_true nb)
  have ga : G.get? a = none := gout a (by simp)
  have off : ∀ {b : Addr} {o : Obj}, hp.get? b = some o → b ≠ a := fun {b o} q => Nat.ne_of_lt (Nat.lt_of_lt_of_le (Heap.lt_size q) ha)
  have un0 : ∀ {b : Addr}, b ≠ a → H1 b = none → upd H1 a (exo a C none) b = none := fun {b} nb n => by
    rw [upd_ne nb]
    exact n
  have un1 : ∀ {b : Addr} {o : HO}, H1 b = some o → upd H1 a (exo a C none) b = some o ∧ b ≠ a := fun {b o} q => by
    have nb := ne_of_none q new
    exact ⟨by rw [upd_ne nb]; exact q, nb⟩
  have U : Un (frs X.stack) [] H1 (del H2 a) hp G :=
    { keep := fun b o q n hf hx => by
        rw [gk b (off q)]
        exact un.keep b o (k b o q) (un0 (off q) n) hf hx
      slot := fun b o q n hf hx => by
        rw [gk b (off q)]
        exact un.slot b o (k b o q) (un0 (off q) n) hf hx
      free := fun b o q n hx => by
        rw [del_ne (off q)]
        exact un.free b o (k b o q) (un0 (off q) n) hx
      there := fun b o q hx => by
        rw [gk b (off q)]
        exact un.there b o (k b o q) hx
      tups := fun b xs q => by
        rw [del_ne (un1 q).2]
        exact un.tups b xs (un1 q).1
      frzs := fun b o v q => by
        rw [del_ne (un1 q).2]
        exact un.frzs b o v (un1 q).1
      tbls := fun b ps q => by
        rw [del_ne (un1 q).2]
        exact un.tbls b ps (un1 q).1 }
  have hokG : HOk X.prog X.w (del H2 a) G := fun b o q => by
    have nb : b ≠ a := fun e => by
      rw [e, del_same] at q
      cases q
    rw [del_ne nb] at q
    have noO : ∀ {c : Addr}, H2 c = some (.own b) → c ≠ a := fun {c} hc => at_ne ea hc exo_own
    refine (hok b o q).stay (fun c v hc y => ?_) (fun c hc => by rw [del_ne (noO hc)]; exact hc) (fun c xs hc => by rw [del_ne (at_ne ea hc exo_tup)]; exact hc)
    have nc : c ≠ a := by
      rcases hc with hc | hc
      · rw [hc]
        exact nb
      · exact noO hc
    rw [gk c nc]
    exact y
  refine ⟨t0, G, I1.call' (ch := []) ho U hokG hb (fun b q => absurd q (by simp)), fun b o q => ?_, ga, at2⟩
  by_cases nb : b = a
  · rw [nb, ga] at q
    cases q
  · exact (gk b nb).symm.trans q
/-- C(e, ..) that is to be raised -/
def tMkE (C : Addr) (sp : Sp) (gV : List V → List V → List V) (ta : TA) : L2.St → Hp → XK → Prop := fun σ H Q => ta σ H fun vs H1 => vs.length ≤ 1000 ∧ ∀ a, H1 a = none → sp (gV (.ref a :: vs) []) (upd H1 a (exo a C none))
  (fun v H2 => v = .non ∧ ((∃ (d : Addr) (fs : List (Str × V)), H2 a = some (exo a C (some d)) ∧ H2 d = some (exd d fs) ∧ H1 d = none ∧ Q (.ref C) (some d) (upd (del H2 a) d (.xd fs))) ∨ (H2 a = some (exo a C none) ∧ Q (.ref C) none (del H2 a)))) fun _ _ _ => False
theorem run_mk {C fI : Addr} {B newId initId Bs : String} {bmB : List Value} {k : Nat} {fd : FuncData} {ps : List Str} {sp : Sp} {g : List Value → List Value → List Value} {gV : List V → List V → List V} {H : Hp} {s : Shared} {vs : List V} {us : List Value} {Q : XK}
    (T : ExC X.K C fI B newId initId Bs bmB) (F1 : FnOk X.prog X.w X.K X.mg X.base CX0 k fI fd ps sp) (hr : Room (k + 1) X.A) (kb : KBinds X.K fd ps [] g gV) (I : Inv X pins σ H s) (r : Vals vs us) (few : vs.length ≤ 1000)
    (hyp : ∀ a, H a = none → sp (gV (.ref a :: vs) []) (upd H a (exo a C none)) (fun v H2 => v = .non ∧ ((∃ (d : Addr) (fs : List (Str × V)), H2 a = some (exo a C (some d)) ∧ H2 d = some (exd d fs) ∧ H d = none ∧ Q (.ref C) (some d) (upd (del H2 a) d (.xd fs))) ∨ (H2 a = some (exo a C none) ∧ Q (.ref C) none (del H2 a)))) fun _ _ _ => False) :
    wpAny (model X.prog X.w) X.A (call (.ref C) us) (MkP X pins σ Q) X.xe s := by
  obtain ⟨_, bmE, eb⟩ := T.un.eb
  have KX := I.kIn
  obtain ⟨nm, N', qn, bs, bm, hdct, sn, sub, ab, col, dd, k0, k1, k2, k3, k5, hC, hT⟩ := PySem.W.excInit_of KX T.made
  have con : ∀ z : String, (Value.ref C :: bm).contains (.type z) = bmB.contains (.type z) := fun z => by
    rw [List.contains_cons, hT]
    rfl
  obtain ⟨hp, g0, dr, tk, os⟩ := s
  have new : H (hp.objs.size + 1) = none := I.hok.fresh (Nat.le_succ _)
  have hq := hyp (hp.objs.size + 1) new
  have up : ∀ b o, hp.get? b = some o → ((hp.push (PySem.W.kdv_tup us)).push (HandSPX.excO C hp.objs.size)).get? b = some o := fun b o e => Heap.get?_push_of_some _ (Heap.get?_push_of_some _ e)
  have mine : ((hp.push (PySem.W.kdv_tup us)).push (HandSPX.excO C hp.objs.size)).get? (hp.objs.size + 1) = some (HandSPX.excO C hp.objs.size) := by heap_get
  have I2 : Inv X pins σ (upd H (hp.objs.size + 1) (exo (hp.objs.size + 1) C none)) ⟨(hp.push (PySem.W.kdv_tup us)).push (HandSPX.excO C hp.objs.size), g0, dr, tk, os⟩ :=
    I.laid (t' := tk) (a := hp.objs.size + 1) (o := exo (hp.objs.size + 1) C none) (h' := (hp.push (PySem.W.kdv_tup us)).push (HandSPX.excO C hp.objs.size)) up (Nat.le_succ _) (exo_ok mine)
  have r1 : Vals (V.ref (hp.objs.size + 1) :: vs) (Value.ref (hp.objs.size + 1) :: us) := .cons rfl r
  have r2 := kb.rel r1 Paired.nil
  have hl : (g (Value.ref (hp.objs.size + 1) :: us) []).length = ps.length := by
    rw [← r2.length, F1.len _ _ _ _ hq]
  have hus : us.length ≤ sizeLine := by
    rw [← Paired.length r, sizeLine_eq]
    omega
  obtain ⟨oI, hoI, hcI⟩ : ∃ oI, hp.get? fI = some oI ∧ oI.cls = .type "function" := by
    obtain ⟨o, ho, hc⟩ := Option.map_eq_some_iff.mp (show (X.K.lookup fI).map (·.cls) = some (.type "function") from beq_iff_eq.mp T.isF)
    exact ⟨o, KX _ _ ho, hc⟩
  refine wpAny_call (E6.call_made (kw := []) eb ((con B).trans T.un.hasB) ((con _).trans T.un.noA) ((con _).trans T.un.noN) hC (PySem.W.looks_findIn KX T.ini) (fun self => PySem.W.exc_bind hoI hcI self) hus ?_)
  refine codeAny_mono (F1.run _ X.stack _ _ ⟨Value.ref (hp.objs.size + 1) :: us, []⟩ (g (Value.ref (hp.objs.size + 1) :: us) []) _ _ (fun _ _ _ => False) (hr.make C us []) (I2.env0.make C us []) (kb.to _ _ [] I2.kIn hl) r2 hq) fun rr s' hq' => ?_
  match rr, hq' with
  | .error er, z => exact z.elim
  | .ok .next, z => exact z.elim
  | .ok .brk, z => exact z.elim
  | .ok .cont, z => exact z.elim
  | .ok (.ret u), ⟨v, H2, os2, bare2, un2, hok2, rv, ev, q2⟩ =>
    subst ev
    obtain ⟨h2, g2, d2, t2, os'⟩ := s'
    refine ⟨rv, ?_⟩
    rcases q2 with ⟨d, fs, ea, ed, nd, q⟩ | ⟨ea, q⟩
    · exact mk_end (raises_own T.exC T.tyC) I (Nat.le_succ _) up un2 hok2 os2 bare2 ea ed nd q
    · obtain ⟨t0, G, J, kG, ge, at2⟩ := let_go (d2 := d2) (t2 := t2) I (Nat.le_succ _) up un2 hok2 os2 bare2 ea
      exact ⟨hp.objs.size + 1, _, _, ⟨G, g2, d2, t2, os'⟩, _, .ref C, none, rfl, J, kG, ge, at2, ⟨rfl, rfl⟩, rfl, rfl, del_same, rfl, bare2, raises_own T.exC T.tyC, q⟩
end
section
variable {X : Cx} {C fI : Addr} {B newId initId Bs : String} {bmB : List Value} {k : Nat} {fd : FuncData} {ps : List Str} {sp : Sp} {g : List Value → List Value → List Value} {gV : List V → List V → List V} {x : Str} {p pos : Pos} {e : Expr} {es : List Expr} {ta : TA}
theorem pmk_err (T : ExC X.K C fI B newId initId Bs bmB) (F1 : FnOk X.prog X.w X.K X.mg X.base CX0 k fI fd ps sp) (hr : Room (k + 1) X.A) (kb : KBinds X.K fd ps [] g gV) (hg : Gl X x) (hm : X.mg x = some (.ref C)) (ha : PA X (e :: es) ta)
    (hdb : (x == ("__debug__" : Str)) = false := by decide) (he : starEach (e :: es) X.env = (false, eval e X.env) :: starEach es X.env := by rfl) (hpl : (backTo pos (starEach es X.env)).any (·.1) = false := by rfl) :
    PMk X (.Call (.Name x p) (e :: es) [] pos) (tMkE C sp gV ta) := by
  intro pins s σ H Q I hyp
  refine wpAny_Call_Name_kw (ld_glob I hg hm ?_ hdb)
  refine PySem.W.callWith_K (h₀ := X.base) I.ok.mod.kin T.kC (thn (ha.run pos pins s σ H _ I hyp) fun us s1 ⟨vs, H1, I1, r1, few, q1⟩ => ⟨I1.kIn, ?_⟩) he hpl
  exact run_mk T F1 hr kb I1 r1 few q1
theorem pmk_err0 (T : ExC X.K C fI B newId initId Bs bmB) (F1 : FnOk X.prog X.w X.K X.mg X.base CX0 k fI fd ps sp) (hr : Room (k + 1) X.A) (kb : KBinds X.K fd ps [] g gV) (hg : Gl X x) (hm : X.mg x = some (.ref C)) (hdb : (x == ("__debug__" : Str)) = false := by decide) :
    PMk X (.Call (.Name x p) [] [] pos) (tMkE C sp gV tNil) := by
  intro pins s σ H Q I hyp
  refine wpAny_Call_Name_kw (ld_glob I hg hm ?_ hdb)
  exact PySem.W.callWith_K0 I.kIn T.kC (run_mk (us := []) (vs := []) T F1 hr kb I .nil hyp.1 hyp.2)
theorem pe_err0 (T : ExC X.K C fI B newId initId Bs bmB) (F1 : FnOk X.prog X.w X.K X.mg X.base CX0 k fI fd ps sp) (hr : Room (k + 1) X.A) (kb : KBinds X.K fd ps [] g gV) (hg : Gl X x) (hm : X.mg x = some (.ref C)) (hdb : (x == ("__debug__" : Str)) = false := by decide) :
    PE X (.Call (.Name x p) [] [] pos) (tErr C sp gV tNil tNil) := by
  refine ⟨fun pins s σ H Q I hyp => wpAny_Call_Name_kw (ld_glob I hg hm ?_ hdb)⟩
  exact PySem.W.callWith_K0 I.kIn T.kC (run_err (ks := []) (ws := []) (zs := []) (us := []) (vs := []) T F1 hr kb I .nil .nil hyp.1 hyp.2)
end
end EA

set_option maxHeartbeats 4000000
namespace EB
open PySem PySem.Spec PyProof.Rows L2 E2 E3 E4 E5 E7 E8 E9
/-- isinstance(err, c) -/
def rIsErr (K : PySem.W.Frag) : List V → Hp → VK → Prop := fun xs H Q => ∃ (a C : Addr) (fs : List (Str × V)) (c : V) (u : Value) (b : Bool), xs = [.ref a, c] ∧ ErrAt H a C fs ∧ ExcC K C ∧ ClsV c u ∧ PySem.W.kitOne K (.ref C) u = some b ∧ Q (.bl b) H
theorem call_isErr {X : Cx} : CallR X (.builtin "isinstance") (rIsErr X.K) := by
  intro pins s σ H xs us Q I r hyp
  obtain ⟨a, C, fs, c, u, b, rfl, ea, T, cv, e, q⟩ := hyp
  cases r with
  | cons rx rr =>
    cases rr with
    | cons rt rr =>
      cases rr
      cases rx
      have ec := cv.eq rt
      subst ec
      have hcl : (PySem.W.clsIn X.K C).isSome = true := by
        obtain ⟨cd, hc, _⟩ := PySem.W.any_some T.hd
        rw [hc]
        rfl
      have fin : ∀ {ox : Obj} {od : Option Obj}, PySem.W.InstAt s.heap a ox C od → wpAny (model X.prog X.w) X.A (call (.builtin "isinstance") [.ref a, _]) (EP X pins σ Q) X.xe s := fun {ox od} J =>
        PySem.W.kia_one (PySem.W.kitx_exc hcl T.hg T.hk T.hs T.ha T.hn T.ht T.hm) I.kIn J e (fun z => nomatch z) fun tk => ⟨.bl b, H, I.kept (t' := tk) fun _ _ z => z, rfl, q⟩
      rcases ea with ⟨_, ea⟩ | ⟨dx, ea, ed⟩
      · obtain ⟨t1, at0⟩ := exo_at I.hok ea
        exact fin (ox := _) (od := none) ⟨at0, rfl, rfl, trivial⟩
      · obtain ⟨t1, at0⟩ := exo_at I.hok ea
        obtain ⟨mA, ⟨oD, es, ep, hoD, _⟩, _⟩ := exd_at I.hok ed
        exact fin (ox := _) (od := some oD) ⟨at0, rfl, rfl, hoD⟩
end EB

set_option maxHeartbeats 4000000
namespace EC
open PySem PySem.Spec PyProof.Rows L2 E2 E3 E4 E5 E7 E8 E9
/-- an error that was caught and is kept -/
def exk (a : Addr) (cls : Value) (d : Option Addr) : HO := .ext fun h => ∃ (oe : Obj) (vs : Array Value), h.get? a = some oe ∧ Zc cls d oe ∧ oe.data = .fields vs
theorem exk_ok {P : Program} {w : World} {H : Hp} {h : Heap} {a : Addr} {cls : Value} {d : Option Addr} {oe : Obj} {vs : Array Value} (e : h.get? a = some oe) (z : Zc cls d oe) (dt : oe.data = .fields vs) : ObjOk P w H h a (exk a cls d) :=
  ⟨⟨oe, vs, e, z, dt⟩, ⟨_, e⟩, fun h1 h2 ⟨o, v, q1, q2, q3⟩ k => ⟨o, v, k _ q1, q2, q3⟩⟩
theorem exk_at {P : Program} {w : World} {H : Hp} {h : Heap} {a : Addr} {cls : Value} {d : Option Addr} (hok : HOk P w H h) (e : H a = some (exk a cls d)) : ∃ (oe : Obj) (vs : Array Value), h.get? a = some oe ∧ Zc cls d oe ∧ oe.data = .fields vs := by
  have x : ObjOk P w H h a (.ext fun h => ∃ (oe : Obj) (vs : Array Value), h.get? a = some oe ∧ Zc cls d oe ∧ oe.data = .fields vs) := hok a _ e
  exact x.1
/-- a place that came new -/
structure Fresh (X : Cx) (pins : List (Addr × Obj)) (a : Addr) : Prop where
  n0 : X.s_0.heap.get? a = none
  nL : X.env.locals ≠ a
  nC : ∀ x c, X.env.cells.lookup x = some c → c ≠ a
  nP : ∀ p ∈ X.pn ++ pins, p.1 ≠ a
theorem fresh_of {X : Cx} {pins : List (Addr × Obj)} {σ : L2.St} {H : Hp} {s : Shared} {a : Addr} (I : Inv X pins σ H s) (ga : s.heap.get? a = none) (hx : X.ex = []) : Fresh X pins a := by
  refine ⟨?_, fun e => ?_, fun x c h e => ?_, fun p hp e => ?_⟩
  · cases q : X.s_0.heap.get? a with
    | none => rfl
    | some o =>
      obtain ⟨o', q'⟩ := I.base.there a o q (by rw [hx]; exact List.not_mem_nil)
      rw [ga] at q'
      cases q'
  · obtain ⟨m, ⟨o, es, ep, q, _⟩, _⟩ := I.loc
    rw [e, ga] at q
    cases q
  · obtain ⟨v, o, q, _⟩ := I.cell x c h
    rw [e, ga] at q
    cases q
  · have q := (I.pin p hp).1
    rw [e, ga] at q
    cases q
theorem retrack {X : Cx} {pins : List (Addr × Obj)} {σ : L2.St} {H : Hp} {s : Shared} {a : Addr} {o : HO} (F : Fresh X pins a) (I : Inv X pins σ H s) (na : H a = none) (ok : ObjOk X.prog X.w (upd H a o) s.heap a o) : Inv X pins σ (upd H a o) s := by
  have ne : ∀ {b : Addr} {u : HO}, H b = some u → b ≠ a := fun {b u} q => ne_of_none q na
  refine ⟨I.ok, I.os, I.bare, ?_, I.loc, I.cell, ?_, fun x c h => ?_, fun p hp => ?_, HOk.laidN I.hok (fun _ _ e => e) na ok, I.len⟩
  · exact { keep := I.base.keep, slot := I.base.slot,
            free := fun b u q n hx => by
              rw [upd_ne (fun e => by rw [e, F.n0] at q; cases q)]
              exact I.base.free b u q n hx
            there := I.base.there
            tups := fun b xs q => by
              have z := I.base.tups b xs q
              rw [upd_ne (ne z)]
              exact z
            frzs := fun b u v q => by
              have z := I.base.frzs b u v q
              rw [upd_ne (ne z)]
              exact z
            tbls := fun b ps q => by
              obtain ⟨m, z⟩ := I.base.tbls b ps q
              exact ⟨m, by rw [upd_ne (ne z)]; exact z⟩ }
  · rw [upd_ne F.nL]
    exact I.free
  · rw [upd_ne (F.nC x c h)]
    exact I.freeC x c h
  · obtain ⟨q1, q2, q3⟩ := I.pin p hp
    exact ⟨q1, by rw [upd_ne (F.nP p hp)]; exact q2, q3⟩
/-- except C as n: .., and the error is kept behind it -/
def wKept (K : PySem.W.Frag) (c : Value) (i : Nat) (ts : Addr → Value → Option Addr → TS) (Wout : WX) (D : Ends) : WX := fun cls d σ H =>
  ∃ b, PySem.W.exmOne K cls c = some b ∧ (b = true → ∀ a, H a = none → ts a cls d { nx := fun σ' H' => H' a = none ∧ D.nx (σ'.set i none) (upd H' a (exk a cls d)), rt := fun _ _ => False, bk := fun _ _ => False, ct := fun _ _ => False } (σ.set i (some (.ref a))) H) ∧
    (b = false → Wout cls d σ H)
section
variable {X : Cx} {x n : Str} {c : Value} {i : Nat} {body suite : List Stmt} {b0 : Stmt} {np pos pos' : Pos} {tb : WX → TS} {ts : Addr → Value → Option Addr → TS} {Wout : WX}
theorem ps_try_kept (hs : X.stack = X.env :: X.outer) (hf : X.env.frame = some X.env.locals) (hN : X.N.Nodup) (hi : X.N[i]? = some n) (hln : X.env.kindOf n = some .local) (hc : Names X x c) (hx : X.ex = [])
    (hb : ∀ (W : WX) (pn : List (Addr × Obj)) (xe : Value → Shared → Prop), Takes (X.tr pn xe) W → PassesOwn (model X.prog X.w) X.A X.env xe → PSs (X.tr pn xe) body (tb W))
    (hsu : ∀ (a : Addr) (oe : Obj) (cls : Value) (d : Option Addr) (pn : List (Addr × Obj)), Zc cls d oe → (∃ vs, oe.data = .fields vs) → PSs (X.suite a ((a, oe) :: pn)) (b0 :: suite) (ts a cls d)) :
    PS X (.Try body [.ExceptHandler (some (.Name x np)) (some n) (b0 :: suite) pos'] [] [] pos) (fun D σ H => tb (wKept X.K c i ts (fun _ _ _ _ => False) D) D σ H) := by
  refine ⟨fun pins s σ H D I hyp => ?_⟩
  have ok := I.ok
  have frm : X.A.frames = some (X.env :: X.outer) := by rw [ok.frames, hs]
  refine wpAny_Try_except ?_
  have run := hb (wKept X.K c i ts (fun _ _ _ _ => False) D) (X.pn ++ pins) (fun e s1 => wpAny (model X.prog X.w) X.A (noteFrame e X.env) (fun _ s2 => wpAny (model X.prog X.w) X.A (setFlight e none)
    (fun _ s3 => wpAny (model X.prog X.w) X.A (handleBy e X.env [.ExceptHandler (some (.Name x np)) (some n) (b0 :: suite) pos']) (SP X pins D) X.xe s3) X.xe s2) X.xe s1)
  refine wpAny_mono ((run (fun u s' xx => ?_) PassesOwn.looking).run [] s σ H D (I.toTry _) hyp) (fun fl s1 sp => ?_) (fun e s1 he => he)
  · obtain ⟨a, B, sI, pins', σ', H', cls, d, rfl, J', nb, up, sky, na, os, ag, b, hb1, yes, no⟩ := xx
    have J : Inv X pins σ' H' sI := J'.ofTry ok
    have sky2 : Sky B (X.env :: X.outer) a (Zc cls d) X.env.locals s'.heap := by rw [← hs]; exact sky
    show wpAny (model X.prog X.w) X.A (noteFrame (.ref a) X.env) _ _ _
    refine Sky.land Zc.steady frm hf sky2 fun h3 fl3 up3 => ?_
    have J3 : Inv X pins σ' H' { s' with heap := h3 } := J.landed nb fl3.1 (up.trans up3) os ag
    obtain ⟨oe3, vs3, at3, z3, d3⟩ := fl3.there
    have nfr : a ∉ frs (X.env :: X.outer) := fun hm => by
      obtain ⟨_, o', e', nf⟩ := fl3.2.2.1.mem hm
      rw [at3] at e'
      cases e'
      exact nf _ d3
    have gone : sI.heap.get? a = none := by
      cases q : sI.heap.get? a with
      | none => rfl
      | some o =>
        have z := nb a o q (by rw [show (frs X.stack) = frs (X.env :: X.outer) by rw [hs]]; exact nfr)
        rw [fl3.2.1] at z
        cases z
    have Fr := fresh_of J gone hx
    have nF : a ∉ X.fs := fun hm => by
      obtain ⟨e, he, q⟩ := List.mem_filterMap.mp hm
      exact nfr (List.mem_filterMap.mpr ⟨e, List.mem_cons_of_mem _ he, q⟩)
    have S3 := J3.suite at3 d3 na (fun e => Fr.nL e.symm) nF
    refine wpAny_handleBy_cons (codeAny_handlers_test ?_) (by intro q; cases q)
    have LT : PySem.W.Looks (model X.prog X.w) h3 (typeOf (.ref a)) cls := fun A Q E s k q => wpAny_typeOf_ref (k _ _ at3) (by rw [z3.1]; exact q)
    have LM := PySem.W.exm_one (M := model X.prog X.w) (J3.kIn) LT hb1
    have test : ∀ {Q : Value → Shared → Prop} {E : Value → Shared → Prop}, Q c { s' with heap := h3 } → wpAny (model X.prog X.w) (X.A.mark (some (.ref a))) (eval (.Name x np) X.env) Q E { s' with heap := h3 } := fun {Q E} q => by
      obtain ⟨hg, hdbg, hm | ⟨hm, hv, hnn⟩⟩ := hc
      · exact ld_glob (X := X.suite a ((a, oe3) :: (X.pn ++ pins))) S3 hg hm q hdbg
      · exact ld_blt (X := X.suite a ((a, oe3) :: (X.pn ++ pins))) S3 hg hm hv q hnn hdbg
    refine test (LM.here ?_)
    cases b with
    | false => exact (no rfl).elim
    | true =>
      refine codeAny_handlers_suite_as (HandSPX.lands_againZ fl3 fun h4 fl4 up4 => ?_)
      have J4 : Inv X pins σ' H' { s' with heap := h4 } := J.landed nb fl4.1 ((up.trans up3).trans up4) os ag
      obtain ⟨oe4, vs4, at4, z4, d4⟩ := fl4.there
      have S4 := J4.suite at4 d4 na (fun e => Fr.nL e.symm) nF
      refine store_ok (X := X.suite a ((a, oe4) :: (X.pn ++ pins))) (v := .ref a) S4 hN hi (.inl hln) rfl (fun s5 S5 => ?_) (.inr hln)
      refine wpAny_mono ((hsu a oe4 cls d (X.pn ++ pins) z4 ⟨_, d4⟩).run [] s5 _ H' _ S5 (yes rfl a na)) (fun fl s6 sp => ?_) (fun _ _ z => False.elim z)
      cases fl with
      | next =>
        obtain ⟨σ6, H6, S6, n6, q6⟩ := sp
        have at6 := (S6.pin (a, oe4) (List.mem_append_left _ List.mem_cons_self)).1
        have J6 := retrack (o := exk a cls d) Fr (S6.unsuite ok) n6 (exk_ok at6 z4 d4)
        exact gone_ok J6 hN hi hln fun s7 J7 => ⟨_, _, J7, q6⟩
      | brk =>
        obtain ⟨_, _, _, q⟩ := sp
        exact q.elim
      | cont =>
        obtain ⟨_, _, _, q⟩ := sp
        exact q.elim
      | ret u =>
        obtain ⟨_, _, _, _, _, q⟩ := sp
        exact q.elim
  · cases fl with
    | next =>
      obtain ⟨σ', H', J', q⟩ := sp
      exact wpAny_execs_nil ⟨σ', H', J'.ofTry ok, q⟩
    | brk =>
      obtain ⟨σ', H', J', q⟩ := sp
      exact ⟨σ', H', J'.ofTry ok, q⟩
    | cont =>
      obtain ⟨σ', H', J', q⟩ := sp
      exact ⟨σ', H', J'.ofTry ok, q⟩
    | ret u =>
      obtain ⟨v, σ', H', J', r, q⟩ := sp
      exact ⟨v, σ', H', J'.ofTry ok, r, q⟩
end
/-- kept.f -/
def tKeptF (K : PySem.W.Frag) (f : Str) (te : TE) : TE := fun σ H Q => te σ H fun x H1 => ∃ (a C d : Addr) (fs : List (Str × V)) (v : V), x = .ref a ∧ ExcC K C ∧ PySem.W.findIn K (.ref C) f = some none ∧ H1 a = some (exk a (.ref C) (some d)) ∧ H1 d = some (.xd fs) ∧ fs.lookup f = some v ∧ Q v H1
theorem pe_keptF {X : Cx} {e : Expr} {te : TE} {pos : Pos} {n : Str} (he : PE X e te) (hb : attributeBase e n X.env (eval e X.env) = eval e X.env := by rfl) : PE X (.Attribute e n pos) (tKeptF X.K n te) := by
  refine ⟨fun pins s σ H Q I hyp => attr_of hb (thn (he.run pins s σ H _ I hyp) fun u s1 hh => ?_)⟩
  obtain ⟨x, H1, I1, rx, a, C, d, fs, v, ex, T, no, ea, ed, l, q⟩ := hh
  subst ex
  obtain rfl : u = Value.ref a := rx
  obtain ⟨oe, vs, at0, z0, dt⟩ := exk_at I1.hok ea
  obtain ⟨mA, nsD, rel⟩ := (show ObjOk X.prog X.w H1 s1.heap d (.xd fs) from I1.hok d _ ed)
  obtain ⟨od, ho, hl⟩ := lookIn_ns nsD
  obtain ⟨u, hu, ru⟩ := RelO.some_of (v := v) (o := mA n) (by rw [← l]; exact rel n)
  have J : PySem.W.InstAt s1.heap a oe C (some od) := ⟨at0, z0.1, by unfold PySem.W.notCls; rw [dt] <;> rfl, by rw [z0.2]; exact ho⟩
  exact HandSPX.exc_get I1.kIn J T.hg T.hk T.hs (PySem.W.findObj_own T.hd no rfl (by rw [hl, hu])) (handed_of ru) ⟨v, H1, I1.tok _, ru, q⟩
end EC

set_option maxHeartbeats 4000000
/-! own errors as any law needs them: found, made, raised, caught -/
namespace EE
open PySem PySem.Spec PyProof.Rows L2 G3 G5 E2 E3 E4 E5 E7 E8 E9 EB EC
def initOf (s : Stmt) : Stmt := match s with
  | .ClassDef _ _ _ b _ _ _ _ _ _ _ => b.getD 0 (.Pass ⟨0, 0, 0, 0⟩)
  | s => s
/-- all that can be asked of the class by looking -/
def lookC (K : PySem.W.Frag) (C fI : Addr) (B newId initId : String) (bmB : List Value) (fn : List Str) : Bool :=
  PySem.W.excInitIn K C bmB newId && (PySem.W.excOver K C bmB && (PySem.W.hasDictIn K C && (decide (PySem.W.findIn K (.ref C) "__setattr__" = some (some (.builtin "object.__setattr__"))) && (decide (PySem.W.findIn K (.ref C) "__init__" = some (some (.ref fI))) &&
  (PySem.W.isFn K (.ref fI) && (decide (PySem.W.ks_superIn K C C "__init__" = some (some (.builtin initId))) && (decide (PySem.W.subIn K (.ref C) (.type B) = some true) && (decide (PySem.W.subIn K (.ref C) (.ref C) = some true) && (decide (PySem.W.nsIn K cStatics "thirdparty.any" = some none) &&
  (decide (PySem.W.subIn K (.ref C) (.type "BaseException") = some true) && (decide (PySem.W.typeIn K (.ref C) = some (.type "type")) && (PySem.W.keepIn K (.ref C) && (decide (PySem.W.findIn K (.ref C) "__getattribute__" = some (some (.builtin "BaseException.__getattribute__"))) &&
  (decide (PySem.W.findIn K (.ref C) "__getattr__" = some none) && (decide (PySem.W.findIn K (.ref C) "__class__" = some (some (.builtin "object.__class__"))) && (decide (PySem.W.specialIn K (.builtin "object.__class__") "__get__" = some (some (.builtin "getset_descriptor.__get__"))) &&
  (decide (PySem.W.takesIn K (.builtin "object.__class__") = some true) && (decide (PySem.W.mroIn K C (.type "object") = some true) && fn.all fun f => decide (PySem.W.takerIn K C f = some none) && decide (PySem.W.findIn K (.ref C) f = some none)))))))))))))))))))
theorem looked {K : PySem.W.Frag} {C fI : Addr} {B newId initId Bs : String} {bmB : List Value} {fn : List Str} (U : Under B newId initId Bs bmB) (h : lookC K C fI Bs newId initId bmB fn = true) :
    ExC K C fI B newId initId Bs bmB ∧ ExcC K C ∧ ∀ f ∈ fn, PySem.W.takerIn K C f = some none ∧ PySem.W.findIn K (.ref C) f = some none := by
  unfold lookC at h
  simp only [Bool.and_eq_true, decide_eq_true_eq, List.all_eq_true] at h
  obtain ⟨h1, h2, h3, h4, h5, h6, h7, h8, h9, h10, h11, h12, h13, h14, h15, h16, h17, h18, h19, h20⟩ := h
  obtain ⟨cd, hc, hd⟩ := PySem.W.any_some h3
  exact ⟨⟨U, h1, h2, ⟨cd, hc, hd⟩, h4, h5, h6, h7, h8, h9, h10, h11, h12, h13⟩, ⟨h14, h15, h11, h3, h16, h17, h18, h19⟩, h20⟩
/-- by place; by names, the last first -/
def kwG {α : Type} (k : Nat) (us ws : List α) : List α := match us with
  | [a] => a :: (ws.take k).reverse
  | _ => []
/-- an own error class that the law may make -/
structure Err (P : Program) (w : World) (K : PySem.W.Frag) (mg : Str → Option Value) (base : Heap) (nm : Str) (fn : List Str) where
  C : Addr
  fI : Addr
  fd : FuncData
  B : String
  newId : String
  initId : String
  Bs : String
  bmB : List Value
  g : mg nm = some (.ref C)
  T : ExC K C fI B newId initId Bs bmB
  E : ExcC K C
  ok : FnOk P w K mg base CX0 1 fI fd ("self" :: fn) (spI C fn)
  fld : ∀ f ∈ fn, PySem.W.findIn K (.ref C) f = some none
  kb : KBinds K fd ("self" :: fn) [] (fun us _ => us) (fun vs _ => vs)
  kn : KBinds K fd ("self" :: fn) fn.reverse (kwG fn.length) (kwG fn.length)
theorem vals_rev : ∀ {vs : List V} {us : List Value}, Vals vs us → Vals vs.reverse us.reverse
  | _, _, .nil => .nil
  | _, _, .cons r t => by
    rw [List.reverse_cons, List.reverse_cons]
    exact (vals_rev t).append (.cons r .nil)
theorem kw_rel {k : Nat} {vs zs : List V} {us ws : List Value} (r : Vals vs us) (rz : Vals zs ws) : Vals (kwG k vs zs) (kwG k us ws) := by
  match vs, us, r with
  | _, _, .nil => exact .nil
  | _, _, .cons r1 .nil => exact .cons r1 (vals_rev (rz.take k))
  | _, _, .cons r1 (.cons r2 r3) => exact .nil
theorem uValue : Under "ValueError" "ValueError.__new__" "ValueError.__init__" "ValueError" [.type "ValueError", .type "Exception", .type "BaseException", .type "object"] :=
  ⟨⟨_, _, F.excBase_ValueError⟩, InitF.of F.excBase_ValueError.toExcCallFacts, PySem.W.kxs_ValueError, F.store_ValueError, by decide +kernel, by decide +kernel, by decide +kernel⟩
theorem uIndex : Under "IndexError" "IndexError.__new__" "IndexError.__init__" "IndexError" [.type "IndexError", .type "LookupError", .type "Exception", .type "BaseException", .type "object"] :=
  ⟨⟨_, _, F.excBase_IndexError⟩, InitF.of F.excBase_IndexError.toExcCallFacts, PySem.W.kxs_IndexError, PySem.F.store_IndexError, by decide +kernel, by decide +kernel, by decide +kernel⟩
theorem uOver : Under "OverflowError" "OverflowError.__new__" "OverflowError.__init__" "OverflowError" [.type "OverflowError", .type "ArithmeticError", .type "Exception", .type "BaseException", .type "object"] :=
  ⟨⟨_, _, F.excBase_OverflowError⟩, InitF.of F.excBase_OverflowError.toExcCallFacts, PySem.W.kxs_OverflowError, PySem.F.store_OverflowError, by decide +kernel, by decide +kernel, by decide +kernel⟩
theorem uRun : Under "RuntimeError" "RuntimeError.__new__" "RuntimeError.__init__" "RuntimeError" [.type "RuntimeError", .type "Exception", .type "BaseException", .type "object"] :=
  ⟨⟨_, _, F.excBase_RuntimeError⟩, InitF.of F.excBase_RuntimeError.toExcCallFacts, PySem.W.kxs_RuntimeError, PySem.F.store_RuntimeError, by decide +kernel, by decide +kernel, by decide +kernel⟩
abbrev keyTail : List Value := [.type "KeyError", .type "LookupError", .type "Exception", .type "BaseException", .type "object"]
theorem key_store : StoreFacts "KeyError" keyTail "object.__setattr__" "object" := by
  refine { mro := by kernel_rfl, slot := ?_, entry := PySem.F.entry_object_sa, kind := by decide +kernel, split := by decide +kernel, hasOwner := by decide +kernel, args := fun a b c => by unfold argsOk; kernel_rfl, passes := fun self => by kernel_rfl }
  refine Slot.of (owner := "object") (n := "__setattr__") ?_ (by decide +kernel) (by decide +kernel) (by decide +kernel) ?_ ?_
  · rw [typeLookup_type, builtinLookup_eq_fast]
    kernel_rfl
  · first | exact .inl (by decide +kernel) | exact .inr (by decide +kernel)
  · rw [isSubtype_type]
    kernel_rfl
theorem key_get : PySem.W.KxsFacts "KeyError" "KeyError.__init__" := by
  refine ⟨?_, ?_⟩
  · show builtinType _ = _
    rw [builtinType_eq_fast]
    kernel_rfl
  · first | kernel_rfl | rfl
theorem uKey : Under "LookupError" "LookupError.__new__" "KeyError.__init__" "KeyError" keyTail :=
  ⟨⟨_, _, F.excBase_LookupError⟩, ⟨excClass_KeyError.initKind, excClass_KeyError.initSig, excClass_KeyError.notStar, excClass_KeyError.init.plain, excClass_KeyError.initEntry⟩, key_get, key_store, by decide +kernel, by decide +kernel, by decide +kernel⟩
theorem nmOk {x : Str} (h : ((x == ("__debug__" : Str)) || (x == ("__classdict__" : Str))) = false) : Nm x := by
  rw [Bool.or_eq_false_iff] at h
  exact ⟨h.1, h.2⟩
/-- a new error that is raised -/
def tNewR (C : Addr) (fn : List Str) (ta : TA) : L2.St → Hp → XK → Prop := fun σ H Q => ta σ H fun vs H1 => vs.length ≤ 1000 ∧ vs.length = fn.length ∧ names fn vs ≠ [] ∧ ∀ d H', H1 d = none → Same H1 H' → H' d = some (.xd (names fn vs)) → Q (.ref C) (some d) H'
theorem pmk_new {X : Cx} {nm : Str} {fn : List Str} {p pos : Pos} {e : Expr} {es : List Expr} {ta : TA} (S : Err X.prog X.w X.K X.mg X.base nm fn) (hr : Room 2 X.A) (hg : Gl X nm) (ha : PA X (e :: es) ta)
    (hdb : (nm == ("__debug__" : Str)) = false := by decide) (he : starEach (e :: es) X.env = (false, eval e X.env) :: starEach es X.env := by rfl) (hpl : (backTo pos (starEach es X.env)).any (·.1) = false := by rfl) :
    PMk X (.Call (.Name nm p) (e :: es) [] pos) (tNewR S.C fn ta) := by
  intro pins s σ H Q I hyp
  refine wpAny_Call_Name_kw (ld_glob I hg S.g ?_ hdb)
  refine PySem.W.callWith_K (h₀ := X.base) I.ok.mod.kin S.T.kC (thn (ha.run pos pins s σ H _ I hyp) fun us s1 ⟨vs, H1, I1, r1, few, hl, hne, q1⟩ => ⟨I1.kIn, ?_⟩) he hpl
  refine EA.run_mk S.T S.ok hr S.kb I1 r1 few fun a na => ⟨a, vs, rfl, hl, upd_same, fun H2 gr en => ⟨rfl, .inl ?_⟩⟩
  rcases en with ⟨z, _⟩ | ⟨dx, ea, ed, nd⟩
  · exact (hne z).elim
  · have ne : dx ≠ a := fun e => by
      rw [e, upd_same] at nd
      cases nd
    have nd1 : H1 dx = none := by
      rw [upd_ne ne] at nd
      exact nd
    refine ⟨dx, _, ea, ed, nd1, q1 dx _ nd1 (fun b o hb => ?_) upd_same⟩
    have nba := ne_of_none hb na
    rw [upd_ne (ne_of_none hb nd1), del_ne nba]
    exact gr b o (by rw [upd_ne nba]; exact hb) nba
theorem ps_raiseN {X : Cx} {nm : Str} {fn : List Str} {p pos pos' : Pos} {e : Expr} {es : List Expr} {ta : TA} {W : WX} (hc : X.calm = true) (tk : Takes X W) (S : Err X.prog X.w X.K X.mg X.base nm fn) (hr : Room 2 X.A) (hg : Gl X nm) (ha : PA X (e :: es) ta)
    (hdb : (nm == ("__debug__" : Str)) = false := by decide) (he : starEach (e :: es) X.env = (false, eval e X.env) :: starEach es X.env := by rfl) (hpl : (backTo pos (starEach es X.env)).any (·.1) = false := by rfl) :
    PS X (.Raise (some (.Call (.Name nm p) (e :: es) [] pos)) none pos') (fun _ σ H => tNewR S.C fn ta σ H fun cls d H' => W cls d σ H') := ps_raise hc tk (pmk_new S hr hg ha hdb he hpl)
/-- e.f in the suite that caught it -/
def tByE (C : Addr) (a : Addr) (cls : Value) (d : Option Addr) (f : Str) (te : TE) : TE := fun σ H Q => te σ H fun x H1 => x = .ref a ∧ cls = .ref C ∧ ∃ (dd : Addr) (fs : List (Str × V)) (v : V), d = some dd ∧ H1 dd = some (.xd fs) ∧ fs.lookup f = some v ∧ Q v H1
theorem pe_byE {X : Cx} {C a : Addr} {oe : Obj} {cls : Value} {d : Option Addr} {pn : List (Addr × Obj)} {e : Expr} {te : TE} {pos : Pos} {f : Str} (T : ExcC X.K C) (no : PySem.W.findIn X.K (.ref C) f = some none) (hz : Zc cls d oe) (hf : ∃ vs, oe.data = .fields vs) (he : PE (X.suite a ((a, oe) :: pn)) e te)
    (hb : attributeBase e f X.env (eval e X.env) = eval e X.env := by rfl) :
    PE (X.suite a ((a, oe) :: pn)) (.Attribute e f pos) (tByE C a cls d f te) := by
  refine ⟨fun pins s σ H Q I h => ?_⟩
  refine attr_of hb (thn (he.run pins s σ H _ I h) fun u s1 hh => ?_)
  obtain ⟨x, H1, I1, rx, ex, ec, dd, fs, v, ed, ea, l, q⟩ := hh
  subst ex
  obtain rfl : u = Value.ref a := rx
  subst ec
  subst ed
  obtain ⟨ha, _⟩ := I1.pin (a, oe) (List.mem_append_left _ List.mem_cons_self)
  obtain ⟨vs, hd⟩ := hf
  have hx : ObjOk X.prog X.w H1 s1.heap dd (.xd fs) := I1.hok dd _ ea
  obtain ⟨mA, hns, hr⟩ := hx
  obtain ⟨od, ho, hl⟩ := lookIn_ns hns
  obtain ⟨u, hu, ru⟩ := RelO.some_of (v := v) (o := mA f) (by rw [← l]; exact hr f)
  have J : PySem.W.InstAt s1.heap a oe C (some od) := ⟨ha, hz.1, by unfold PySem.W.notCls; rw [hd] <;> rfl, by rw [hz.2]; exact ho⟩
  exact HandSPX.exc_get I1.kIn J T.hg T.hk T.hs (PySem.W.findObj_own T.hd no rfl (by rw [hl, hu])) (handed_of ru) ⟨v, H1, I1.tok _, ru, q⟩
/-- a def where the top has put it -/
def At (K : PySem.W.Frag) (x : Str) (st : Stmt) (f : Addr) : Prop :=
  PySem.W.nsIn K mainGlobals x = some (some (.ref f)) ∧ ∃ (od an : Option Addr) (sl : Array (Option Value)) (oc kV dc pm cd ct : Value),
    K.lookup f = some ⟨oc, od, .func (PySem.W.fnOf x x (defArgs st) (defBody st) (defScope st) .none kV dc pm an cd ct), sl⟩ ∧ PySem.W.codeIn K cd x = true ∧ PySem.W.keepIn K (.ref f) = true
theorem at_mk {K : PySem.W.Frag} {x : Str} {st : Stmt} {f : Addr} {od an : Option Addr} {sl : Array (Option Value)} {oc kV dc pm cd ct : Value} (a : PySem.W.nsIn K mainGlobals x = some (some (.ref f)))
    (l : K.lookup f = some ⟨oc, od, .func (PySem.W.fnOf x x (defArgs st) (defBody st) (defScope st) .none kV dc pm an cd ct), sl⟩) (c : PySem.W.codeIn K cd x = true) (k : PySem.W.keepIn K (.ref f) = true) : At K x st f := ⟨a, od, an, sl, oc, kV, dc, pm, cd, ct, l, c, k⟩
theorem At.fn {K : PySem.W.Frag} {x : Str} {st : Stmt} {f : Addr} (h : At K x st f) : ∃ fd, Fun K x x st f fd := by
  obtain ⟨_, od, an, sl, oc, kV, dc, pm, cd, ct, l, c, k⟩ := h
  exact ⟨_, fun_mk l c k⟩
/-- a class where the top has put it -/
def CAt (P : Program) (K : PySem.W.Frag) (nm ql : Str) (st : Stmt) (B newId initId : String) (bmB : List Value) (fn : List Str) (C fI : Addr) : Prop :=
  PySem.W.nsIn K mainGlobals nm = some (some (.ref C)) ∧ lookC K C fI B newId initId bmB fn = true ∧ ∃ fd, InitFn P K C fI ql (defArgs st) (defBody st) (defScope st) fd
theorem cat_mk {P : Program} {K : PySem.W.Frag} {nm ql : Str} {st : Stmt} {B newId initId : String} {bmB : List Value} {fn : List Str} {C fI cl cc : Addr} {od an od2 od3 : Option Addr} {sl sl2 sl3 : Array (Option Value)} {oc kV dc pm ct oc2 oc3 : Value} {fv : Array Value} {file : Str} {tf : Tok}
    (a : PySem.W.nsIn K mainGlobals nm = some (some (.ref C))) (i : PySem.W.findIn K (.ref C) "__init__" = some (some (.ref fI)))
    (l : K.lookup fI = some ⟨oc, od, .func (fnCl "__init__" ql (defArgs st) (defBody st) (defScope st) kV dc pm an (.ref cc) ct cl), sl⟩) (c : PySem.W.codeIn K (.ref cc) ql = true)
    (m : K.lookup cl = some ⟨oc2, od2, .cell (some (.ref C)), sl2⟩) (n : K.lookup cc = some ⟨oc3, od3, .fields fv, sl3⟩) (o : fv[2]? = some (.str file tf)) (p : ((P.main.file : Str) == file) = true) (top : (P.main.scope.names.lookup ("super" : Str)).isSome = false)
    (q : lookC K C fI B newId initId bmB fn = true) : CAt P K nm ql st B newId initId bmB fn C fI :=
  ⟨a, q, _, ⟨oc, kV, dc, pm, .ref cc, ct, od, an, sl, cl, cc, _, _, fv, file, tf, rfl, l, c, m, rfl, rfl, n, rfl, o, p⟩, top⟩
end EE

set_option maxHeartbeats 4000000
/-! comprehensions over anything whose items are known: each item turned, some left out -/
namespace LC
open PySem PySem.Spec PyProof.Rows L2 G3
theorem small_line {n : Nat} (h : n ≤ 1000000) : n < sizeLine := Nat.lt_of_le_of_lt h (by decide)
section
variable {J : It} {G : Hp → Prop} {xs : List V} {g : TG} {tt : TT} {te : TE} {vs : List Nat} {σ : L2.St} {H1 : Hp} {D : Addr} {Qd : Hp → Prop}
theorem lc_map (w : Walk J xs.length G (YAt xs)) (hG : ∀ H, Same H1 H → G H) (len : xs.length ≤ 100000) (nD : H1 D = none) (f : V → V)
    (turn : ∀ x H (R : V → Hp → Prop), x ∈ xs → Same H1 H → (∀ H', Same H H' → R (f x) H') → g x (wipe σ vs) H fun σ2 H2 => wipe σ2 vs = wipe σ vs ∧ te σ2 H2 R)
    (fin : ∀ H', Same H1 H' → H' D = some (.lst (xs.map f)) → Qd H') :
    ∃ W : Nat → Nat → Hp → Prop, (∃ m, W 0 m (upd H1 D (.lst []))) ∧ ∀ i m H, W i m H →
      (J.stop i H ∧ Qd H) ∨ (J.go i H ∧ ∃ Nx : Hp → Prop, (∀ H', Nx H' → ∃ m', m' < m ∧ W (i + 1) m' H') ∧ ∀ x H', J.yld i H x H' → g x (wipe σ vs) H' fun σ2 H2 => wipe σ2 vs = wipe σ vs ∧ tYes σ2 H2 fun b H3 =>
        if b = true then te σ2 H3 fun y H4 => ∃ acc, H4 D = some (.lst acc) ∧ acc.length < sizeLine ∧ Nx (upd H4 D (.lst (acc ++ [y]))) else Nx H3) := by
  refine lc_it w (fun i H => Same H1 H ∧ H D = some (.lst ((xs.take i).map f))) ⟨same_new nD, upd_same⟩ (fun i H _ h => hG H h.1) (fun i x H H' hi h y => ?_) (fun H h => fin H h.1 ?_)
  · obtain ⟨rfl, ex⟩ := y
    have t := turn x H' (fun y H4 => ∃ acc, H4 D = some (.lst acc) ∧ acc.length < sizeLine ∧ (Same H1 (upd H4 D (.lst (acc ++ [y]))) ∧ (upd H4 D (.lst (acc ++ [y]))) D = some (.lst ((xs.take (i + 1)).map f)))) (List.mem_of_getElem? ex) h.1 (fun H5 s => ?_)
    · dsimp only [tYes]
      simp only [if_true]
      exact t
    · refine ⟨_, s _ _ h.2, ?_, same_put (h.1.trans s) nD, ?_⟩
      · rw [List.length_map, List.length_take]
        exact small_line (by omega)
      · rw [upd_same, List.take_succ, ex]
        simp
  · have e : xs.take xs.length = xs := List.take_length
    rw [e] at h
    exact h.2
theorem lc_sift (w : Walk J xs.length G (YAt xs)) (hG : ∀ H, Same H1 H → G H) (len : xs.length ≤ 100000) (nD : H1 D = none) (p : V → Bool)
    (turn : ∀ x H (R : L2.St → Bool → Hp → Prop), x ∈ xs → Same H1 H → (∀ σ2 H', Same H H' → (∀ Q' : VK, Q' x H' → te σ2 H' Q') → R σ2 (p x) H') → g x (wipe σ vs) H fun σ2 H2 => wipe σ2 vs = wipe σ vs ∧ tt σ2 H2 (R σ2))
    (fin : ∀ H', Same H1 H' → H' D = some (.lst (xs.filter p)) → Qd H') :
    ∃ W : Nat → Nat → Hp → Prop, (∃ m, W 0 m (upd H1 D (.lst []))) ∧ ∀ i m H, W i m H →
      (J.stop i H ∧ Qd H) ∨ (J.go i H ∧ ∃ Nx : Hp → Prop, (∀ H', Nx H' → ∃ m', m' < m ∧ W (i + 1) m' H') ∧ ∀ x H', J.yld i H x H' → g x (wipe σ vs) H' fun σ2 H2 => wipe σ2 vs = wipe σ vs ∧ tt σ2 H2 fun b H3 =>
        if b = true then te σ2 H3 fun y H4 => ∃ acc, H4 D = some (.lst acc) ∧ acc.length < sizeLine ∧ Nx (upd H4 D (.lst (acc ++ [y]))) else Nx H3) := by
  refine lc_it w (fun i H => Same H1 H ∧ H D = some (.lst ((xs.take i).filter p))) ⟨same_new nD, upd_same⟩ (fun i H _ h => hG H h.1) (fun i x H H' hi h y => ?_) (fun H h => fin H h.1 ?_)
  · obtain ⟨rfl, ex⟩ := y
    have tk : xs.take (i + 1) = xs.take i ++ [x] := by rw [List.take_succ, ex]; rfl
    refine turn x H' (fun σ2 b H3 => if b = true then te σ2 H3 fun y H4 => ∃ acc, H4 D = some (.lst acc) ∧ acc.length < sizeLine ∧ (Same H1 (upd H4 D (.lst (acc ++ [y]))) ∧ (upd H4 D (.lst (acc ++ [y]))) D = some (.lst ((xs.take (i + 1)).filter p)))
      else Same H1 H3 ∧ H3 D = some (.lst ((xs.take (i + 1)).filter p))) (List.mem_of_getElem? ex) h.1 (fun σ2 H5 s t => ?_)
    refine ite2 (fun e1 => ?_) (fun e1 => ?_)
    · refine t _ ⟨_, s _ _ h.2, ?_, same_put (h.1.trans s) nD, ?_⟩
      · have z := List.length_filter_le p (xs.take i)
        rw [List.length_take] at z
        exact small_line (by omega)
      · rw [upd_same, tk, List.filter_append, List.filter_cons_of_pos (p := p) e1]
        rfl
    · refine ⟨h.1.trans s, ?_⟩
      rw [tk, List.filter_append, List.filter_cons_of_neg (p := p) e1, List.filter_nil, List.append_nil]
      exact s _ _ h.2
  · have e : xs.take xs.length = xs := List.take_length
    rw [e] at h
    exact h.2
end
/-- the signs of a text -/
def sgn (z : Str) : List V := z.cps.toList.map fun c => V.str ⟨#[c]⟩
theorem walk_sgn (z : Str) : Walk (Its z) (sgn z).length (fun _ => True) (YAt (sgn z)) := by
  have e : (sgn z).length = z.cps.size := by
    unfold sgn
    rw [List.length_map, Array.length_toList]
  rw [e]
  refine (walk_str (z := z)).mono (fun _ h => h) fun i H x H' hi _ y => ?_
  obtain ⟨e1, c, hc, rfl⟩ := y
  refine ⟨e1, ?_⟩
  unfold sgn
  rw [List.getElem?_map, Array.getElem?_toList, hc]
  rfl
end LC

set_option maxHeartbeats 4000000
/-! what any law about programs needs: dead branches, d.copy(), programs as data -/
namespace PA
open PySem PySem.Spec PyProof.Rows L2 G3 M0
section
variable {X : Cx}
/-- what is never come to -/
theorem ps_dead {st : Stmt} : PS X st (fun _ _ _ => False) := ⟨fun _ _ _ _ _ _ h => h.elim⟩
theorem pe_dead {e : Expr} : PE X e (fun _ _ _ => False) := ⟨fun _ _ _ _ _ _ h => h.elim⟩
/-- d.copy() -/
theorem mt_copy : MtR X "dict.copy" (fun x xs H Q => ∃ a kvs, x = .ref a ∧ xs = [] ∧ H a = some (.dK kvs) ∧ ∀ p, H p = none → Q (.ref p) (upd H p (.dK kvs))) := by
  intro pins s σ H x xs v us Q I rx rs h
  obtain ⟨a, kvs, rfl, rfl, ha, q⟩ := h
  obtain rfl : v = Value.ref a := rx
  cases rs
  obtain ⟨z, hd, vs, rel, dd⟩ := dk_rd I.hok (.inl ha)
  refine call_meetsIn F.slot_dict_copy dd.typeIs F.entry_dict_copy (F.args_dict_copy_1 _) (meets_dict_copy (mixKind X.prog X.w) a hd) ⟨vs, dd, by rw [← rel.length]; exact z, fun h' dn _ keep => ?_⟩
  refine ⟨.ref s.heap.objs.size, _, I.laid (a := s.heap.objs.size) (o := .dK kvs) (t' := s.toks) keep (Nat.le_refl _) (dk_new z (beq_eq_false_iff_ne.mpr (Ne.symm (Nat.ne_of_lt I.big))) rel dn), rfl, q _ (I.hok.fresh (Nat.le_refl _))⟩
end
/-- a def that is never called -/
theorem fn_never {P : Program} {w : World} {K : PySem.W.Frag} {mg : Str → Option Value} {base : Heap} {CX : CXT} {k : Nat} {f : Addr} {fd : FuncData} {ps : List Str} : FnOk P w K mg base CX k f fd ps (fun _ _ _ _ => False) :=
  ⟨fun _ _ _ _ h => h.elim, fun _ _ _ _ _ _ _ _ _ _ _ _ _ h => h.elim⟩
theorem take_fresh {α β : Type} (f : α → β) {l : List α} {i : Nat} {b : α} (nd : (l.map f).Nodup) (h : l[i]? = some b) : ∀ e ∈ l.take i, f e ≠ f b := by
  have hi := (List.getElem?_eq_some_iff.mp h).1
  have e1 : l.map f = (l.take i).map f ++ (l.drop i).map f := by rw [← List.map_append, List.take_append_drop]
  rw [e1, List.nodup_append] at nd
  intro e he
  refine nd.2.2 _ (List.mem_map_of_mem he) _ (List.mem_map_of_mem ?_)
  rw [List.drop_eq_getElem_cons hi, (List.getElem?_eq_some_iff.mp h).2]
  exact List.mem_cons_self
/-! ### programs -/
inductive Src where
  | to (n : Int)
  | of (b : Str)
  | on (n : Int)
  | any
inductive Row where
  | set (b : Str) (s : Src)
  | ift (b : Str) (v r : Int)
  | go (rs : List Int)
  | call (t : Str)
  | back
  | wait (b : Str) (v : Int)
  | begin (h : Str)
  | fault
abbrev Box := Str × Int
abbrev Text := Str × List Row
abbrev Hand := Str × List Box × List Text
abbrev Prog := List Box × List Hand
def Src.data : Src → PyData
  | .to n => .tuple [.str "to", .int n]
  | .of b => .tuple [.str "of", .str b]
  | .on n => .tuple [.str "on", .int n]
  | .any => .tuple [.str "any"]
def Row.data : Row → PyData
  | .set b s => .tuple [.str "set", .str b, s.data]
  | .ift b v r => .tuple [.str "if", .str b, .int v, .int r]
  | .go rs => .tuple [.str "go", .tuple (rs.map .int)]
  | .call t => .tuple [.str "call", .str t]
  | .back => .tuple [.str "back"]
  | .wait b v => .tuple [.str "wait", .str b, .int v]
  | .begin h => .tuple [.str "begin", .str h]
  | .fault => .tuple [.str "fault"]
def boxD (b : Box) : PyData := .tuple [.str b.1, .int b.2]
def boxesD (bs : List Box) : PyData := .tuple (bs.map boxD)
def rowsD (rs : List Row) : PyData := .tuple (rs.map Row.data)
def textD (t : Text) : PyData := .tuple [.str t.1, rowsD t.2]
def handD (h : Hand) : PyData := .tuple [.str h.1, boxesD h.2.1, .tuple (h.2.2.map textD)]
def progD (p : Prog) : PyData := .tuple [boxesD p.1, .tuple (p.2.map handD)]
/-- small letters, one to eight -/
def nameB (z : Str) : Bool := decide (z.length ≤ 8) && (Txt.isascii z && (Txt.isalpha z && Txt.islower z))
def size? (bs : List Box) (b : Str) : Option Int := (bs.find? fun x => decide (x.1 = b)).map (·.2)
def SrcOk (bs : List Box) (b : Str) (size : Int) : Src → Prop
  | .to n => 0 ≤ n ∧ n < size
  | .of o => o ≠ b ∧ ∃ m, size? bs o = some m ∧ m ≤ size
  | .on n => 1 ≤ n ∧ n ≤ 3
  | .any => True
def Rising (a : Int) : List Int → Prop
  | [] => True
  | b :: r => a < b ∧ Rising b r
def RowOk (bs : List Box) (titles others : List Str) (many : Int) : Row → Prop
  | .set b s => ∃ n, size? bs b = some n ∧ SrcOk bs b n s
  | .ift b v r => ∃ n, size? bs b = some n ∧ 0 ≤ v ∧ v < n ∧ 0 ≤ r ∧ r ≤ many
  | .go rs => 1 ≤ rs.length ∧ rs.length ≤ 4 ∧ Rising (-1) rs ∧ ∀ r ∈ rs, r ≤ many
  | .call t => t ∈ titles
  | .back => True
  | .wait b v => ∃ n, size? bs b = some n ∧ 0 ≤ v ∧ v < n
  | .begin h => h ∈ others
  | .fault => True
structure BoxesOk (bs : List Box) (most : Nat) (great : Int) (ahead : List Str) : Prop where
  len : bs.length ≤ most
  nm : ∀ b ∈ bs, nameB b.1 = true ∧ 1 ≤ b.2 ∧ b.2 ≤ great ∧ b.1 ∉ ahead
  nd : (bs.map (·.1)).Nodup
structure TextsOk (bs : List Box) (others : List Str) (ts : List Text) : Prop where
  one : 1 ≤ ts.length
  few : ts.length ≤ 32
  nm : ∀ t ∈ ts, nameB t.1 = true ∧ 1 ≤ t.2.length ∧ t.2.length ≤ 2000
  nd : (ts.map (·.1)).Nodup
  row : ∀ t ∈ ts, ∀ r ∈ t.2, RowOk bs (ts.map (·.1)) others t.2.length r
structure ProgOk (p : Prog) : Prop where
  box : BoxesOk p.1 8 4 []
  one : 1 ≤ p.2.length
  few : p.2.length ≤ 4
  nm : ∀ h ∈ p.2, nameB h.1 = true
  nd : (p.2.map (·.1)).Nodup
  own : ∀ h ∈ p.2, BoxesOk h.2.1 24 8 (p.1.map (·.1))
  txt : ∀ h ∈ p.2, TextsOk (p.1 ++ h.2.1) ((p.2.map (·.1)).filter fun z => decide (z ≠ h.1)) h.2.2
end PA

set_option maxHeartbeats 4000000
/-! set(xs), xs a list of ints, as a value; sorted of it -/
namespace SL
open PySem PySem.Spec PyProof.Rows L2
/-- the set as it is born -/
abbrev born (w : World) : Obj := { cls := .type "set", dict := none, data := .set #[] 0 (.fresh 0 0 (!w.params.followText "set-order")) }
section
variable {P : Program} {w : World} {A : Around} {E : Value → Shared → Prop} {s : Shared}
theorem val_of {its : Array Value} {ns : List Int} (hi : IntsAre its.toList ns) (z : its.size = ns.length) : ∀ (i : Nat) (v : Value), its[i]? = some v → ∃ k t, ns[i]? = some k ∧ v = .int k t := fun i v e => by
  have lt : i < ns.length := z ▸ (Array.getElem?_eq_some_iff.mp e).1
  obtain ⟨t, q⟩ := PyProof.Rows.IntsAre.int_at hi i v (by rw [Array.getElem?_toList]; exact e)
  refine ⟨ns[i], t, List.getElem?_eq_getElem lt, ?_⟩
  rw [q, List.getD_eq_getElem?_getD, List.getElem?_eq_getElem lt] <;> rfl
/-- what stands once the set is filled -/
def Filled (w : World) (s : Shared) (ns : List Int) (s2 : Shared) : Prop := ∃ h' tk c, s2 = { s with heap := h', toks := tk } ∧ SetR w h' s.heap.objs.size (fun j => decide (j ∈ ns)) c ∧ c ≤ ns.length ∧ ∀ b o, s.heap.get? b = some o → h'.get? b = some o
set_option maxHeartbeats 8000000 in
theorem call_set_listI {l : Addr} {its : Array Value} (ns : List Int) {Q : Value → Shared → Prop} (hh : A.handled = none) (hl : s.heap.IsList l its) (hi : IntsAre its.toList ns) (few : ns.length + 1 < scanBound) (h : ∀ s2, Filled w s ns s2 → Q (.ref s.heap.objs.size) s2) :
    wpAny (model P w) A (call (.type "set") [.ref l]) Q E s := by
  have z : its.size = ns.length := by
    have q := IntsAre.length hi
    rwa [Array.length_toList] at q
  obtain ⟨c, tl, hmro⟩ := F.called_set.mro
  have hmade := F.called_set.made
  have hsub := F.called_set.sub
  refine wpAny_call (codeAny_of_tree ?_)
  show wpAny _ _ (callAny (.type "set") _) _ _ _
  refine wpAny_pure ⟨Code.quiet_builtin _ (by decide +kernel), codeAny_builtin F.entry_type_call ?_⟩
  rw [Around.under_plain (weight_type_call_type "set" [.ref l] []) rfl]
  have h1 := F.called_set.notType
  have h2 := F.called_set.canCreate
  have hct := F.typeCall_set_1 (.ref l)
  repeat (any_goals (first | assumption | wp_step))
  refine codeAny_mono (code_set_led1 (.ref l) (E := E) (Q₁ := fun obj s₁ => obj = .ref s.heap.objs.size ∧ s₁ = { s with heap := s.heap.push (born w) }) ⟨rfl, rfl⟩) fun r s₁ hr => ?_
  cases r with
  | error e => exact hr
  | ok fl =>
    cases fl with
    | ret obj =>
      obtain ⟨rfl, rfl⟩ := hr
      have new : (s.heap.push (born w)).get? s.heap.objs.size = some (born w) := Heap.get?_push_size _ rfl
      have hT : Shared.TypeIs { s with heap := s.heap.push (born w) } (.ref s.heap.objs.size) "set" := ⟨_, new, rfl⟩
      have hli := F.called_set.init.lookup
      have hbi := F.called_set.init.bind (.ref s.heap.objs.size)
      repeat (any_goals (first | assumption | wp_step))
      refine codeAny_mono (codeAny_call_builtin (R := wants (fun r s₂ => r = .none ∧ Filled w s ns s₂) E) F.called_set.init.plain F.entry_set_init (check_set_init_1 hT ?_)) fun r₂ s₂ hr₂ => ?_
      · obtain ⟨⟨ocls, odict, odata, oslots⟩, hol, hcl, nl, hdl⟩ := hl
        simp only at hcl hdl
        subst hcl; subst hdl
        have lt : l < s.heap.objs.size := Heap.lt_size hol
        have hol' : (s.heap.push (born w)).get? l = some { cls := .type "list", dict := odict, data := .seq its nl, slots := oslots } := Heap.get?_push_of_some _ hol
        have hsls := F.sub_list_set
        have hslf := F.sub_list_frozenset
        have hne : (Value.type "list" == Value.type "dict") = false := by decide
        have hl1 : (s.heap.push (born w)).IsList l its := ⟨_, hol', rfl, nl, rfl⟩
        unfold Builtin.«set.__init__» noKeywords Builtin.Frozenset.updateFrom
        generalize hPI : pyIter = PI
        wp_walk
        subst hPI
        refine wpAny_pyIter_list hl1 ?_
        refine wpAny_bind (wpAny_runValue ?_)
        have hh3 : A.in1.in1.in1.handled = none := by simp [hh]
        have hz : (s.heap.push (born w)).objs.size = s.heap.objs.size + 1 := Heap.size_push ..
        have hneI : l ≠ (s.heap.push (born w)).objs.size := by rw [hz]; exact Nat.ne_of_lt (Nat.lt_succ_of_lt lt)
        have out : s.heap.objs.size ∉ [(s.heap.push (born w)).objs.size, l] := by
          rw [hz]
          simp only [List.mem_cons, List.mem_singleton, List.not_mem_nil, or_false, not_or]
          exact ⟨Nat.ne_of_lt (Nat.lt_succ_self _), Nat.ne_of_gt lt⟩
        refine set_update_ints ((Walks.list hh3 _ l hneI its).toS) s.heap.objs.size out ns z few (val_of hi z) (its.size - 0) 0 _ (by omega) (Nat.zero_le _) ⟨⟨_, Heap.get?_push_size _ rfl, rfl, rfl⟩, (hl1.push _)⟩
          ⟨0, Nat.le_refl 0, setR_new_at (Heap.get?_push_of_some _ new)⟩ fun s' c' hm hc' hS' => ?_
        obtain ⟨h', g2, d', tk', os'⟩ := s'
        obtain rfl : g2 = s.gens := hm.gens
        obtain rfl : d' = s.drawn := hm.drawn
        obtain rfl : os' = s.os := hm.os
        show wpAny _ _ _ _ _ _
        refine wpAny_pure ?_
        show wpAny _ _ (ret Value.none) _ _ _
        refine wpAny_pure ⟨rfl, h', tk', c', rfl, hS', z ▸ hc', fun b o e => ?_⟩
        have hb0 : b < s.heap.objs.size := Heap.lt_size e
        refine hm.heap b o ?_ (Heap.get?_push_of_some _ (Heap.get?_push_of_some _ e))
        rw [hz]
        simp only [List.mem_cons, List.mem_singleton, List.not_mem_nil, or_false, not_or]
        exact ⟨Nat.ne_of_lt hb0, Nat.ne_of_lt (Nat.lt_succ_of_lt hb0)⟩
      · cases r₂ with
        | error e => exact hr₂
        | ok fl₂ =>
          cases fl₂ with
          | ret r =>
            obtain ⟨rfl, hF⟩ := hr₂
            repeat (any_goals (first | assumption | wp_step))
            exact h _ hF
          | _ => exact hr₂.elim
    | _ => exact hr.elim
end
section
variable {X : Cx}
def rSetL (K : PySem.W.Frag) (w : World) : List V → Hp → VK → Prop := fun vs H Q => ∃ (t : Addr) (ns : List Int), vs = [.ref t] ∧ SqL K H t (ns.map V.int) ∧ ns.length < 60 ∧
  ∀ a c, H a = none → c ≤ ns.length → Q (.ref a) (upd H a (SetO w a (fun j => decide (j ∈ ns)) c))
theorem cr_setL (calm : X.calm = true) : CallR X (.type "set") (rSetL X.K X.w) := by
  intro pins s σ H vs us Q I r ⟨t, ns, e, ht, few, q⟩
  subst e
  rw [Vals.ref1 r]
  obtain ⟨its, rv, pl, hz⟩ := I.list ht
  refine call_set_listI ns (I.ok.hd calm) pl.isList (by simpa using ints_of_vals rv) (by unfold scanBound; omega) fun s2 ⟨h1, tk, c, e, R, le, old⟩ => ?_
  subst e
  exact ⟨.ref s.heap.objs.size, _, I.laid (t' := tk) old (Nat.le_refl _) (setO_new R), rfl, q _ c (I.hok.fresh (Nat.le_refl _)) le⟩
end
end SL

set_option maxHeartbeats 4000000
/-! tuple * 0, tuple * 1 -/
namespace TM
open PySem PySem.Spec PyProof.Rows L2
theorem mul_one (l : Addr) (its : Array Value) (n : Nat) (dd : Option Addr) (sl : Array (Option Value)) (u : Tok) :
    Meets (Builtin.«tuple.__mul__» ⟨[.ref l, .int 1 u], []⟩) (fun _ R s => s.heap.get? l = some { cls := .type "tuple", dict := dd, data := .seq its n, slots := sl } ∧ R (.ok (.ret (Value.ref l))) s) :=
  .of_wp fun prog w A R s h => by
    obtain ⟨hp, g, d, tk, os⟩ := s
    obtain ⟨hl, h⟩ := h
    have f1 := AutoSeq1.idx_int
    wp_walk using wpAny_loadPart' hl
    exact ⟨_, rfl, h⟩
theorem mul_nought (l : Addr) (its : Array Value) (n : Nat) (dd : Option Addr) (sl : Array (Option Value)) (u : Tok) (c1 : (its.isEmpty || (0 : Int) == 1) = false) :
    Meets (Builtin.«tuple.__mul__» ⟨[.ref l, .int 0 u], []⟩) (fun _ R s => s.heap.get? l = some { cls := .type "tuple", dict := dd, data := .seq its n, slots := sl } ∧
      R (.ok (.ret (Value.ref s.heap.objs.size))) { s with heap := s.heap.push { cls := Value.type "tuple", data := Data.seq #[] }, toks := s.toks }) :=
  .of_wp fun prog w A R s h => by
    obtain ⟨hp, g, d, tk, os⟩ := s
    obtain ⟨hl, h⟩ := h
    have f1 := AutoSeq1.idx_int
    wp_walk using wpAny_loadPart' hl
    repeat (first
      | (refine wpAny_ite_false (decide_eq_false (by rw [c1]; exact Bool.false_ne_true)) ?_; wp_walk using wpAny_loadPart' hl))
    exact ⟨_, rfl, h⟩
def rRep01 (K : PySem.W.Frag) : R2 := fun x y H Q => ∃ l k xs, x = .ref l ∧ y = .int k ∧ SqT K H l xs ∧ xs ≠ [] ∧ ((k = 1 ∧ Q (.ref l) H) ∨ (k = 0 ∧ ∀ p, H p = none → Q (.ref p) (upd H p (.tup []))))
section
variable {X : Cx}
theorem op_rep01 : OpR X (binaryOp .Mult) (rRep01 X.K) := by
  intro pins s σ H x y v u Q I rx ry h
  obtain ⟨l, k, xs, rfl, rfl, hT, hne, h⟩ := h
  cases rx
  obtain ⟨t, rfl⟩ := ry
  obtain ⟨its, r, ⟨⟨cls, dd, data, sl⟩, ho, hc, n, hd⟩, hs⟩ := I.tuple hT
  simp only at hc hd
  subst hc hd
  have hle : its.length = xs.length := r.length.symm
  have hi : its.toArray.isEmpty = false := by
    cases its with
    | nil => exact absurd (List.eq_nil_of_length_eq_zero hle.symm) hne
    | cons a b => rfl
  refine wpAny_binaryOp_repeat_ref (T := "tuple") (U := "int") (by decide) ⟨_, ho, rfl⟩ (fun s' => typeIs_int s' k t) noFill_tuple_mul F.fills_int_mul F.slot_int_rmul repeat_tuple F.slot_int_index.lookup
    (call_meets F.slot_int_rmul (typeIs_int s k t) F.entry_int_rmul (F.args_int_rmul_2 _ _) (int_rmul_tuple k t l its.toArray n dd sl) ⟨ho, rfl, ⟨_, ho, rfl⟩, ?_⟩)
  rcases h with ⟨rfl, q⟩ | ⟨rfl, q⟩
  · exact call_meets F.slot_tuple_mul ⟨_, ho, rfl⟩ F.entry_tuple_mul (F.args_tuple_mul_2 _ _) (mul_one l its.toArray n dd sl t) ⟨ho, .ref l, H, I, rfl, q⟩
  · refine call_meets F.slot_tuple_mul ⟨_, ho, rfl⟩ F.entry_tuple_mul (F.args_tuple_mul_2 _ _) (mul_nought l its.toArray n dd sl t (by rw [hi]; rfl)) ⟨ho, ?_⟩
    exact ⟨.ref s.heap.objs.size, _, I.laid (t' := s.toks) (o := .tup []) (fun b ob q => Heap.get?_push_of_some _ q) (Nat.le_refl _) ⟨Nat.zero_le _, [], .nil, IsTup.new _ _⟩, rfl, q _ (I.hok.fresh (Nat.le_refl _))⟩
end
end TM

set_option maxHeartbeats 4000000
namespace PP
open PySem PySem.Spec PyProof.Rows L2
def topS (i : Nat) : Stmt := PySem.Challenge.pw_fewturnsover_k27_limits_told.main.body.getD i (.Pass ⟨0, 0, 0, 0⟩)
abbrev s_TurnsError : Stmt := EE.initOf (topS 1)
abbrev s_NoProgram : Stmt := EE.initOf (topS 2)
abbrev s_NoLimit : Stmt := EE.initOf (topS 3)
abbrev s_NoHand : Stmt := EE.initOf (topS 4)
abbrev s_is_whole : Stmt := topS 7
abbrev s_is_between : Stmt := topS 9
abbrev s_is_tuple : Stmt := topS 10
abbrev s_is_from_nought : Stmt := topS 12
abbrev s_is_source : Stmt := topS 14
abbrev s_are_ways : Stmt := topS 15
abbrev s_are_rows : Stmt := topS 16
abbrev s_are_boxes : Stmt := topS 25
abbrev s_scopes_of : Stmt := topS 26
abbrev s_are_all_rows : Stmt := topS 27
abbrev s_is_row_of : Stmt := topS 28
abbrev s_refuse_first_wrong : Stmt := topS 29
abbrev s_look_at_program : Stmt := topS 30
abbrev s_is_hand : Stmt := topS 31
abbrev s_put_together : Stmt := topS 33
abbrev s_is_number : Stmt := topS 35
abbrev s_is_limit_of : Stmt := topS 36
abbrev s_is_limit : Stmt := topS 37
abbrev s_limit_of : Stmt := topS 38
abbrev s_one_less : Stmt := topS 39
abbrev s_less : Stmt := topS 40
abbrev s_is_no_less : Stmt := topS 41
abbrev s_covers : Stmt := topS 42
abbrev s_is_within : Stmt := topS 43
abbrev s_law_pool : Stmt := topS 45
abbrev s_law_take : Stmt := topS 46
abbrev s_law_source : Stmt := topS 47
abbrev s_law_row : Stmt := topS 48
abbrev s_law_texts : Stmt := topS 49
abbrev s_law_program : Stmt := topS 50
abbrev s_law_number : Stmt := topS 51
abbrev s_law_bound : Stmt := topS 52
abbrev s_law_is_number : Stmt := topS 53
abbrev s_law_is_bound : Stmt := topS 54
abbrev s_law_odd_right : Stmt := topS 55
abbrev s_law_lower : Stmt := topS 56
abbrev s_law_spans : Stmt := topS 57
abbrev s_law_counts : Stmt := topS 58
abbrev s_law : Stmt := topS 59
structure Def (P : Program) (w : World) (K : PySem.W.Frag) (mg : Str → Option Value) (base : Heap) (CX : CXT) (k : Nat) (x : Str) (ps : List Str) (sp : Sp) where
  f : Addr
  d : FuncData
  ok : FnOk P w K mg base CX k f d ps sp
  g : mg x = some (.ref f)
  kp : PySem.W.keepIn K (.ref f) = true
  b : Binds K d ps []
end PP

set_option maxHeartbeats 4000000
namespace PP
open PySem PySem.Spec PyProof.Rows L2 G3 M0 PA
theorem small_le {n : Nat} (h : n ≤ 1000000) : n ≤ sizeLine := Nat.le_trans h (by decide)
theorem small_lt {n : Nat} (h : n ≤ 1000000) : n < sizeLine := Nat.lt_of_le_of_lt h (by decide)
theorem upd_id {H : Hp} {a : Addr} {o : HO} (h : H a = some o) : upd H a o = H := by
  funext b
  by_cases e : b = a
  · rw [e, upd_same, h]
  · rw [upd_ne e]
section
variable {X : Cx}
theorem op_isIB : OpR X (compareOp .Is) (fun x y H Q => ∃ i b, x = .int i ∧ y = .bl b ∧ Q (.bl false) H) := by
  intro pins s σ H x y v u Q I rx ry h
  obtain ⟨i, b, rfl, rfl, q⟩ := h
  obtain ⟨t, rfl⟩ := rx
  cases (show u = Value.bool b from ry)
  exact wpAny_is_other rfl (fun z => nomatch z) ⟨.bl false, H, I, rfl, q⟩
end
def boxK (b : Box) : Key × V := (Sum.inr b.1, .int b.2)
theorem val_boxes (kvs : List (Key × V)) : ∀ (bs : List Box) (z : Str), valV kvs (Sum.inr z) = none → (∀ b ∈ bs, b.1 ≠ z) → valV (kvs ++ bs.map boxK) (Sum.inr z) = none := by
  intro bs z h hb
  unfold valV at h ⊢
  rw [Option.map_eq_none_iff] at h ⊢
  rw [List.find?_eq_none] at h ⊢
  intro kv hm
  rcases List.mem_append.mp hm with m | m
  · exact h kv m
  · obtain ⟨b, hb1, rfl⟩ := List.mem_map.mp m
    intro e
    exact hb b hb1 (Sum.inr.inj (of_decide_eq_true e))
theorem dp2 {K : PySem.W.Frag} {H : Hp} {v : V} {d e : PyData} (h : Dp K H v (.tuple [d, e])) : ∃ a x y, v = .ref a ∧ SqT K H a [x, y] ∧ Dp K H x d ∧ Dp K H y e := by
  cases h with
  | tup hs ha =>
    cases ha with
    | cons h1 h2 =>
      cases h2 with
      | cons h3 h4 =>
        cases h4
        exact ⟨_, _, _, rfl, hs, h1, h3⟩
theorem dp_tup {K : PySem.W.Frag} {H : Hp} {v : V} {ds : List PyData} (h : Dp K H v (.tuple ds)) : ∃ a xs, v = .ref a ∧ SqT K H a xs ∧ DpAll K H xs ds := by
  cases h with
  | tup hs ha => exact ⟨_, _, rfl, hs, ha⟩
theorem dp_str {K : PySem.W.Frag} {H : Hp} {v : V} {z : Str} (h : Dp K H v (.str z)) : v = .str z := by
  cases h
  rfl
theorem dp_int {K : PySem.W.Frag} {H : Hp} {v : V} {z : Int} (h : Dp K H v (.int z)) : v = .int z := by
  cases h
  rfl
def isStr : PyData → Bool
  | .str _ => true
  | _ => false
theorem kit_str (K : PySem.W.Frag) {v : V} {H : Hp} {d : PyData} (h : Dp K H v d) : PySem.W.kitOne K (.type (tyName d)) (.type "str") = some (isStr d) := by
  cases h <;> kernel_rfl
/-- changes at a dict keep the tuples -/
theorem dict_tup {K : PySem.W.Frag} {H : Hp} {a b : Addr} {kvs kvs2 : List (Key × V)} {xs : List V} (hd : H a = some (.dK kvs)) (h : SqT K H b xs) : SqT K (upd H a (.dK kvs2)) b xs := by
  rcases h with (h | ⟨o, h⟩) | h
  · exact .inl (.inl (by rw [upd_ne (ne_of h hd (by intro z; cases z))]; exact h))
  · exact .inl (.inr ⟨o, by rw [upd_ne (ne_of h hd (by intro z; cases z))]; exact h⟩)
  · exact .inr h
abbrev nBoxes : List Str := ["thing", "most", "greatest", "sizes", "box", "name", "size"]
theorem scBoxes : FnScope nBoxes ["thing", "most", "greatest", "sizes"] (defScope s_are_boxes) := ⟨rfl, rfl, rfl, by decide +kernel, rfl, by decide +kernel, by decide +kernel⟩
theorem name_parts {z : Str} (h : nameB z = true) : z.length ≤ 8 ∧ Txt.isascii z = true ∧ Txt.isalpha z = true ∧ Txt.islower z = true := by
  unfold nameB at h
  simp only [Bool.and_eq_true, decide_eq_true_eq] at h
  exact h
section
variable {P : Program} {w : World} {K : PySem.W.Frag} {mg : Str → Option Value} {base : Heap}
def spBoxes (K : PySem.W.Frag) : Sp := fun vs H Q _ => ∃ (v : V) (bs : List Box) (most : Nat) (gr : Int) (sz : Addr) (kvs : List (Key × V)), vs = [v, .int most, .int gr, .ref sz] ∧ Dp K H v (boxesD bs) ∧ H sz = some (.dK kvs) ∧ kvs.length + bs.length ≤ 1000 ∧
  bs.length ≤ most ∧ (∀ b ∈ bs, nameB b.1 = true ∧ 1 ≤ b.2 ∧ b.2 ≤ gr ∧ valV kvs (Sum.inr b.1) = none) ∧ (bs.map (·.1)).Nodup ∧ Q (.bl true) (upd H sz (.dK (kvs ++ bs.map boxK)))
theorem ok_boxes {f : Addr} {fd : FuncData} {k : Nat} {t8 : Tok} (F : Fun K "are_boxes" "are_boxes" s_are_boxes f fd) (mi : mg "isinstance" = none) (mt : mg "tuple" = none) (ms : mg "str" = none) (mn : mg "int" = none) (ml : mg "len" = none) (m8 : mg "LONGEST_NAME" = some (.int 8 t8)) :
    FnOk P w K mg base CX0 (k + 1) f fd ["thing", "most", "greatest", "sizes"] (spBoxes K) := by
  refine F.ok scBoxes (fun vs H Q E h => ?_) (fun cdv A outer s H vs Q E hr h => ?_)
  · obtain ⟨v, bs, most, gr, sz, kvs, rfl, _⟩ := h
    rfl
  obtain ⟨v, bs, most, gr, sz, kvs, rfl, hv, hz, hlen, hmost, hnm, hnd, q⟩ := h
  have nd := scBoxes.nd
  have hu := hu_of hr
  refine ⟨_, pss_cons (ps_if (PW.pt (pw_or (pt_not (pt_val (pe_callB call_isi (by rfl) mi PyProof.Rows.boot_isinstance (pa_cons (pv 0) (pa_cons (pe_bltn (by rfl) mt (u := .type "tuple") (by decide +kernel) (show RelV (.ty "tuple") (.type "tuple") from rfl)) pa_nil)))))
        (pw_or1 (pt_cmpR op_gt (pe_callB call_len_seq (by rfl) ml PySem.boot_len (pa_cons (pv 0) pa_nil)) (pv 1) (nomark _)))))
      (pss_one ps_dead) pss_nil)
    (pss_cons (ps_for PassesOwn.never rfl (pi_tup (pv 0)) (pg_name (i := 4) nd rfl (.inl rfl))
      (pss_cons (ps_if (PW.pt (pw_or (pt_not (pt_val (pe_callB call_isi (by rfl) mi PyProof.Rows.boot_isinstance (pa_cons (pv 4) (pa_cons (pe_bltn (by rfl) mt (u := .type "tuple") (by decide +kernel) (show RelV (.ty "tuple") (.type "tuple") from rfl)) pa_nil)))))
          (pw_or1 (pt_cmpR op_ne (pe_callB call_len_seq (by rfl) ml PySem.boot_len (pa_cons (pv 4) pa_nil)) pe_int (nomark _)))))
        (pss_one ps_dead) pss_nil)
      (pss_cons (ps_asg (pv 4) (pg_tup rfl (pgs_cons (pg_name (i := 5) nd rfl (.inl rfl)) (pgs_cons (pg_name (i := 6) nd rfl (.inl rfl)) pgs_nil))))
      (pss_cons (ps_if (PW.pt (pw_or (pt_not (pt_val (pe_callB call_isi (by rfl) mi PyProof.Rows.boot_isinstance (pa_cons (pv 5) (pa_cons (pe_bltn (by rfl) ms (u := .type "str") (by decide +kernel) (show RelV (.ty "str") (.type "str") from rfl)) pa_nil)))))
          (pw_or (pt_cmp (pc_din hu (pv 5) (pv 3)))
          (pw_or1 (pt_cmpR op_gt (pe_callB call_len_str (by rfl) ml PySem.boot_len (pa_cons (pv 5) pa_nil)) (pe_glob (v := .int 8) (by rfl) m8 ⟨_, rfl⟩) (nomark _))))))
        (pss_one ps_dead) pss_nil)
      (pss_cons (ps_if (PW.pt (pw_or (pt_not (pt_val (pe_m0 PySem.F.slot_str_isascii PySem.F.type_str_isascii mt_isascii (pv 5))))
          (pw_or (pt_not (pt_val (pe_m0 PySem.F.slot_str_isalpha PySem.F.type_str_isalpha mt_isalpha (pv 5))))
          (pw_or1 (pt_not (pt_val (pe_m0 PySem.F.slot_str_islower PySem.F.type_str_islower mt_islower (pv 5))))))))
        (pss_one ps_dead) pss_nil)
      (pss_cons (ps_if (PW.pt (pw_or (pt_not (pt_val (pe_callB call_isi (by rfl) mi PyProof.Rows.boot_isinstance (pa_cons (pv 6) (pa_cons (pe_bltn (by rfl) mn (u := .type "int") (by decide +kernel) (show RelV (.ty "int") (.type "int") from rfl)) pa_nil)))))
          (pw_or (pt_not (pt_chain op_le op_le pe_int (pv 6) (pv 2)))
          (pw_or1 (pt_cmpR op_isIB (pv 6) pe_bl (nomark _))))))
        (pss_one ps_dead) pss_nil)
      (pss_one (ps_dput hu (pv 3) (pv 5) (pv 6) rfl))))))))
    (pss_one (ps_ret pe_bl))), ?_⟩
  obtain ⟨a, xs, rfl, hs, hall⟩ := dp_tup hv
  have hxl : xs.length = bs.length := by rw [dpAll_len hall, List.length_map]
  refine ⟨_, rfl, _, _, _, _, _, rfl, .ty "tuple", dp_ty hv, kit_tup K hv, _, rfl, iteF ⟨_, rfl, a, _, rfl, .inr hs, _, rfl, _, _, rfl, rfl, _, rfl, ?_⟩⟩
  rw [decide_eq_false (show ¬ (most : Int) < (xs.length : Int) by omega)]
  refine iteF ⟨_, rfl, a, rfl, ⟨_, hs⟩, for_tup (xs := xs)
    (fun i σ H3 => ∃ y4 y5 y6, σ = [some (.ref a), some (.int most), some (.int gr), some (.ref sz), y4, y5, y6] ∧ H3 = upd H sz (.dK (kvs ++ (bs.take i).map boxK)))
    ⟨none, none, none, rfl, by rw [List.take_zero, List.map_nil, List.append_nil, upd_id hz]⟩ (fun i σ H3 _ hP => ?_) (fun i x σ H3 hx hP => ?_) (fun σ H3 hP => ?_)⟩
  · obtain ⟨_, _, _, _, rfl⟩ := hP
    exact dict_tup hz hs
  · obtain ⟨y4, y5, y6, rfl, rfl⟩ := hP
    obtain ⟨d, hd, hxd⟩ := dpAll_get hall hx
    rw [List.getElem?_map] at hd
    obtain ⟨b, hb, rfl⟩ := Option.map_eq_some_iff.mp hd
    have mb := List.mem_of_getElem? hb
    obtain ⟨n1, n2, n3, n4⟩ := hnm b mb
    obtain ⟨p1, p2, p3, p4⟩ := name_parts n1
    obtain ⟨c, v1, v2, rfl, hc, h1, h2⟩ := dp2 hxd
    cases dp_str h1
    cases dp_int h2
    have hc2 := dict_tup (kvs2 := kvs ++ (bs.take i).map boxK) hz hc
    have hxd2 : Dp K (upd H sz (.dK (kvs ++ (bs.take i).map boxK))) (.ref c) (boxD b) := .tup hc2 (.cons (.str _) (.cons (.int _) .nil))
    have hz2 : (upd H sz (.dK (kvs ++ (bs.take i).map boxK))) sz = some (.dK (kvs ++ (bs.take i).map boxK)) := upd_same
    have hno : valV (kvs ++ (bs.take i).map boxK) (Sum.inr b.1) = none := val_boxes kvs _ _ n4 (take_fresh (·.1) hnd hb)
    refine ⟨_, rfl, _, _, _, _, _, rfl, .ty "tuple", dp_ty hxd2, kit_tup K hxd2, _, rfl, iteF ⟨_, rfl, c, _, rfl, .inr hc2, rfl, _, rfl, iteNS rfl ?_⟩⟩
    refine ⟨_, rfl, c, _, rfl, hc2, rfl, _, _, rfl, _, _, rfl, rfl, ?_⟩
    refine ⟨_, rfl, _, _, _, _, _, rfl, .ty "str", dp_ty (.str b.1), kit_str K (H := H) (.str b.1), _, rfl, iteF ⟨_, rfl, _, rfl, sz, _, rfl, DGet.k (k := Sum.inr b.1) hz2, _, rfl, ?_⟩⟩
    rw [hno]
    refine iteF ⟨_, rfl, b.1, rfl, small_le (by omega), _, _, rfl, rfl, _, rfl, ?_⟩
    rw [decide_eq_false (show ¬ (8 : Int) < (b.1.length : Int) by omega)]
    refine iteF ⟨_, rfl, ⟨_, rfl⟩, _, rfl, rfl, trivial, _, rfl, ?_⟩
    rw [p2]
    refine iteF ⟨_, rfl, ⟨_, rfl⟩, _, rfl, rfl, trivial, _, rfl, ?_⟩
    rw [p3]
    refine iteF ⟨_, rfl, ⟨_, rfl⟩, _, rfl, rfl, trivial, _, rfl, ?_⟩
    rw [p4]
    refine iteF ⟨_, rfl, _, _, _, _, _, rfl, .ty "int", dp_ty (.int b.2), kit_int K (H := H) (.int b.2), _, rfl, iteF ?_⟩
    refine ⟨_, rfl, _, _, rfl, rfl, _, rfl, ?_⟩
    rw [decide_eq_true n2]
    refine iteT ⟨_, rfl, _, _, rfl, rfl, _, rfl, ?_⟩
    rw [decide_eq_true n3]
    refine iteF ⟨_, rfl, _, _, rfl, rfl, _, rfl, iteF ?_⟩
    refine ⟨_, rfl, _, rfl, _, rfl, sz, _, rfl, DPut.k (k := Sum.inr b.1) hz2 ?_, ?_⟩
    · rw [List.length_append, List.length_map, List.length_take]
      exact small_lt (by omega)
    · refine ⟨_, _, _, rfl, ?_⟩
      have e1 : (bs.take (i + 1)).map boxK = (bs.take i).map boxK ++ [boxK b] := by
        rw [List.take_succ, hb, List.map_append]
        rfl
      rw [putK_new _ hno, e1, ← List.append_assoc]
      funext e
      by_cases z : e = sz
      · rw [z, upd_same, upd_same]
        rfl
      · rw [upd_ne z, upd_ne z, upd_ne z]
  · obtain ⟨y4, y5, y6, rfl, rfl⟩ := hP
    rw [List.take_of_length_le (by omega)]
    exact q
end
end PP

set_option maxHeartbeats 4000000
namespace PP
open PySem PySem.Spec PyProof.Rows L2 G3 M0 PA
abbrev nSource : List Str := ["source", "size", "box", "sizes", "word", "thing"]
abbrev nWays : List Str := ["thing", "end", "ahead", "way"]
theorem scSource : FnScope nSource ["source", "size", "box", "sizes"] (defScope s_is_source) := ⟨rfl, rfl, rfl, by decide +kernel, rfl, by decide +kernel, by decide +kernel⟩
theorem scWays : FnScope nWays ["thing", "end"] (defScope s_are_ways) := ⟨rfl, rfl, rfl, by decide +kernel, rfl, by decide +kernel, by decide +kernel⟩
/-- a dict of sizes -/
def SizesAt (H : Hp) (a : Addr) (bs : List Box) : Prop := ∃ kvs, Rd H a (.dK kvs) ∧ ∀ o m, size? bs o = some m → valV kvs (Sum.inr o) = some (.int m)
theorem SizesAt.get {H : Hp} {a : Addr} {bs : List Box} {o : Str} {m : Int} (h : SizesAt H a bs) (e : size? bs o = some m) : DGet H a (.str o) (some (.int m)) := by
  obtain ⟨kvs, hr, hk⟩ := h
  exact .inl ⟨kvs, Sum.inr o, hr, rfl, (hk o m e).symm⟩
theorem dp1 {K : PySem.W.Frag} {H : Hp} {v : V} {d : PyData} (h : Dp K H v (.tuple [d])) : ∃ a x, v = .ref a ∧ SqT K H a [x] ∧ Dp K H x d := by
  cases h with
  | tup hs ha =>
    cases ha with
    | cons h1 h2 =>
      cases h2
      exact ⟨_, _, rfl, hs, h1⟩
section
variable {P : Program} {w : World} {K : PySem.W.Frag} {mg : Str → Option Value} {base : Heap}
def spSource (K : PySem.W.Frag) : Sp := fun vs H Q _ => ∃ (v : V) (bs : List Box) (b : Str) (n : Int) (sr : Src) (sz : Addr), vs = [v, .int n, .str b, .ref sz] ∧ Dp K H v sr.data ∧ SizesAt H sz bs ∧ SrcOk bs b n sr ∧ Q (.bl true) H
theorem ok_source {f : Addr} {fd : FuncData} {k : Nat} (F : Fun K "is_source" "is_source" s_is_source f fd) (mi : mg "isinstance" = none) (ms : mg "str" = none) (mn : mg "int" = none) (ml : mg "len" = none) :
    FnOk P w K mg base CX0 (k + 1) f fd ["source", "size", "box", "sizes"] (spSource K) := by
  refine F.ok scSource (fun vs H Q E h => ?_) (fun cdv A outer s H vs Q E hr h => ?_)
  · obtain ⟨v, bs, b, n, sr, sz, rfl, _⟩ := h
    rfl
  obtain ⟨v, bs, b, n, sr, sz, rfl, hv, hz, ok, q⟩ := h
  have nd := scSource.nd
  have hu := hu_of hr
  refine ⟨_, pss_cons (ps_if (pt_cmpR op_ne (pe_callB call_len_seq (by rfl) ml PySem.boot_len (pa_cons (pv 0) pa_nil)) pe_int (nomark _))
      (pss_one (ps_ret (pe_and (pe_cmpR op_eq (pe_callB call_len_seq (by rfl) ml PySem.boot_len (pa_cons (pv 0) pa_nil)) pe_int (nomark _))
        (pe_and (pe_callB call_isi (by rfl) mi PyProof.Rows.boot_isinstance (pa_cons (pe_ix ix_tup (pv 0) pe_int (fun _ _ => rfl)) (pa_cons (pe_bltn (by rfl) ms (u := .type "str") (by decide +kernel) (show RelV (.ty "str") (.type "str") from rfl)) pa_nil)))
        (pe_one (pe_cmpR op_eq (pe_ix ix_tup (pv 0) pe_int (fun _ _ => rfl)) pe_str (nomark _))))))) pss_nil)
    (pss_cons (ps_asg (pv 0) (pg_tup rfl (pgs_cons (pg_name (i := 4) nd rfl (.inl rfl)) (pgs_cons (pg_name (i := 5) nd rfl (.inl rfl)) pgs_nil))))
    (pss_cons (ps_if (pt_not (pt_val (pe_callB call_isi (by rfl) mi PyProof.Rows.boot_isinstance (pa_cons (pv 4) (pa_cons (pe_bltn (by rfl) ms (u := .type "str") (by decide +kernel) (show RelV (.ty "str") (.type "str") from rfl)) pa_nil)))))
      (pss_one ps_dead) pss_nil)
    (pss_cons (ps_if (pt_val (pe_callB call_isi (by rfl) mi PyProof.Rows.boot_isinstance (pa_cons (pv 5) (pa_cons (pe_bltn (by rfl) mn (u := .type "int") (by decide +kernel) (show RelV (.ty "int") (.type "int") from rfl)) pa_nil))))
      (pss_cons (ps_if (PW.pt (pw_or (pt_cmpR op_isIB (pv 5) pe_bl (nomark _)) (pw_or1 (pt_cmpR op_isIB (pv 5) pe_bl (nomark _))))) (pss_one ps_dead) pss_nil)
      (pss_one (ps_ret (pe_ifExp (pt_cmpR op_eq (pv 4) pe_str (nomark _)) (pe_chain op_le op_lt pe_int (pv 5) (pv 1)) (pe_and (pe_cmpR op_eq (pv 4) pe_str (nomark _)) (pe_one (pe_chain op_le op_le pe_int (pv 5) pe_int))))))) pss_nil)
    (pss_one (ps_ret (pe_and (pe_cmpR op_eq (pv 4) pe_str (nomark _)) (pe_and (pe_callB call_isi (by rfl) mi PyProof.Rows.boot_isinstance (pa_cons (pv 5) (pa_cons (pe_bltn (by rfl) ms (u := .type "str") (by decide +kernel) (show RelV (.ty "str") (.type "str") from rfl)) pa_nil)))
      (pe_and (pe_cmpR op_ne (pv 5) (pv 2) (nomark _)) (pe_one (pe_cmpR op_le (pe_dget hu (pv 3) (pv 5) (fun _ _ => rfl)) (pv 1) (nomark _))))))))))), ?_⟩
  cases sr with
  | any =>
    obtain ⟨a, x, rfl, hs, hx⟩ := dp1 hv
    cases dp_str hx
    refine ⟨_, rfl, a, _, rfl, .inr hs, rfl, _, rfl, iteT ?_⟩
    refine ⟨_, rfl, a, _, rfl, .inr hs, rfl, _, rfl, iteT ?_⟩
    refine ⟨_, rfl, a, _, 0, _, rfl, rfl, hs, atI_nat (j := 0) rfl, _, _, _, _, _, rfl, .ty "str", dp_ty (.str "any"), kit_str K (H := H) (.str "any"), _, rfl, iteT ?_⟩
    exact ⟨_, rfl, a, _, 0, _, rfl, rfl, hs, atI_nat (j := 0) rfl, rfl, q⟩
  | of o =>
    obtain ⟨a, x, y, rfl, hs, hx, hy⟩ := dp2 hv
    cases dp_str hx
    cases dp_str hy
    obtain ⟨h1, m, h2, h3⟩ := ok
    refine ⟨_, rfl, a, _, rfl, .inr hs, rfl, _, rfl, iteF ?_⟩
    refine ⟨_, rfl, a, _, rfl, hs, rfl, _, _, rfl, _, _, rfl, rfl, ?_⟩
    refine ⟨_, rfl, _, _, _, _, _, rfl, .ty "str", dp_ty (.str "of"), kit_str K (H := H) (.str "of"), _, rfl, iteF ?_⟩
    refine ⟨_, rfl, _, _, _, _, _, rfl, .ty "int", dp_ty (.str o), kit_int K (H := H) (.str o), _, rfl, iteF ?_⟩
    refine ⟨_, rfl, rfl, _, rfl, iteT ?_⟩
    refine ⟨_, rfl, _, _, _, _, _, rfl, .ty "str", dp_ty (.str o), kit_str K (H := H) (.str o), _, rfl, iteT ?_⟩
    refine ⟨_, rfl, _, rfl, rfl, _, rfl, ?_⟩
    rw [decide_eq_false (show ¬ V.str o = V.str b from fun z => h1 (V.str.inj z))]
    refine iteT ⟨_, rfl, _, rfl, sz, _, rfl, hz.get h2, _, rfl, _, _, rfl, rfl, ?_⟩
    show Q (.bl (decide (m ≤ n))) H
    rw [decide_eq_true h3]
    exact q
  | to m =>
    obtain ⟨a, x, y, rfl, hs, hx, hy⟩ := dp2 hv
    cases dp_str hx
    cases dp_int hy
    obtain ⟨h1, h2⟩ := ok
    refine ⟨_, rfl, a, _, rfl, .inr hs, rfl, _, rfl, iteF ?_⟩
    refine ⟨_, rfl, a, _, rfl, hs, rfl, _, _, rfl, _, _, rfl, rfl, ?_⟩
    refine ⟨_, rfl, _, _, _, _, _, rfl, .ty "str", dp_ty (.str "to"), kit_str K (H := H) (.str "to"), _, rfl, iteF ?_⟩
    refine ⟨_, rfl, _, _, _, _, _, rfl, .ty "int", dp_ty (.int m), kit_int K (H := H) (.int m), _, rfl, iteT ?_⟩
    refine ⟨_, rfl, _, _, rfl, rfl, _, rfl, iteF ⟨_, rfl, _, _, rfl, rfl, _, rfl, iteF ?_⟩⟩
    refine ⟨_, rfl, rfl, _, rfl, iteT ⟨_, rfl, _, _, rfl, rfl, _, rfl, ?_⟩⟩
    rw [decide_eq_true h1]
    refine iteT ⟨_, rfl, _, _, rfl, rfl, ?_⟩
    show Q (.bl (decide (m < n))) H
    rw [decide_eq_true h2]
    exact q
  | on m =>
    obtain ⟨a, x, y, rfl, hs, hx, hy⟩ := dp2 hv
    cases dp_str hx
    cases dp_int hy
    obtain ⟨h1, h2⟩ := ok
    refine ⟨_, rfl, a, _, rfl, .inr hs, rfl, _, rfl, iteF ?_⟩
    refine ⟨_, rfl, a, _, rfl, hs, rfl, _, _, rfl, _, _, rfl, rfl, ?_⟩
    refine ⟨_, rfl, _, _, _, _, _, rfl, .ty "str", dp_ty (.str "on"), kit_str K (H := H) (.str "on"), _, rfl, iteF ?_⟩
    refine ⟨_, rfl, _, _, _, _, _, rfl, .ty "int", dp_ty (.int m), kit_int K (H := H) (.int m), _, rfl, iteT ?_⟩
    refine ⟨_, rfl, _, _, rfl, rfl, _, rfl, iteF ⟨_, rfl, _, _, rfl, rfl, _, rfl, iteF ?_⟩⟩
    refine ⟨_, rfl, rfl, _, rfl, iteF ⟨_, rfl, rfl, _, rfl, iteT ⟨_, rfl, _, _, rfl, rfl, _, rfl, ?_⟩⟩⟩
    rw [decide_eq_true h1]
    refine iteT ⟨_, _, rfl, rfl, ?_⟩
    show Q (.bl (decide (m ≤ 3))) H
    rw [decide_eq_true h2]
    exact q
def spWays (K : PySem.W.Frag) : Sp := fun vs H Q _ => ∃ (v : V) (rs : List Int) (e : Int), vs = [v, .int e] ∧ Dp K H v (.tuple (rs.map .int)) ∧ 1 ≤ rs.length ∧ rs.length ≤ 4 ∧ Rising (-1) rs ∧ (∀ r ∈ rs, r ≤ e) ∧ Q (.bl true) H
theorem ok_ways {f : Addr} {fd : FuncData} {k : Nat} (F : Fun K "are_ways" "are_ways" s_are_ways f fd) (mi : mg "isinstance" = none) (mt : mg "tuple" = none) (mn : mg "int" = none) (ml : mg "len" = none) :
    FnOk P w K mg base CX0 (k + 1) f fd ["thing", "end"] (spWays K) := by
  refine F.ok scWays (fun vs H Q E h => ?_) (fun cdv A outer s H vs Q E hr h => ?_)
  · obtain ⟨v, rs, e, rfl, _⟩ := h
    rfl
  obtain ⟨v, rs, e, rfl, hv, l1, l4, ris, hle, q⟩ := h
  have nd := scWays.nd
  refine ⟨_, pss_cons (ps_if (PW.pt (pw_or (pt_not (pt_val (pe_callB call_isi (by rfl) mi PyProof.Rows.boot_isinstance (pa_cons (pv 0) (pa_cons (pe_bltn (by rfl) mt (u := .type "tuple") (by decide +kernel) (show RelV (.ty "tuple") (.type "tuple") from rfl)) pa_nil)))))
        (pw_or1 (pt_not (pt_chain op_le op_le pe_int (pe_callB call_len_seq (by rfl) ml PySem.boot_len (pa_cons (pv 0) pa_nil)) pe_int)))))
      (pss_one ps_dead) pss_nil)
    (pss_cons (ps_set (i := 2) nd rfl (.inl rfl) (pe_un un_neg pe_int))
    (pss_cons (ps_for PassesOwn.never rfl (pi_tup (pv 0)) (pg_name (i := 3) nd rfl (.inl rfl))
      (pss_cons (ps_if (PW.pt (pw_or (pt_not (pt_val (pe_callB call_isi (by rfl) mi PyProof.Rows.boot_isinstance (pa_cons (pv 3) (pa_cons (pe_bltn (by rfl) mn (u := .type "int") (by decide +kernel) (show RelV (.ty "int") (.type "int") from rfl)) pa_nil)))))
          (pw_or (pt_not (pt_chain op_lt op_le (pv 2) (pv 3) (pv 1)))
          (pw_or (pt_cmpR op_isIB (pv 3) pe_bl (nomark _)) (pw_or1 (pt_cmpR op_isIB (pv 3) pe_bl (nomark _)))))))
        (pss_one ps_dead) pss_nil)
      (pss_one (ps_set (i := 2) nd rfl (.inl rfl) (pv 3)))))
    (pss_one (ps_ret pe_bl)))), ?_⟩
  obtain ⟨a, xs, rfl, hs, hall⟩ := dp_tup hv
  have hxl : xs.length = rs.length := by rw [dpAll_len hall, List.length_map]
  refine ⟨_, rfl, _, _, _, _, _, rfl, .ty "tuple", dp_ty hv, kit_tup K hv, _, rfl, iteF ⟨_, rfl, a, _, rfl, .inr hs, _, _, rfl, rfl, _, rfl, ?_⟩⟩
  rw [decide_eq_true (show (1 : Int) ≤ (xs.length : Int) by omega)]
  refine iteT ⟨_, _, rfl, rfl, _, rfl, ?_⟩
  rw [decide_eq_true (show (xs.length : Int) ≤ 4 by omega)]
  refine iteF ⟨1, rfl, ?_⟩
  refine ⟨_, rfl, a, rfl, ⟨_, hs⟩, for_tup (xs := xs)
    (fun i σ H3 => ∃ (c : Int) (y3 : Option V), σ = [some (.ref a), some (.int e), some (.int c), y3] ∧ H3 = H ∧ Rising c (rs.drop i))
    ⟨-1, none, rfl, rfl, ris⟩ (fun i σ H3 _ hP => ?_) (fun i x σ H3 hx hP => ?_) (fun σ H3 hP => ?_)⟩
  · obtain ⟨_, _, _, rfl, _⟩ := hP
    exact hs
  · obtain ⟨c, y3, rfl, rfl, hR⟩ := hP
    obtain ⟨d, hd, hxd⟩ := dpAll_get hall hx
    rw [List.getElem?_map] at hd
    obtain ⟨r, hr1, rfl⟩ := Option.map_eq_some_iff.mp hd
    cases dp_int hxd
    have hi := (List.getElem?_eq_some_iff.mp hr1).1
    rw [List.drop_eq_getElem_cons hi, (List.getElem?_eq_some_iff.mp hr1).2] at hR
    obtain ⟨hc, hR2⟩ := hR
    refine ⟨_, rfl, _, _, _, _, _, rfl, .ty "int", dp_ty (.int r), kit_int K (H := H3) (.int r), _, rfl, iteF ?_⟩
    refine ⟨_, rfl, _, rfl, _, _, rfl, rfl, _, rfl, ?_⟩
    rw [decide_eq_true hc]
    refine iteT ⟨_, rfl, _, _, rfl, rfl, _, rfl, ?_⟩
    rw [decide_eq_true (hle r (List.mem_of_getElem? hr1))]
    refine iteF ⟨_, rfl, _, _, rfl, rfl, _, rfl, iteF ⟨_, rfl, _, _, rfl, rfl, _, rfl, iteF ?_⟩⟩
    exact ⟨_, rfl, r, _, rfl, rfl, hR2⟩
  · obtain ⟨c, y3, rfl, rfl, _⟩ := hP
    exact q
end
end PP

set_option maxHeartbeats 4000000
namespace PP
open PySem PySem.Spec PyProof.Rows L2 G3 M0 PA
abbrev nRows : List Str := ["rows", "end", "sizes", "texts", "hands", "name", "row", "many", "word", "box", "thing", "value", "way"]
theorem scRows : FnScope nRows ["rows", "end", "sizes", "texts", "hands", "name"] (defScope s_are_rows) := ⟨rfl, rfl, rfl, by decide +kernel, rfl, by decide +kernel, by decide +kernel⟩
theorem rd_same {H H' : Hp} {a : Addr} {u : HO} (s : Same H H') (h : Rd H a u) : Rd H' a u := by
  rcases h with h | ⟨o, h⟩
  · exact .inl (s _ _ h)
  · exact .inr ⟨o, s _ _ h⟩
theorem SizesAt.same {H H' : Hp} {a : Addr} {bs : List Box} (h : SizesAt H a bs) (s : Same H H') : SizesAt H' a bs := by
  obtain ⟨kvs, h1, h2⟩ := h
  exact ⟨kvs, rd_same s h1, h2⟩
/-- a dict that has these keys -/
def KeysAt (H : Hp) (a : Addr) (zs : List Str) : Prop := ∃ kvs, Rd H a (.dK kvs) ∧ ∀ z ∈ zs, (valV kvs (Sum.inr z)).isSome = true
theorem KeysAt.same {H H' : Hp} {a : Addr} {zs : List Str} (h : KeysAt H a zs) (s : Same H H') : KeysAt H' a zs := by
  obtain ⟨kvs, h1, h2⟩ := h
  exact ⟨kvs, rd_same s h1, h2⟩
theorem dp3 {K : PySem.W.Frag} {H : Hp} {v : V} {d e g : PyData} (h : Dp K H v (.tuple [d, e, g])) : ∃ a x y z, v = .ref a ∧ SqT K H a [x, y, z] ∧ Dp K H x d ∧ Dp K H y e ∧ Dp K H z g := by
  cases h with
  | tup hs ha =>
    cases ha with
    | cons h1 h2 =>
      cases h2 with
      | cons h3 h4 =>
        cases h4 with
        | cons h5 h6 =>
          cases h6
          exact ⟨_, _, _, _, rfl, hs, h1, h3, h5⟩
theorem dp4 {K : PySem.W.Frag} {H : Hp} {v : V} {d e g i : PyData} (h : Dp K H v (.tuple [d, e, g, i])) : ∃ a x y z u, v = .ref a ∧ SqT K H a [x, y, z, u] ∧ Dp K H x d ∧ Dp K H y e ∧ Dp K H z g ∧ Dp K H u i := by
  cases h with
  | tup hs ha =>
    cases ha with
    | cons h1 h2 =>
      cases h2 with
      | cons h3 h4 =>
        cases h4 with
        | cons h5 h6 =>
          cases h6 with
          | cons h7 h8 =>
            cases h8
            exact ⟨_, _, _, _, _, rfl, hs, h1, h3, h5, h7⟩
theorem src_tup {s : Src} : ∃ ds, s.data = .tuple ds := by
  cases s <;> exact ⟨_, rfl⟩
section
variable {P : Program} {w : World} {K : PySem.W.Frag} {mg : Str → Option Value} {base : Heap}
def spRows (K : PySem.W.Frag) : Sp := fun vs H Q _ => ∃ (v : V) (rs : List PA.Row) (e : Int) (sz tx hd : Addr) (nm : Str) (bs : List Box) (titles others : List Str), vs = [v, .int e, .ref sz, .ref tx, .ref hd, .str nm] ∧ Dp K H v (rowsD rs) ∧ SizesAt H sz bs ∧ KeysAt H tx titles ∧ KeysAt H hd others ∧
  nm ∉ others ∧ (∀ r ∈ rs, RowOk bs titles others e r) ∧ ∀ H', Same H H' → Q (.bl true) H'
set_option maxHeartbeats 8000000 in
theorem ok_rows {f : Addr} {fd : FuncData} {k : Nat} (F : Fun K "are_rows" "are_rows" s_are_rows f fd) (DS : Def P w K mg base CX0 (k + 1) "is_source" ["source", "size", "box", "sizes"] (spSource K)) (DW : Def P w K mg base CX0 (k + 1) "are_ways" ["thing", "end"] (spWays K))
    (mi : mg "isinstance" = none) (mt : mg "tuple" = none) (ms : mg "str" = none) (mn : mg "int" = none) (ml : mg "len" = none) : FnOk P w K mg base CX0 (k + 1 + 1) f fd ["rows", "end", "sizes", "texts", "hands", "name"] (spRows K) := by
  refine F.ok scRows (fun vs H Q E h => ?_) (fun cdv A outer s H vs Q E hr h => ?_)
  · obtain ⟨v, rs, e, sz, tx, hd, nm, bs, titles, others, rfl, _⟩ := h
    rfl
  obtain ⟨v, rs, e, sz, tx, hd, nm, bs, titles, others, rfl, hv, hz, ht, hh, hnm, hok, q⟩ := h
  have nd := scRows.nd
  have hu := hu_of hr
  refine ⟨_, pss_cons (ps_for PassesOwn.never rfl (pi_tup (pv 0)) (pg_name (i := 6) nd rfl (.inl rfl))
      (pss_cons (ps_if (pt_not (pt_val (pe_callB call_isi (by rfl) mi PyProof.Rows.boot_isinstance (pa_cons (pv 6) (pa_cons (pe_bltn (by rfl) mt (u := .type "tuple") (by decide +kernel) (show RelV (.ty "tuple") (.type "tuple") from rfl)) pa_nil))))) (pss_one ps_dead) pss_nil)
      (pss_cons (ps_set (i := 7) nd rfl (.inl rfl) (pe_callB call_len_seq (by rfl) ml PySem.boot_len (pa_cons (pv 6) pa_nil)))
      (pss_one (ps_if (pt_cmpR op_eq (pv 7) pe_int (nomark _))
        (pss_cons (ps_asg (pv 6) (pg_tup rfl (pgs_cons (pg_name (i := 8) nd rfl (.inl rfl)) (pgs_cons (pg_name (i := 9) nd rfl (.inl rfl)) (pgs_cons (pg_name (i := 10) nd rfl (.inl rfl)) pgs_nil)))))
        (pss_cons (ps_if (PW.pt (pw_or (pt_not (pt_val (pe_callB call_isi (by rfl) mi PyProof.Rows.boot_isinstance (pa_cons (pv 8) (pa_cons (pe_bltn (by rfl) ms (u := .type "str") (by decide +kernel) (show RelV (.ty "str") (.type "str") from rfl)) pa_nil)))))
            (pw_or1 (pt_not (pt_val (pe_callB call_isi (by rfl) mi PyProof.Rows.boot_isinstance (pa_cons (pv 9) (pa_cons (pe_bltn (by rfl) ms (u := .type "str") (by decide +kernel) (show RelV (.ty "str") (.type "str") from rfl)) pa_nil)))))))) (pss_one ps_dead) pss_nil)
        (pss_one (ps_if (pt_cmpR op_eq (pv 8) pe_str (nomark _))
          (pss_one (ps_if (PW.pt (pw_or (pt_not (pt_val (pe_callB call_isi (by rfl) mi PyProof.Rows.boot_isinstance (pa_cons (pv 10) (pa_cons (pe_bltn (by rfl) mt (u := .type "tuple") (by decide +kernel) (show RelV (.ty "tuple") (.type "tuple") from rfl)) pa_nil)))))
            (pw_or1 (pt_not (pt_val (pe_call DS.ok hr (by rfl) DS.g DS.kp DS.b .nil pass0 (pa_cons (pv 10) (pa_cons (pe_dget hu (pv 2) (pv 9) (fun _ _ => rfl)) (pa_cons (pv 9) (pa_cons (pv 2) pa_nil)))))))))) (pss_one ps_dead) pss_nil))
          (pss_one (ps_if (PW.pt (pw_or (pt_cmpR op_ne (pv 8) pe_str (nomark _))
              (pw_or (pt_not (pt_val (pe_callB call_isi (by rfl) mi PyProof.Rows.boot_isinstance (pa_cons (pv 10) (pa_cons (pe_bltn (by rfl) mn (u := .type "int") (by decide +kernel) (show RelV (.ty "int") (.type "int") from rfl)) pa_nil)))))
              (pw_or1 (pt_not (pt_chain op_le op_lt pe_int (pv 10) (pe_dget hu (pv 2) (pv 9) (fun _ _ => rfl))))))))
            (pss_one ps_dead)
            (pss_one (ps_if (PW.pt (pw_or (pt_cmpR op_isIB (pv 10) pe_bl (nomark _)) (pw_or1 (pt_cmpR op_isIB (pv 10) pe_bl (nomark _))))) (pss_one ps_dead) pss_nil))))))))
        (pss_one (ps_if (pt_cmpR op_eq (pv 7) pe_int (nomark _))
          (pss_cons (ps_asg (pv 6) (pg_tup rfl (pgs_cons (pg_name (i := 8) nd rfl (.inl rfl)) (pgs_cons (pg_name (i := 10) nd rfl (.inl rfl)) pgs_nil))))
          (pss_cons (ps_if (pt_not (pt_val (pe_callB call_isi (by rfl) mi PyProof.Rows.boot_isinstance (pa_cons (pv 8) (pa_cons (pe_bltn (by rfl) ms (u := .type "str") (by decide +kernel) (show RelV (.ty "str") (.type "str") from rfl)) pa_nil))))) (pss_one ps_dead) pss_nil)
          (pss_one (ps_if (pt_cmpR op_eq (pv 8) pe_str (nomark _))
            (pss_one (ps_if (pt_not (pt_val (pe_call DW.ok hr (by rfl) DW.g DW.kp DW.b .nil pass0 (pa_cons (pv 10) (pa_cons (pv 1) pa_nil))))) (pss_one ps_dead) pss_nil))
            (pss_one (ps_if (pt_not (pt_val (pe_callB call_isi (by rfl) mi PyProof.Rows.boot_isinstance (pa_cons (pv 10) (pa_cons (pe_bltn (by rfl) ms (u := .type "str") (by decide +kernel) (show RelV (.ty "str") (.type "str") from rfl)) pa_nil))))) (pss_one ps_dead)
              (pss_one (ps_if (pt_cmp (pc_dnotin hu (pv 10) (pe_ifExp (pt_cmpR op_eq (pv 8) pe_str (nomark _)) (pv 3) (pe_ifExp (PW.pt (pw_and (pt_cmpR op_eq (pv 8) pe_str (nomark _)) (pw_and1 (pt_cmpR op_ne (pv 10) (pv 5) (nomark _))))) (pv 4) pe_dead))) rfl) (pss_one ps_dead) pss_nil))))))))
          (pss_one (ps_if (pt_cmpR op_eq (pv 7) pe_int (nomark _))
            (pss_cons (ps_asg (pv 6) (pg_tup rfl (pgs_cons (pg_name (i := 8) nd rfl (.inl rfl)) (pgs_cons (pg_name (i := 9) nd rfl (.inl rfl)) (pgs_cons (pg_name (i := 11) nd rfl (.inl rfl)) (pgs_cons (pg_name (i := 12) nd rfl (.inl rfl)) pgs_nil))))))
            (pss_cons (ps_if (PW.pt (pw_or (pt_not (pt_val (pe_callB call_isi (by rfl) mi PyProof.Rows.boot_isinstance (pa_cons (pv 8) (pa_cons (pe_bltn (by rfl) ms (u := .type "str") (by decide +kernel) (show RelV (.ty "str") (.type "str") from rfl)) pa_nil)))))
                (pw_or (pt_cmpR op_ne (pv 8) pe_str (nomark _))
                (pw_or1 (pt_not (pt_val (pe_callB call_isi (by rfl) mi PyProof.Rows.boot_isinstance (pa_cons (pv 9) (pa_cons (pe_bltn (by rfl) ms (u := .type "str") (by decide +kernel) (show RelV (.ty "str") (.type "str") from rfl)) pa_nil))))))))) (pss_one ps_dead) pss_nil)
            (pss_cons (ps_if (PW.pt (pw_or (pt_not (pt_val (pe_callB call_isi (by rfl) mi PyProof.Rows.boot_isinstance (pa_cons (pv 11) (pa_cons (pe_bltn (by rfl) mn (u := .type "int") (by decide +kernel) (show RelV (.ty "int") (.type "int") from rfl)) pa_nil)))))
                (pw_or (pt_not (pt_chain op_le op_lt pe_int (pv 11) (pe_dget hu (pv 2) (pv 9) (fun _ _ => rfl))))
                (pw_or (pt_cmpR op_isIB (pv 11) pe_bl (nomark _)) (pw_or1 (pt_cmpR op_isIB (pv 11) pe_bl (nomark _))))))) (pss_one ps_dead) pss_nil)
            (pss_one (ps_if (PW.pt (pw_or (pt_not (pt_val (pe_callB call_isi (by rfl) mi PyProof.Rows.boot_isinstance (pa_cons (pv 12) (pa_cons (pe_bltn (by rfl) mn (u := .type "int") (by decide +kernel) (show RelV (.ty "int") (.type "int") from rfl)) pa_nil)))))
                (pw_or (pt_not (pt_chain op_le op_le pe_int (pv 12) (pv 1)))
                (pw_or (pt_cmpR op_isIB (pv 12) pe_bl (nomark _)) (pw_or1 (pt_cmpR op_isIB (pv 12) pe_bl (nomark _))))))) (pss_one ps_dead) pss_nil)))))
            (pss_one (ps_if (PW.pt (pw_or (pt_cmpR op_ne (pv 7) pe_int (nomark _))
                (pw_or (pt_not (pt_val (pe_callB call_isi (by rfl) mi PyProof.Rows.boot_isinstance (pa_cons (pe_ix ix_tup (pv 6) pe_int (fun _ _ => rfl)) (pa_cons (pe_bltn (by rfl) ms (u := .type "str") (by decide +kernel) (show RelV (.ty "str") (.type "str") from rfl)) pa_nil)))))
                (pw_or1 (pt_cmpR op_notIn_seq (pe_ix ix_tup (pv 6) pe_int (fun _ _ => rfl)) (pe_tup (pa_cons pe_str (pa_cons pe_str pa_nil))) rfl))))) (pss_one ps_dead) pss_nil)))))))))))
    (pss_one (ps_ret pe_bl)), ?_⟩
  obtain ⟨a, xs, rfl, hs, hall⟩ := dp_tup hv
  have hxl : xs.length = rs.length := by rw [dpAll_len hall, List.length_map]
  refine ⟨_, rfl, a, rfl, ⟨_, hs⟩, for_tup (xs := xs)
    (fun i σ H3 => ∃ y6 y7 y8 y9 y10 y11 y12, σ = [some (.ref a), some (.int e), some (.ref sz), some (.ref tx), some (.ref hd), some (.str nm), y6, y7, y8, y9, y10, y11, y12] ∧ Same H H3)
    ⟨none, none, none, none, none, none, none, rfl, Same.refl _⟩ (fun i σ H3 _ hP => ?_) (fun i x σ H3 hx hP => ?_) (fun σ H3 hP => ?_)⟩
  · obtain ⟨_, _, _, _, _, _, _, _, sm⟩ := hP
    exact same_tup sm hs
  · obtain ⟨y6, y7, y8, y9, y10, y11, y12, rfl, sm⟩ := hP
    obtain ⟨d, hd1, hxd0⟩ := dpAll_get hall hx
    rw [List.getElem?_map] at hd1
    obtain ⟨r, hr1, rfl⟩ := Option.map_eq_some_iff.mp hd1
    have okr := hok r (List.mem_of_getElem? hr1)
    have hxd := dp_same sm _ _ hxd0
    have hz3 := hz.same sm
    have ht3 := ht.same sm
    have hh3 := hh.same sm
    clear hxd0 hd1 hz ht hh
    cases r with
    | set b sr =>
      obtain ⟨n, h1, h2⟩ := okr
      obtain ⟨c, v1, v2, v3, rfl, hc, g1, g2, g3⟩ := dp3 hxd
      cases dp_str g1
      cases dp_str g2
      refine ⟨_, rfl, _, _, _, _, _, rfl, .ty "tuple", dp_ty hxd, kit_tup K hxd, _, rfl, iteF ⟨_, rfl, c, _, rfl, .inr hc, ?_⟩⟩
      refine ⟨_, rfl, rfl, _, rfl, iteT ⟨_, rfl, c, _, rfl, hc, rfl, _, _, rfl, _, _, rfl, _, _, rfl, rfl, ?_⟩⟩
      refine ⟨_, rfl, _, _, _, _, _, rfl, .ty "str", dp_ty (.str "set"), kit_str K (H := H) (.str "set"), _, rfl, iteF ?_⟩
      refine ⟨_, rfl, _, _, _, _, _, rfl, .ty "str", dp_ty (.str b), kit_str K (H := H) (.str b), _, rfl, iteF ?_⟩
      refine ⟨_, rfl, rfl, _, rfl, iteT ?_⟩
      obtain ⟨ds, eds⟩ := src_tup (s := sr)
      have g3' := g3
      rw [eds] at g3'
      refine ⟨_, rfl, _, _, _, _, _, rfl, .ty "tuple", dp_ty g3', kit_tup K g3', _, rfl, iteF ?_⟩
      refine ⟨_, rfl, _, rfl, _, rfl, sz, _, rfl, hz3.get h1, _, rfl, _, rfl, v3, bs, b, n, sr, sz, rfl, g3, hz3, h2, _, rfl, iteF ?_⟩
      exact ⟨_, _, _, _, _, _, _, rfl, sm⟩
    | wait b v =>
      obtain ⟨n, h1, h2, h3⟩ := okr
      obtain ⟨c, v1, v2, v3, rfl, hc, g1, g2, g3⟩ := dp3 hxd
      cases dp_str g1
      cases dp_str g2
      cases dp_int g3
      refine ⟨_, rfl, _, _, _, _, _, rfl, .ty "tuple", dp_ty hxd, kit_tup K hxd, _, rfl, iteF ⟨_, rfl, c, _, rfl, .inr hc, ?_⟩⟩
      refine ⟨_, rfl, rfl, _, rfl, iteT ⟨_, rfl, c, _, rfl, hc, rfl, _, _, rfl, _, _, rfl, _, _, rfl, rfl, ?_⟩⟩
      refine ⟨_, rfl, _, _, _, _, _, rfl, .ty "str", dp_ty (.str "wait"), kit_str K (H := H) (.str "wait"), _, rfl, iteF ?_⟩
      refine ⟨_, rfl, _, _, _, _, _, rfl, .ty "str", dp_ty (.str b), kit_str K (H := H) (.str b), _, rfl, iteF ?_⟩
      refine ⟨_, rfl, rfl, _, rfl, iteF ⟨_, rfl, rfl, _, rfl, iteNS rfl ?_⟩⟩
      refine ⟨_, rfl, _, _, _, _, _, rfl, .ty "int", dp_ty (.int v), kit_int K (H := H) (.int v), _, rfl, iteF ?_⟩
      refine ⟨_, rfl, _, _, rfl, rfl, _, rfl, ?_⟩
      rw [decide_eq_true h2]
      refine iteT ⟨_, rfl, _, rfl, sz, _, rfl, hz3.get h1, _, _, rfl, rfl, _, rfl, ?_⟩
      rw [decide_eq_true h3]
      refine iteF ⟨_, rfl, _, _, rfl, rfl, _, rfl, iteF ⟨_, rfl, _, _, rfl, rfl, _, rfl, iteF ?_⟩⟩
      exact ⟨_, _, _, _, _, _, _, rfl, sm⟩
    | go ws =>
      obtain ⟨h1, h2, h3, h4⟩ := okr
      obtain ⟨c, v1, v2, rfl, hc, g1, g2⟩ := dp2 hxd
      cases dp_str g1
      refine ⟨_, rfl, _, _, _, _, _, rfl, .ty "tuple", dp_ty hxd, kit_tup K hxd, _, rfl, iteF ⟨_, rfl, c, _, rfl, .inr hc, ?_⟩⟩
      refine ⟨_, rfl, rfl, _, rfl, iteF ⟨_, rfl, rfl, _, rfl, iteT ⟨_, rfl, c, _, rfl, hc, rfl, _, _, rfl, _, _, rfl, rfl, ?_⟩⟩⟩
      refine ⟨_, rfl, _, _, _, _, _, rfl, .ty "str", dp_ty (.str "go"), kit_str K (H := H) (.str "go"), _, rfl, iteF ?_⟩
      refine ⟨_, rfl, rfl, _, rfl, iteT ⟨_, rfl, _, rfl, v2, ws, e, rfl, g2, h1, h2, h3, h4, _, rfl, iteF ?_⟩⟩
      exact ⟨_, _, _, _, _, _, _, rfl, sm⟩
    | call t =>
      have okr' : t ∈ titles := okr
      obtain ⟨c, v1, v2, rfl, hc, g1, g2⟩ := dp2 hxd
      cases dp_str g1
      cases dp_str g2
      obtain ⟨kt, rt, st⟩ := ht3
      refine ⟨_, rfl, _, _, _, _, _, rfl, .ty "tuple", dp_ty hxd, kit_tup K hxd, _, rfl, iteF ⟨_, rfl, c, _, rfl, .inr hc, ?_⟩⟩
      refine ⟨_, rfl, rfl, _, rfl, iteF ⟨_, rfl, rfl, _, rfl, iteT ⟨_, rfl, c, _, rfl, hc, rfl, _, _, rfl, _, _, rfl, rfl, ?_⟩⟩⟩
      refine ⟨_, rfl, _, _, _, _, _, rfl, .ty "str", dp_ty (.str "call"), kit_str K (H := H) (.str "call"), _, rfl, iteF ?_⟩
      refine ⟨_, rfl, rfl, _, rfl, iteF ?_⟩
      refine ⟨_, rfl, _, _, _, _, _, rfl, .ty "str", dp_ty (.str t), kit_str K (H := H) (.str t), _, rfl, iteF ?_⟩
      refine ⟨_, rfl, _, rfl, rfl, _, rfl, iteT ⟨_, rfl, tx, _, rfl, .inl ⟨kt, Sum.inr t, rt, rfl, rfl⟩, _, rfl, ?_⟩⟩
      rw [st t okr']
      exact iteF ⟨_, _, _, _, _, _, _, rfl, sm⟩
    | begin h =>
      have okr' : h ∈ others := okr
      have ne : h ≠ nm := fun z => hnm (z ▸ okr')
      obtain ⟨c, v1, v2, rfl, hc, g1, g2⟩ := dp2 hxd
      cases dp_str g1
      cases dp_str g2
      obtain ⟨kt, rt, st⟩ := hh3
      refine ⟨_, rfl, _, _, _, _, _, rfl, .ty "tuple", dp_ty hxd, kit_tup K hxd, _, rfl, iteF ⟨_, rfl, c, _, rfl, .inr hc, ?_⟩⟩
      refine ⟨_, rfl, rfl, _, rfl, iteF ⟨_, rfl, rfl, _, rfl, iteT ⟨_, rfl, c, _, rfl, hc, rfl, _, _, rfl, _, _, rfl, rfl, ?_⟩⟩⟩
      refine ⟨_, rfl, _, _, _, _, _, rfl, .ty "str", dp_ty (.str "begin"), kit_str K (H := H) (.str "begin"), _, rfl, iteF ?_⟩
      refine ⟨_, rfl, rfl, _, rfl, iteF ?_⟩
      refine ⟨_, rfl, _, _, _, _, _, rfl, .ty "str", dp_ty (.str h), kit_str K (H := H) (.str h), _, rfl, iteF ?_⟩
      refine ⟨_, rfl, _, rfl, rfl, _, rfl, iteF ⟨_, rfl, rfl, _, rfl, iteT ⟨_, rfl, _, rfl, rfl, _, rfl, ?_⟩⟩⟩
      rw [decide_eq_false (show ¬ V.str h = V.str nm from fun z => ne (V.str.inj z))]
      refine iteT ⟨_, rfl, hd, _, rfl, .inl ⟨kt, Sum.inr h, rt, rfl, rfl⟩, _, rfl, ?_⟩
      rw [st h okr']
      exact iteF ⟨_, _, _, _, _, _, _, rfl, sm⟩
    | ift b v r =>
      obtain ⟨n, h1, h2, h3, h4, h5⟩ := okr
      obtain ⟨c, v1, v2, v3, v4, rfl, hc, g1, g2, g3, g4⟩ := dp4 hxd
      cases dp_str g1
      cases dp_str g2
      cases dp_int g3
      cases dp_int g4
      refine ⟨_, rfl, _, _, _, _, _, rfl, .ty "tuple", dp_ty hxd, kit_tup K hxd, _, rfl, iteF ⟨_, rfl, c, _, rfl, .inr hc, ?_⟩⟩
      refine ⟨_, rfl, rfl, _, rfl, iteF ⟨_, rfl, rfl, _, rfl, iteF ⟨_, rfl, rfl, _, rfl, iteT ⟨_, rfl, c, _, rfl, hc, rfl, _, _, rfl, _, _, rfl, _, _, rfl, _, _, rfl, rfl, ?_⟩⟩⟩⟩
      refine ⟨_, rfl, _, _, _, _, _, rfl, .ty "str", dp_ty (.str "if"), kit_str K (H := H) (.str "if"), _, rfl, iteF ?_⟩
      refine ⟨_, rfl, rfl, _, rfl, iteNS rfl ?_⟩
      refine ⟨_, rfl, _, _, _, _, _, rfl, .ty "str", dp_ty (.str b), kit_str K (H := H) (.str b), _, rfl, iteF ?_⟩
      refine ⟨_, rfl, _, _, _, _, _, rfl, .ty "int", dp_ty (.int v), kit_int K (H := H) (.int v), _, rfl, iteF ?_⟩
      refine ⟨_, rfl, _, _, rfl, rfl, _, rfl, ?_⟩
      rw [decide_eq_true h2]
      refine iteT ⟨_, rfl, _, rfl, sz, _, rfl, hz3.get h1, _, _, rfl, rfl, _, rfl, ?_⟩
      rw [decide_eq_true h3]
      refine iteF ⟨_, rfl, _, _, rfl, rfl, _, rfl, iteF ⟨_, rfl, _, _, rfl, rfl, _, rfl, iteF ?_⟩⟩
      refine ⟨_, rfl, _, _, _, _, _, rfl, .ty "int", dp_ty (.int r), kit_int K (H := H) (.int r), _, rfl, iteF ?_⟩
      refine ⟨_, rfl, _, _, rfl, rfl, _, rfl, ?_⟩
      rw [decide_eq_true h4]
      refine iteT ⟨_, rfl, _, _, rfl, rfl, _, rfl, ?_⟩
      rw [decide_eq_true h5]
      refine iteF ⟨_, rfl, _, _, rfl, rfl, _, rfl, iteF ⟨_, rfl, _, _, rfl, rfl, _, rfl, iteF ?_⟩⟩
      exact ⟨_, _, _, _, _, _, _, rfl, sm⟩
    | back =>
      obtain ⟨c, v1, rfl, hc, g1⟩ := dp1 hxd
      cases dp_str g1
      refine ⟨_, rfl, _, _, _, _, _, rfl, .ty "tuple", dp_ty hxd, kit_tup K hxd, _, rfl, iteF ⟨_, rfl, c, _, rfl, .inr hc, ?_⟩⟩
      refine ⟨_, rfl, rfl, _, rfl, iteF ⟨_, rfl, rfl, _, rfl, iteF ⟨_, rfl, rfl, _, rfl, iteF ⟨_, rfl, rfl, _, rfl, iteNS rfl ?_⟩⟩⟩⟩
      refine ⟨_, rfl, c, _, 0, _, rfl, rfl, hc, atI_nat (j := 0) rfl, _, _, _, _, _, rfl, .ty "str", dp_ty (.str "back"), kit_str K (H := H) (.str "back"), _, rfl, iteF ?_⟩
      refine ⟨_, rfl, c, _, 0, _, rfl, rfl, hc, atI_nat (j := 0) rfl, by show 2 ≤ sizeLine; decide, fun p np => ?_⟩
      refine ⟨p, _, rfl, .inr (SqT.of upd_same), rfl, rfl, false, rfl, iteF ?_⟩
      exact ⟨_, _, _, _, _, _, _, rfl, sm.trans (same_new np)⟩
    | fault =>
      obtain ⟨c, v1, rfl, hc, g1⟩ := dp1 hxd
      cases dp_str g1
      refine ⟨_, rfl, _, _, _, _, _, rfl, .ty "tuple", dp_ty hxd, kit_tup K hxd, _, rfl, iteF ⟨_, rfl, c, _, rfl, .inr hc, ?_⟩⟩
      refine ⟨_, rfl, rfl, _, rfl, iteF ⟨_, rfl, rfl, _, rfl, iteF ⟨_, rfl, rfl, _, rfl, iteF ⟨_, rfl, rfl, _, rfl, iteNS rfl ?_⟩⟩⟩⟩
      refine ⟨_, rfl, c, _, 0, _, rfl, rfl, hc, atI_nat (j := 0) rfl, _, _, _, _, _, rfl, .ty "str", dp_ty (.str "fault"), kit_str K (H := H) (.str "fault"), _, rfl, iteF ?_⟩
      refine ⟨_, rfl, c, _, 0, _, rfl, rfl, hc, atI_nat (j := 0) rfl, by show 2 ≤ sizeLine; decide, fun p np => ?_⟩
      refine ⟨p, _, rfl, .inr (SqT.of upd_same), rfl, rfl, false, rfl, iteF ?_⟩
      exact ⟨_, _, _, _, _, _, _, rfl, sm.trans (same_new np)⟩
  · obtain ⟨_, _, _, _, _, _, _, rfl, sm⟩ := hP
    exact q H3 sm
end
end PP

set_option maxHeartbeats 4000000
namespace PP
open PySem PySem.Spec PyProof.Rows L2 G3 M0 PA
abbrev nScopes : List Str := ["common", "hands", "scopes", "hand", "name", "own", "thing", "sizes", "texts", "text", "title", "rows"]
theorem scScopes : FnScope nScopes ["common", "hands"] (defScope s_scopes_of) := ⟨rfl, rfl, rfl, by decide +kernel, rfl, by decide +kernel, by decide +kernel⟩
def txtK (x : Text × V) : Key × V := (Sum.inr x.1.1, x.2)
/-- what stands for a hand -/
def HandAt (K : PySem.W.Frag) (H0 H : Hp) (sc : Addr) (bs : List Box) (h : Hand) (e : Key × V) : Prop := ∃ (t z x : Addr) (vs : List V), e = (Sum.inr h.1, .ref t) ∧ H t = some (.tup [.ref z, .ref x]) ∧ H z = some (.dK ((bs ++ h.2.1).map boxK)) ∧ H x = some (.dK ((h.2.2.zip vs).map txtK)) ∧ z ≠ sc ∧ x ≠ sc ∧ H0 x = none ∧
  DpAll K H0 vs (h.2.2.map fun t => rowsD t.2)
def ScopesAt (K : PySem.W.Frag) (H0 H : Hp) (sc : Addr) (bs : List Box) (hs : List Hand) : Prop := ∃ kvs, H sc = some (.dK kvs) ∧ kvs.length = hs.length ∧ ∀ (i : Nat) (h : Hand) (e : Key × V), hs[i]? = some h → kvs[i]? = some e → HandAt K H0 H sc bs h e
theorem HandAt.keep {K : PySem.W.Frag} {H0 H H' : Hp} {sc : Addr} {bs : List Box} {h : Hand} {e : Key × V} (a : HandAt K H0 H sc bs h e) (s : ∀ b o, b ≠ sc → H b = some o → H' b = some o) (ns : ∀ xs, H sc ≠ some (.tup xs)) : HandAt K H0 H' sc bs h e := by
  obtain ⟨t, z, x, vs, e1, h1, h2, h3, n1, n2, nx, d⟩ := a
  exact ⟨t, z, x, vs, e1, s _ _ (fun q => ns _ (q ▸ h1)) h1, s _ _ n1 h2, s _ _ n2 h3, n1, n2, nx, d⟩
theorem val_names {kvs : List (Key × V)} {hs : List Hand} {nm : Str} (hl : kvs.length ≤ hs.length) (hk : ∀ (i : Nat) (h : Hand) (e : Key × V), hs[i]? = some h → kvs[i]? = some e → e.1 = Sum.inr h.1) (hn : ∀ h ∈ hs.take kvs.length, h.1 ≠ nm) : valV kvs (Sum.inr nm) = none := by
  unfold valV
  rw [Option.map_eq_none_iff, List.find?_eq_none]
  intro e he z
  obtain ⟨i, hi, rfl⟩ := List.getElem_of_mem he
  have hh : i < hs.length := by omega
  have e1 := hk i hs[i] kvs[i] (List.getElem?_eq_getElem hh) (List.getElem?_eq_getElem hi)
  have e2 := of_decide_eq_true z
  rw [e1] at e2
  refine hn hs[i] ?_ (Sum.inr.inj e2)
  exact List.mem_take_iff_getElem.mpr ⟨i, by omega, rfl⟩
theorem val_txts {ts : List Text} {vs : List V} {j : Nat} {z : Str} (hn : ∀ t ∈ ts.take j, t.1 ≠ z) : valV (((ts.zip vs).take j).map txtK) (Sum.inr z) = none := by
  unfold valV
  rw [Option.map_eq_none_iff, List.find?_eq_none]
  intro e he q
  obtain ⟨x, hx, rfl⟩ := List.mem_map.mp he
  obtain ⟨i, hi, ei⟩ := List.mem_take_iff_getElem.mp hx
  have hz : i < (ts.zip vs).length := by omega
  have ht : i < ts.length := by
    rw [List.length_zip] at hz
    omega
  have e2 : x.1 = ts[i] := by
    rw [← ei, List.getElem_zip]
  refine hn x.1 ?_ (Sum.inr.inj (of_decide_eq_true q))
  rw [e2]
  exact List.mem_take_iff_getElem.mpr ⟨i, by omega, rfl⟩
/-- the rows of each text -/
theorem txts_of {K : PySem.W.Frag} {H : Hp} : ∀ {tl : List Text} {ws : List V}, DpAll K H ws (tl.map textD) → ∃ us : List V, us.length = tl.length ∧ (∀ (j : Nat) (t : Text) (y : V), tl[j]? = some t → ws[j]? = some y → ∃ (ca : Addr) (r : V), us[j]? = some r ∧ y = .ref ca ∧ SqT K H ca [.str t.1, r] ∧ Dp K H r (rowsD t.2)) ∧ DpAll K H us (tl.map fun t => rowsD t.2)
  | [], _, h => by
    cases h
    exact ⟨[], rfl, fun j t y e => by simp at e, .nil⟩
  | t :: tl, _, h => by
    cases h with
    | cons k1 k2 =>
      obtain ⟨ca, r1, r2, rfl, kc, m1, m2⟩ := dp2 k1
      cases dp_str m1
      obtain ⟨us, e1, e2, e3⟩ := txts_of k2
      refine ⟨r2 :: us, by rw [List.length_cons, List.length_cons, e1], fun j t' y a b => ?_, .cons m2 e3⟩
      cases j with
      | zero =>
        simp at a b
        subst a b
        exact ⟨ca, r2, rfl, rfl, kc, m2⟩
      | succ j =>
        simp at a b
        obtain ⟨ca', r', q1, q2⟩ := e2 j t' y a b
        exact ⟨ca', r', by simpa using q1, q2⟩
structure HandsOk (bs : List Box) (hs : List Hand) : Prop where
  few : hs.length ≤ 4
  nm : ∀ h ∈ hs, nameB h.1 = true
  nd : (hs.map (·.1)).Nodup
  own : ∀ h ∈ hs, BoxesOk h.2.1 24 8 (bs.map (·.1))
  txt : ∀ h ∈ hs, 1 ≤ h.2.2.length ∧ h.2.2.length ≤ 32 ∧ (∀ t ∈ h.2.2, nameB t.1 = true ∧ 1 ≤ t.2.length ∧ t.2.length ≤ 2000) ∧ (h.2.2.map (·.1)).Nodup
theorem val_bs {bs : List Box} {z : Str} (h : z ∉ bs.map (·.1)) : valV (bs.map boxK) (Sum.inr z) = none := by
  have := val_boxes [] bs z rfl fun b hb e => h (e ▸ List.mem_map_of_mem hb)
  rw [List.nil_append] at this
  exact this
section
variable {P : Program} {w : World} {K : PySem.W.Frag} {mg : Str → Option Value} {base : Heap}
def spScopes (K : PySem.W.Frag) : Sp := fun vs H Q _ => ∃ (cA : Addr) (v : V) (bs : List Box) (hs : List Hand), vs = [.ref cA, v] ∧ H cA = some (.dK (bs.map boxK)) ∧ bs.length ≤ 8 ∧ Dp K H v (.tuple (hs.map handD)) ∧ HandsOk bs hs ∧
  ∀ H' sc, Same H H' → H sc = none → ScopesAt K H H' sc bs hs → Q (.ref sc) H'
set_option maxHeartbeats 8000000 in
theorem ok_scopes {f : Addr} {fd : FuncData} {k : Nat} {t8 t24 t9 t32 t2k : Tok} (F : Fun K "scopes_of" "scopes_of" s_scopes_of f fd) (DB : Def P w K mg base CX0 (k + 1) "are_boxes" ["thing", "most", "greatest", "sizes"] (spBoxes K))
    (mi : mg "isinstance" = none) (mt : mg "tuple" = none) (ms : mg "str" = none) (ml : mg "len" = none) (m8 : mg "LONGEST_NAME" = some (.int 8 t8)) (m24 : mg "MOST_OWN" = some (.int 24 t24)) (m9 : mg "GREATEST_OWN" = some (.int 8 t9)) (m32 : mg "MOST_TEXTS" = some (.int 32 t32)) (m2k : mg "MOST_ROWS" = some (.int 2000 t2k)) :
    FnOk P w K mg base CX0 (k + 1 + 1) f fd ["common", "hands"] (spScopes K) := by
  refine F.ok scScopes (fun vs H Q E h => ?_) (fun cdv A outer s H vs Q E hr h => ?_)
  · obtain ⟨cA, v, bs, hs, rfl, _⟩ := h
    rfl
  obtain ⟨cA, v, bs, hs, rfl, hcA, hb8, hv, ok, q⟩ := h
  have nd := scScopes.nd
  have hu := hu_of hr
  refine ⟨_, pss_cons (ps_set (i := 2) nd rfl (.inl rfl) pe_dnewK)
    (pss_cons (ps_for PassesOwn.never rfl (pi_tup (pv 1)) (pg_name (i := 3) nd rfl (.inl rfl))
      (pss_cons (ps_if (PW.pt (pw_or (pt_not (pt_val (pe_callB call_isi (by rfl) mi PyProof.Rows.boot_isinstance (pa_cons (pv 3) (pa_cons (pe_bltn (by rfl) mt (u := .type "tuple") (by decide +kernel) (show RelV (.ty "tuple") (.type "tuple") from rfl)) pa_nil)))))
          (pw_or1 (pt_cmpR op_ne (pe_callB call_len_seq (by rfl) ml PySem.boot_len (pa_cons (pv 3) pa_nil)) pe_int (nomark _))))) (pss_one ps_dead) pss_nil)
      (pss_cons (ps_asg (pv 3) (pg_tup rfl (pgs_cons (pg_name (i := 4) nd rfl (.inl rfl)) (pgs_cons (pg_name (i := 5) nd rfl (.inl rfl)) (pgs_cons (pg_name (i := 6) nd rfl (.inl rfl)) pgs_nil)))))
      (pss_cons (ps_if (PW.pt (pw_or (pt_not (pt_val (pe_callB call_isi (by rfl) mi PyProof.Rows.boot_isinstance (pa_cons (pv 4) (pa_cons (pe_bltn (by rfl) ms (u := .type "str") (by decide +kernel) (show RelV (.ty "str") (.type "str") from rfl)) pa_nil)))))
          (pw_or (pt_cmp (pc_din hu (pv 4) (pv 2)))
          (pw_or (pt_cmpR op_gt (pe_callB call_len_str (by rfl) ml PySem.boot_len (pa_cons (pv 4) pa_nil)) (pe_glob (v := .int 8) (by rfl) m8 ⟨_, rfl⟩) (nomark _))
          (pw_or1 (pt_not (pt_val (pe_callB call_isi (by rfl) mi PyProof.Rows.boot_isinstance (pa_cons (pv 6) (pa_cons (pe_bltn (by rfl) mt (u := .type "tuple") (by decide +kernel) (show RelV (.ty "tuple") (.type "tuple") from rfl)) pa_nil)))))))))) (pss_one ps_dead) pss_nil)
      (pss_cons (ps_if (PW.pt (pw_or (pt_not (pt_val (pe_m0 PySem.F.slot_str_isascii PySem.F.type_str_isascii mt_isascii (pv 4))))
          (pw_or (pt_not (pt_val (pe_m0 PySem.F.slot_str_isalpha PySem.F.type_str_isalpha mt_isalpha (pv 4))))
          (pw_or (pt_not (pt_val (pe_m0 PySem.F.slot_str_islower PySem.F.type_str_islower mt_islower (pv 4))))
          (pw_or1 (pt_not (pt_chain op_le op_le pe_int (pe_callB call_len_seq (by rfl) ml PySem.boot_len (pa_cons (pv 6) pa_nil)) (pe_glob (v := .int 32) (by rfl) m32 ⟨_, rfl⟩)))))))) (pss_one ps_dead) pss_nil)
      (pss_cons (ps_set (i := 7) nd rfl (.inl rfl) (pe_bm0 PySem.F.plainAttrs_dict PySem.F.slot_dict_copy PySem.F.type_dict_copy mt_copy (pv 0)))
      (pss_cons (ps_if (pt_not (pt_val (pe_call DB.ok hr (by rfl) DB.g DB.kp DB.b .nil pass0 (pa_cons (pv 5) (pa_cons (pe_glob (v := .int 24) (by rfl) m24 ⟨_, rfl⟩) (pa_cons (pe_glob (v := .int 8) (by rfl) m9 ⟨_, rfl⟩) (pa_cons (pv 7) pa_nil))))))) (pss_one ps_dead) pss_nil)
      (pss_cons (ps_set (i := 8) nd rfl (.inl rfl) pe_dnewK)
      (pss_cons (ps_for PassesOwn.never rfl (pi_tup (pv 6)) (pg_name (i := 9) nd rfl (.inl rfl))
        (pss_cons (ps_if (PW.pt (pw_or (pt_not (pt_val (pe_callB call_isi (by rfl) mi PyProof.Rows.boot_isinstance (pa_cons (pv 9) (pa_cons (pe_bltn (by rfl) mt (u := .type "tuple") (by decide +kernel) (show RelV (.ty "tuple") (.type "tuple") from rfl)) pa_nil)))))
            (pw_or1 (pt_cmpR op_ne (pe_callB call_len_seq (by rfl) ml PySem.boot_len (pa_cons (pv 9) pa_nil)) pe_int (nomark _))))) (pss_one ps_dead) pss_nil)
        (pss_cons (ps_asg (pv 9) (pg_tup rfl (pgs_cons (pg_name (i := 10) nd rfl (.inl rfl)) (pgs_cons (pg_name (i := 11) nd rfl (.inl rfl)) pgs_nil))))
        (pss_cons (ps_if (PW.pt (pw_or (pt_not (pt_val (pe_callB call_isi (by rfl) mi PyProof.Rows.boot_isinstance (pa_cons (pv 10) (pa_cons (pe_bltn (by rfl) ms (u := .type "str") (by decide +kernel) (show RelV (.ty "str") (.type "str") from rfl)) pa_nil)))))
            (pw_or (pt_cmp (pc_din hu (pv 10) (pv 8)))
            (pw_or1 (pt_cmpR op_gt (pe_callB call_len_str (by rfl) ml PySem.boot_len (pa_cons (pv 10) pa_nil)) (pe_glob (v := .int 8) (by rfl) m8 ⟨_, rfl⟩) (nomark _)))))) (pss_one ps_dead) pss_nil)
        (pss_cons (ps_if (PW.pt (pw_or (pt_not (pt_val (pe_m0 PySem.F.slot_str_isascii PySem.F.type_str_isascii mt_isascii (pv 10))))
            (pw_or (pt_not (pt_val (pe_m0 PySem.F.slot_str_isalpha PySem.F.type_str_isalpha mt_isalpha (pv 10))))
            (pw_or1 (pt_not (pt_val (pe_m0 PySem.F.slot_str_islower PySem.F.type_str_islower mt_islower (pv 10)))))))) (pss_one ps_dead) pss_nil)
        (pss_cons (ps_if (PW.pt (pw_or (pt_not (pt_val (pe_callB call_isi (by rfl) mi PyProof.Rows.boot_isinstance (pa_cons (pv 11) (pa_cons (pe_bltn (by rfl) mt (u := .type "tuple") (by decide +kernel) (show RelV (.ty "tuple") (.type "tuple") from rfl)) pa_nil)))))
            (pw_or1 (pt_not (pt_chain op_le op_le pe_int (pe_callB call_len_seq (by rfl) ml PySem.boot_len (pa_cons (pv 11) pa_nil)) (pe_glob (v := .int 2000) (by rfl) m2k ⟨_, rfl⟩)))))) (pss_one ps_dead) pss_nil)
        (pss_one (ps_dput hu (pv 8) (pv 10) (pv 11) rfl))))))))
      (pss_one (ps_dput hu (pv 2) (pv 4) (pe_tup (pa_cons (pv 7) (pa_cons (pv 8) pa_nil))) rfl)))))))))))
    (pss_one (ps_ret (pv 2)))), ?_⟩
  obtain ⟨a, xs, rfl, hs1, hall⟩ := dp_tup hv
  have hxl : xs.length = hs.length := by rw [dpAll_len hall, List.length_map]
  intro sc nsc
  have s1 : Same H (upd H sc (.dK [])) := same_new nsc
  refine ⟨_, rfl, a, rfl, ⟨_, same_tup s1 hs1⟩, for_tup (xs := xs)
    (fun i σ H3 => ∃ y3 y4 y5 y6 y7 y8 y9 y10 y11 kvs, σ = [some (.ref cA), some (.ref a), some (.ref sc), y3, y4, y5, y6, y7, y8, y9, y10, y11] ∧ Same H H3 ∧ H3 sc = some (.dK kvs) ∧ kvs.length = i ∧ ∀ (j : Nat) (h : Hand) (e : Key × V), hs[j]? = some h → kvs[j]? = some e → HandAt K H H3 sc bs h e)
    ⟨none, none, none, none, none, none, none, none, none, [], rfl, s1, upd_same, rfl, fun j h e _ z => by simp at z⟩ (fun i σ H3 _ hP => ?_) (fun i x σ H3 hx hP => ?_) (fun σ H3 hP => ?_)⟩
  · obtain ⟨_, _, _, _, _, _, _, _, _, _, _, sm, _⟩ := hP
    exact same_tup sm hs1
  · obtain ⟨y3, y4, y5, y6, y7, y8, y9, y10, y11, kvs, rfl, sm, hsc, hkl, hat⟩ := hP
    obtain ⟨d, hd1, hxd0⟩ := dpAll_get hall hx
    rw [List.getElem?_map] at hd1
    obtain ⟨h, hh1, rfl⟩ := Option.map_eq_some_iff.mp hd1
    have mh := List.mem_of_getElem? hh1
    have hi : i < hs.length := (List.getElem?_eq_some_iff.mp hh1).1
    have hfew := ok.few
    obtain ⟨p1, p2, p3, p4⟩ := name_parts (ok.nm h mh)
    obtain ⟨t1, t32, tnm, tnd⟩ := ok.txt h mh
    have own := ok.own h mh
    have hxd := dp_same sm _ _ hxd0
    obtain ⟨c, v1, v2, v3, rfl, hc0, g1, g20, g30⟩ := dp3 hxd0
    cases dp_str g1
    obtain ⟨ta, ws, rfl, hta0, hws⟩ := dp_tup g30
    have hc := same_tup sm hc0
    have g2 := dp_same sm _ _ g20
    have g3 := dp_same sm _ _ g30
    have hta := same_tup sm hta0
    have hwl : ws.length = h.2.2.length := by rw [dpAll_len hws, List.length_map]
    have hno : valV kvs (Sum.inr h.1) = none := val_names (hs := hs) (by omega) (fun j h' e a b => by
      obtain ⟨t, z, x, vs, e1, _⟩ := hat j h' e a b
      rw [e1]) (by rw [hkl]; exact take_fresh (·.1) ok.nd hh1)
    refine ⟨_, rfl, _, _, _, _, _, rfl, .ty "tuple", dp_ty hxd, kit_tup K hxd, _, rfl, iteF ⟨_, rfl, c, _, rfl, .inr hc, rfl, _, rfl, iteNS rfl ?_⟩⟩
    refine ⟨_, rfl, c, _, rfl, hc, rfl, _, _, rfl, _, _, rfl, _, _, rfl, rfl, ?_⟩
    refine ⟨_, rfl, _, _, _, _, _, rfl, .ty "str", dp_ty (.str h.1), kit_str K (H := H) (.str h.1), _, rfl, iteF ⟨_, rfl, _, rfl, sc, _, rfl, DGet.k (k := Sum.inr h.1) hsc, _, rfl, ?_⟩⟩
    rw [hno]
    refine iteF ⟨_, rfl, h.1, rfl, small_le (by omega), _, _, rfl, rfl, _, rfl, ?_⟩
    rw [decide_eq_false (show ¬ (8 : Int) < (h.1.length : Int) by omega)]
    refine iteF ⟨_, rfl, _, _, _, _, _, rfl, .ty "tuple", dp_ty g3, kit_tup K g3, _, rfl, iteF ?_⟩
    refine ⟨_, rfl, ⟨_, rfl⟩, _, rfl, rfl, trivial, _, rfl, ?_⟩
    rw [p2]
    refine iteF ⟨_, rfl, ⟨_, rfl⟩, _, rfl, rfl, trivial, _, rfl, ?_⟩
    rw [p3]
    refine iteF ⟨_, rfl, ⟨_, rfl⟩, _, rfl, rfl, trivial, _, rfl, ?_⟩
    rw [p4]
    refine iteF ⟨_, rfl, ta, _, rfl, .inr hta, _, _, rfl, rfl, _, rfl, ?_⟩
    rw [decide_eq_true (show (1 : Int) ≤ (ws.length : Int) by omega)]
    refine iteT ⟨_, _, rfl, rfl, _, rfl, ?_⟩
    rw [decide_eq_true (show (ws.length : Int) ≤ 32 by omega)]
    -- the sizes
    have hcA3 := sm _ _ hcA
    refine iteF ⟨_, rfl, .inr (.inr (.inl ⟨rfl, .inl ⟨_, hcA3⟩⟩)), cA, _, rfl, rfl, hcA3, fun z nz => ?_⟩
    have s4 : Same H3 (upd H3 z (.dK (bs.map boxK))) := same_new nz
    have ezs : z ≠ sc := fun e => by
      rw [e, hsc] at nz
      cases nz
    have hz4 : (upd H3 z (.dK (bs.map boxK))) z = some (.dK (bs.map boxK)) := upd_same
    refine ⟨_, rfl, _, rfl, v2, h.2.1, 24, 8, z, _, rfl, dp_same s4 _ _ g2, hz4, ?_, own.len, fun b hb => ?_, own.nd, _, rfl, iteF ?_⟩
    · have := own.len
      rw [List.length_map]
      omega
    · obtain ⟨q1, q2, q3, q4⟩ := own.nm b hb
      exact ⟨q1, q2, q3, val_bs q4⟩
    have nzH : H z = none := same_none sm nz
    have e5 : upd (upd H3 z (.dK (bs.map boxK))) z (.dK (bs.map boxK ++ h.2.1.map boxK)) = upd H3 z (.dK ((bs ++ h.2.1).map boxK)) := by
      funext b
      by_cases e : b = z
      · rw [e, upd_same, upd_same, List.map_append]
      · rw [upd_ne e, upd_ne e, upd_ne e]
    rw [e5]
    have s5 : Same H3 (upd H3 z (.dK ((bs ++ h.2.1).map boxK))) := same_new nz
    have hz5 : (upd H3 z (.dK ((bs ++ h.2.1).map boxK))) z = some (.dK ((bs ++ h.2.1).map boxK)) := upd_same
    generalize upd H3 z (.dK ((bs ++ h.2.1).map boxK)) = H5 at s5 hz5 ⊢
    clear e5 s4 hz4
    -- the texts
    intro x nx
    have exs : x ≠ sc := fun e => by
      rw [e, s5 _ _ hsc] at nx
      cases nx
    have exz : x ≠ z := fun e => by
      rw [e, hz5] at nx
      cases nx
    have nxH : H x = none := same_none (sm.trans s5) nx
    have hta5 := same_tup s5 hta
    obtain ⟨us, hul, hut, hud⟩ := txts_of hws
    have s6 : Same H5 (upd H5 x (.dK [])) := same_new nx
    refine ⟨_, rfl, ta, rfl, ⟨_, same_tup s6 hta5⟩, for_tup (xs := ws)
      (fun j σ H6 => ∃ w9 w10 w11, σ = [some (.ref cA), some (.ref a), some (.ref sc), some (.ref c), some (.str h.1), some v2, some (.ref ta), some (.ref z), some (.ref x), w9, w10, w11] ∧ H6 = upd H5 x (.dK (((h.2.2.zip us).take j).map txtK)))
      ⟨y9, y10, y11, rfl, rfl⟩ (fun j σ H6 _ hQ => ?_) (fun j y σ H6 hy hQ => ?_) (fun σ H6 hQ => ?_)⟩
    · obtain ⟨_, _, _, _, rfl⟩ := hQ
      exact same_tup (same_new nx) hta5
    · obtain ⟨w9, w10, w11, rfl, rfl⟩ := hQ
      have hj : j < h.2.2.length := by
        have := (List.getElem?_eq_some_iff.mp hy).1
        omega
      obtain ⟨ca, r, hr1, rfl, hca00, hr00⟩ := hut j h.2.2[j] y (List.getElem?_eq_getElem hj) hy
      have hca0 := same_tup (sm.trans s5) hca00
      have hr0 := dp_same (sm.trans s5) _ _ hr00
      clear hca00 hr00
      have et : h.2.2[j]? = some h.2.2[j] := List.getElem?_eq_getElem hj
      generalize h.2.2[j] = t at et hca0 hr0
      have mt2 := List.mem_of_getElem? et
      obtain ⟨k1, k2, k3⟩ := tnm t mt2
      obtain ⟨n1, n2, n3, n4⟩ := name_parts k1
      have sx : Same H5 (upd H5 x (.dK (((h.2.2.zip us).take j).map txtK))) := same_new nx
      have hca := same_tup sx hca0
      have hrd := dp_same sx _ _ hr0
      have hx6 : (upd H5 x (.dK (((h.2.2.zip us).take j).map txtK))) x = some (.dK (((h.2.2.zip us).take j).map txtK)) := upd_same
      have hno2 : valV (((h.2.2.zip us).take j).map txtK) (Sum.inr t.1) = none := val_txts (take_fresh (·.1) tnd et)
      have htd : Dp K (upd H5 x (.dK (((h.2.2.zip us).take j).map txtK))) (.ref ca) (textD t) := .tup hca (.cons (.str _) (.cons hrd .nil))
      obtain ⟨ra, rws, rfl, hra, hrr⟩ := dp_tup hrd
      have hrl : rws.length = t.2.length := by rw [dpAll_len hrr, List.length_map]
      refine ⟨_, rfl, _, _, _, _, _, rfl, .ty "tuple", dp_ty htd, kit_tup K htd, _, rfl, iteF ⟨_, rfl, ca, _, rfl, .inr hca, rfl, _, rfl, iteNS rfl ?_⟩⟩
      refine ⟨_, rfl, ca, _, rfl, hca, rfl, _, _, rfl, _, _, rfl, rfl, ?_⟩
      refine ⟨_, rfl, _, _, _, _, _, rfl, .ty "str", dp_ty (.str t.1), kit_str K (H := H) (.str t.1), _, rfl, iteF ⟨_, rfl, _, rfl, x, _, rfl, DGet.k (k := Sum.inr t.1) hx6, _, rfl, ?_⟩⟩
      rw [hno2]
      refine iteF ⟨_, rfl, t.1, rfl, small_le (by omega), _, _, rfl, rfl, _, rfl, ?_⟩
      rw [decide_eq_false (show ¬ (8 : Int) < (t.1.length : Int) by omega)]
      refine iteF ⟨_, rfl, ⟨_, rfl⟩, _, rfl, rfl, trivial, _, rfl, ?_⟩
      rw [n2]
      refine iteF ⟨_, rfl, ⟨_, rfl⟩, _, rfl, rfl, trivial, _, rfl, ?_⟩
      rw [n3]
      refine iteF ⟨_, rfl, ⟨_, rfl⟩, _, rfl, rfl, trivial, _, rfl, ?_⟩
      rw [n4]
      refine iteF ⟨_, rfl, _, _, _, _, _, rfl, .ty "tuple", dp_ty hrd, kit_tup K hrd, _, rfl, iteF ?_⟩
      refine ⟨_, rfl, ra, _, rfl, .inr hra, _, _, rfl, rfl, _, rfl, ?_⟩
      rw [decide_eq_true (show (1 : Int) ≤ (rws.length : Int) by omega)]
      refine iteT ⟨_, _, rfl, rfl, _, rfl, ?_⟩
      rw [decide_eq_true (show (rws.length : Int) ≤ 2000 by omega)]
      refine iteF ⟨_, rfl, _, rfl, _, rfl, x, _, rfl, DPut.k (k := Sum.inr t.1) hx6 ?_, ?_⟩
      · rw [List.length_map, List.length_take]
        exact small_lt (by omega)
      · refine ⟨_, _, _, rfl, ?_⟩
        have ez : (h.2.2.zip us)[j]? = some (t, .ref ra) := by
          rw [List.getElem?_zip_eq_some]
          exact ⟨et, hr1⟩
        have e1 : ((h.2.2.zip us).take (j + 1)).map txtK = ((h.2.2.zip us).take j).map txtK ++ [txtK (t, .ref ra)] := by
          rw [List.take_succ, ez, List.map_append]
          rfl
        rw [putK_new _ hno2, e1]
        funext b
        by_cases e : b = x
        · rw [e, upd_same, upd_same]
          rfl
        · rw [upd_ne e, upd_ne e, upd_ne e]
    · obtain ⟨w9, w10, w11, rfl, rfl⟩ := hQ
      have ez : (h.2.2.zip us).take ws.length = h.2.2.zip us := List.take_of_length_le (by rw [List.length_zip]; omega)
      rw [ez]
      have s7 : Same H5 (upd H5 x (.dK ((h.2.2.zip us).map txtK))) := same_new nx
      have hx7 : (upd H5 x (.dK ((h.2.2.zip us).map txtK))) x = some (.dK ((h.2.2.zip us).map txtK)) := upd_same
      have hz7 := s7 _ _ hz5
      have hsc7 := s7 _ _ (s5 _ _ hsc)
      have s37 := s5.trans s7
      generalize upd H5 x (.dK ((h.2.2.zip us).map txtK)) = H7 at s7 hx7 hz7 hsc7 s37 ⊢
      refine ⟨_, rfl, _, rfl, by show 2 ≤ sizeLine; decide, fun t nt => ?_⟩
      have s8 : Same H7 (upd H7 t (.tup [.ref z, .ref x])) := same_new nt
      have ht8 : (upd H7 t (.tup [.ref z, .ref x])) t = some (.tup [.ref z, .ref x]) := upd_same
      have hsc8 := s8 _ _ hsc7
      have hx8 := s8 _ _ hx7
      have hz8 := s8 _ _ hz7
      have s38 := s37.trans s8
      generalize upd H7 t (.tup [.ref z, .ref x]) = H8 at s8 ht8 hsc8 hx8 hz8 s38 ⊢
      refine ⟨_, rfl, _, rfl, sc, _, rfl, DPut.k (k := Sum.inr h.1) hsc8 (small_lt (by omega)), ?_⟩
      rw [putK_new _ hno]
      refine ⟨_, _, _, _, _, _, _, _, _, kvs ++ [(Sum.inr h.1, .ref t)], rfl, same_put (sm.trans s38) nsc, upd_same, by rw [List.length_append, hkl]; rfl, fun j h' e a b => ?_⟩
      have up : ∀ (b : Addr) (o : HO), b ≠ sc → H8 b = some o → (upd H8 sc (.dK (kvs ++ [(Sum.inr h.1, .ref t)]))) b = some o := fun b o nb q => by
        rw [upd_ne nb]
        exact q
      by_cases ej : j = i
      · subst ej
        rw [hh1] at a
        cases a
        rw [List.getElem?_append_right (by omega)] at b
        have b2 : e = (Sum.inr h.1, .ref t) := by
          rw [hkl, Nat.sub_self] at b
          simpa using b.symm
        subst b2
        refine ⟨t, z, x, us, rfl, up _ _ (fun q => by rw [q, hsc8] at ht8; cases ht8) ht8, up _ _ ezs hz8, up _ _ exs hx8, ezs, exs, nxH, hud⟩
      · have hj : j < kvs.length := by
          have := (List.getElem?_eq_some_iff.mp b).1
          rw [List.length_append] at this
          simp at this
          omega
        rw [List.getElem?_append_left hj] at b
        exact (hat j h' e a b).keep (fun b o nb q => up b o nb (s38 _ _ q)) fun xs z => by rw [hsc] at z; cases z
  · obtain ⟨_, _, _, _, _, _, _, _, _, kvs, rfl, sm, hsc, hkl, hat⟩ := hP
    exact ⟨_, rfl, q H3 sc sm nsc ⟨kvs, hsc, by omega, hat⟩⟩
end
end PP

set_option maxHeartbeats 4000000
namespace PP
open PySem PySem.Spec PyProof.Rows L2 G3 M0 PA
abbrev nAll : List Str := ["scopes", "name", "sizes", "texts", "rows"]
abbrev nLook : List Str := ["thing", "boxes", "hands", "common", "scopes"]
theorem scAll : FnScope nAll ["scopes"] (defScope s_are_all_rows) := ⟨rfl, rfl, rfl, by decide +kernel, rfl, by decide +kernel, by decide +kernel⟩
theorem scLook : FnScope nLook ["thing"] (defScope s_look_at_program) := ⟨rfl, rfl, rfl, by decide +kernel, rfl, by decide +kernel, by decide +kernel⟩
/-- locked, gone on, let go -/
theorem unlock_same {G H' : Hp} {d : Addr} {u : HO} {od : Obj} (h : G d = some u) (s : Same (upd G d (.frz od u)) H') : Same G (upd H' d u) := fun b o e => by
  by_cases z : b = d
  · rw [z, h] at e
    rw [z, upd_same]
    exact e
  · rw [upd_ne z]
    exact s b o (by rw [upd_ne z]; exact e)
theorem size_val {bs : List Box} {o : Str} {m : Int} (h : size? bs o = some m) : valV (bs.map boxK) (Sum.inr o) = some (.int m) := by
  unfold size? at h
  unfold valV
  obtain ⟨b, hb, rfl⟩ := Option.map_eq_some_iff.mp h
  rw [List.find?_map]
  have e : bs.find? ((fun kv : Key × V => decide (kv.1 = Sum.inr o)) ∘ boxK) = bs.find? fun x => decide (x.1 = o) := by
    congr 1
    funext x
    show decide ((Sum.inr x.1 : Key) = Sum.inr o) = decide (x.1 = o)
    rw [decide_eq_decide]
    exact ⟨fun z => Sum.inr.inj z, fun z => congrArg _ z⟩
  rw [e, hb]
  rfl
theorem txt_val {ts : List Text} {us : List V} (hl : us.length = ts.length) : ∀ z ∈ ts.map (·.1), (valV ((ts.zip us).map txtK) (Sum.inr z)).isSome = true := by
  intro z hz
  obtain ⟨t, ht, rfl⟩ := List.mem_map.mp hz
  obtain ⟨i, hi, e⟩ := List.getElem_of_mem ht
  rw [← valV_any, List.any_eq_true]
  refine ⟨txtK (t, us[i]'(by omega)), List.mem_map.mpr ⟨(t, us[i]'(by omega)), ?_, rfl⟩, decide_eq_true rfl⟩
  refine List.mem_of_getElem? (i := i) ?_
  rw [List.getElem?_zip_eq_some]
  exact ⟨by rw [List.getElem?_eq_getElem hi, e], List.getElem?_eq_getElem _⟩
theorem name_val {kvs : List (Key × V)} {hs : List Hand} (hl : kvs.length = hs.length) (hk : ∀ (i : Nat) (h : Hand) (e : Key × V), hs[i]? = some h → kvs[i]? = some e → e.1 = Sum.inr h.1) : ∀ z ∈ hs.map (·.1), (valV kvs (Sum.inr z)).isSome = true := by
  intro z hz
  obtain ⟨h, hh, rfl⟩ := List.mem_map.mp hz
  obtain ⟨i, hi, e⟩ := List.getElem_of_mem hh
  rw [← valV_any, List.any_eq_true]
  have hi2 : i < kvs.length := by omega
  have e2 := hk i h kvs[i] (by rw [List.getElem?_eq_getElem hi, e]) (List.getElem?_eq_getElem hi2)
  exact ⟨kvs[i], List.getElem_mem hi2, decide_eq_true e2⟩
section
variable {P : Program} {w : World} {K : PySem.W.Frag} {mg : Str → Option Value} {base : Heap}
def spAll (K : PySem.W.Frag) : Sp := fun vs H Q _ => ∃ (sc : Addr) (H0 : Hp) (bs : List Box) (hs : List Hand), vs = [.ref sc] ∧ Same H0 H ∧ H0 sc = none ∧ ScopesAt K H0 H sc bs hs ∧
  (∀ h ∈ hs, TextsOk (bs ++ h.2.1) ((hs.map (·.1)).filter fun z => decide (z ≠ h.1)) h.2.2) ∧ ∀ H', Same H H' → Q (.bl true) H'
set_option maxHeartbeats 8000000 in
theorem ok_all {f : Addr} {fd : FuncData} {k : Nat} (F : Fun K "are_all_rows" "are_all_rows" s_are_all_rows f fd) (DR : Def P w K mg base CX0 (k + 1) "are_rows" ["rows", "end", "sizes", "texts", "hands", "name"] (spRows K)) (ml : mg "len" = none) (mk : mg "KeyError" = none) : FnOk P w K mg base CX0 (k + 1 + 1) f fd ["scopes"] (spAll K) := by
  refine F.ok scAll (fun vs H Q E h => ?_) (fun cdv A outer s H vs Q E hr h => ?_)
  · obtain ⟨sc, H0, bs, hs, rfl, _⟩ := h
    rfl
  obtain ⟨sc, H0, bs, hs, rfl, s0, nsc, ⟨kvs, hsc, hkl, hat⟩, htx, q⟩ := h
  have nd := scAll.nd
  refine ⟨_, pss_cons (ps_try_only (c := .type "KeyError") (tb := fun _ => tLock (tFor (iItems (tVar 0)) (gTup K 2 (gCons (gName 1) (gCons (gTup K 2 (gCons (gName 2) (gCons (gName 3) gNil))) gNil)))
        (tLock (tFor (iVals (tVar 3)) (gName 4) (tIfS (tNot (tB (tCall (spRows K) [] E0 (tCons (tVar 4) (tCons (tCB (fun xs H Q => ∃ p ys, xs = [.ref p] ∧ (SqL K H p ys ∨ SqT K H p ys) ∧ Q (.int ys.length) H) (tCons (tVar 4) tNil)) (tCons (tVar 2) (tCons (tVar 3) (tCons (tVar 0) (tCons (tVar 1) tNil))))))))) (fun _ _ _ => False) tNext))))) (ts := fun _ _ _ => fun _ _ _ => False)
      rfl rfl ⟨by rfl, by decide, .inr ⟨mk, by decide +kernel, by decide⟩⟩ takes0
      (fun W pn xe tk po => pss_one (ps_lock (ps_for po rfl (pi_items (pv 0)) (pg_tup rfl (pgs_cons (pg_name (i := 1) nd rfl (.inl rfl)) (pgs_cons (pg_tup rfl (pgs_cons (pg_name (i := 2) nd rfl (.inl rfl)) (pgs_cons (pg_name (i := 3) nd rfl (.inl rfl)) pgs_nil))) pgs_nil)))
        (pss_one (ps_lock (ps_for po rfl (pi_values (pv 3)) (pg_name (i := 4) nd rfl (.inl rfl))
          (pss_one (ps_if (pt_not (pt_val (pe_call DR.ok hr (by rfl) DR.g DR.kp DR.b .nil pass0 (pa_cons (pv 4) (pa_cons (pe_callB call_len_seq (by rfl) ml PySem.boot_len (pa_cons (pv 4) pa_nil)) (pa_cons (pv 2) (pa_cons (pv 3) (pa_cons (pv 0) (pa_cons (pv 1) pa_nil))))))))) (pss_one ps_dead) pss_nil))))))))
      (fun a oe cls d pn _ _ => pss_one ps_dead))
    (pss_one (ps_ret pe_bl)), ?_⟩
  refine ⟨sc, .dK kvs, hsc, trivial, fun od => ⟨_, rfl, sc, od, kvs, rfl, upd_same, ?_⟩⟩
  have kn : ∀ (i : Nat) (h : Hand) (e : Key × V), hs[i]? = some h → kvs[i]? = some e → e.1 = Sum.inr h.1 := fun i h e a b => by
    obtain ⟨_, _, _, _, rfl, _⟩ := hat i h e a b
    rfl
  refine for_it walk_items (fun i σ H3 => ∃ a1 a2 a3 a4, σ = [some (.ref sc), a1, a2, a3, a4] ∧ Same (upd H sc (.frz od (.dK kvs))) H3) ⟨_, _, _, _, rfl, fun _ _ z => z⟩ (fun i σ H3 _ p => ?_) (fun i y σ H3 H4 hi p hy => ?_) (fun σ H3 p => ?_)
  · obtain ⟨_, _, _, _, _, sm⟩ := p
    exact sm _ _ upd_same
  · obtain ⟨a1, a2, a3, a4, rfl, sm⟩ := p
    obtain ⟨T, k1, k2, rfl, nT, rfl, hk1, hk2⟩ := hy
    have hhi : i < hs.length := by omega
    have e1 : hs[i]? = some hs[i] := List.getElem?_eq_getElem hhi
    have e2 : kvs[i]? = some kvs[i] := List.getElem?_eq_getElem hi
    have hA := hat i _ _ e1 e2
    have hm : hs[i] ∈ hs := List.getElem_mem hhi
    simp only [e2, Option.map_some] at hk1 hk2
    generalize kvs[i] = en at hA hk1 hk2
    generalize hs[i] = h at hA hm
    obtain ⟨t, z, x, vs, rfl, ht, hz, hx, n1, n2, nx0, hvs⟩ := hA
    cases hk1
    cases hk2
    have keep : ∀ b o, b ≠ sc → H b = some o → H3 b = some o := fun b o nb e => sm b o (by rw [upd_ne nb]; exact e)
    have nt : t ≠ sc := fun e => by
      rw [e, hsc] at ht
      cases ht
    have ht3 := keep _ _ nt ht
    have hz3 := keep _ _ n1 hz
    have hx3 := keep _ _ n2 hx
    have hsc3 := sm _ _ upd_same
    have sT : Same H3 (upd H3 T (.tup [.str h.1, .ref t])) := same_new nT
    have ht4 := sT _ _ ht3
    have hz4 := sT _ _ hz3
    have hx4 := sT _ _ hx3
    have hsc4 := sT _ _ hsc3
    have hT4 : (upd H3 T (.tup [.str h.1, .ref t])) T = some (.tup [.str h.1, .ref t]) := upd_same
    have sm4 := sm.trans sT
    show gTup K 2 _ _ _ (upd H3 T (.tup [.str h.1, .ref t])) _
    generalize upd H3 T (.tup [.str h.1, .ref t]) = G at sT ht4 hz4 hx4 hsc4 hT4 sm4 ⊢
    refine ⟨T, _, rfl, .inl (.inl hT4), rfl, _, _, rfl, _, _, rfl, t, _, rfl, .inl (.inl ht4), rfl, _, _, rfl, _, _, rfl, rfl, rfl, ?_⟩
    refine ⟨x, _, hx4, trivial, fun od2 => ⟨_, rfl, x, od2, _, rfl, upd_same, ?_⟩⟩
    refine for_it walk_values (fun j σ H5 => ∃ a4, σ = [some (.ref sc), some (.str h.1), some (.ref z), some (.ref x), a4] ∧ Same (upd G x (.frz od2 (.dK ((h.2.2.zip vs).map txtK)))) H5) ⟨_, rfl, fun _ _ z => z⟩ (fun j σ H5 _ p => ?_) (fun j y σ H5 H6 hj p hy => ?_) (fun σ H5 p => ?_)
    · obtain ⟨_, _, s5⟩ := p
      exact s5 _ _ upd_same
    · obtain ⟨w4, rfl, s5⟩ := p
      obtain ⟨rfl, ky, hky⟩ := hy
      have hvl : vs.length = h.2.2.length := by rw [dpAll_len hvs, List.length_map]
      rw [List.length_map, List.length_zip] at hj
      have hj1 : j < h.2.2.length := by omega
      have hj2 : j < vs.length := by omega
      have ey : y = vs[j] := by
        rw [List.getElem?_map, List.getElem?_eq_getElem (by rw [List.length_zip]; omega), List.getElem_zip] at hky
        cases hky
        rfl
      have hd0 : Dp K H0 vs[j] (rowsD h.2.2[j].2) := by
        obtain ⟨d, a, b⟩ := dpAll_get hvs (List.getElem?_eq_getElem hj2)
        rw [List.getElem?_map, List.getElem?_eq_getElem hj1] at a
        cases a
        exact b
      have hmt : h.2.2[j] ∈ h.2.2 := List.getElem_mem hj1
      rw [← ey] at hd0
      generalize h.2.2[j] = te at hd0 hmt
      have s05 : Same H0 H6 := fun b o e => by
        have nb1 : b ≠ sc := fun q => by
          rw [q, nsc] at e
          cases e
        have nb2 : b ≠ x := fun q => by
          rw [q, nx0] at e
          cases e
        refine s5 b o ?_
        rw [upd_ne nb2]
        refine sm4 b o ?_
        rw [upd_ne nb1]
        exact s0 b o e
      have hd5 := dp_same s05 _ _ hd0
      obtain ⟨ra, rws, rfl, hra, hrr⟩ := dp_tup hd5
      have hrl : rws.length = te.2.length := by rw [dpAll_len hrr, List.length_map]
      have rz : Rd H6 z (.dK ((bs ++ h.2.1).map boxK)) := by
        by_cases e : z = x
        · have e2 := hz4
          rw [e, hx4] at e2
          have e3 : HO.dK ((h.2.2.zip vs).map txtK) = HO.dK ((bs ++ h.2.1).map boxK) := Option.some.inj e2
          rw [← e3, e]
          exact .inr ⟨_, s5 _ _ upd_same⟩
        · exact .inl (s5 _ _ (by rw [upd_ne e]; exact hz4))
      have rsc : Rd H6 sc (.dK kvs) := .inr ⟨_, s5 _ _ (by rw [upd_ne (Ne.symm n2)]; exact hsc4)⟩
      refine ⟨_, rfl, _, rfl, ra, rws, rfl, .inr hra, _, rfl, _, rfl, _, rfl, _, rfl, .ref ra, te.2, _, z, x, sc, h.1, bs ++ h.2.1, h.2.2.map (·.1), (hs.map (·.1)).filter fun z => decide (z ≠ h.1), rfl, hd5, ⟨_, rz, fun o m => size_val⟩, ⟨_, .inr ⟨_, s5 _ _ upd_same⟩, txt_val hvl⟩, ⟨_, rsc, fun u hu => name_val hkl kn u (List.mem_filter.mp hu).1⟩, ?_, ?_, fun H7 s7 => ⟨_, rfl, iteF ?_⟩⟩
      · intro hu
        exact of_decide_eq_true (List.mem_filter.mp hu).2 rfl
      · intro r hr2
        rw [hrl]
        exact (htx h hm).row te hmt r hr2
      · exact ⟨_, rfl, s5.trans s7⟩
    · obtain ⟨w4, rfl, s5⟩ := p
      exact ⟨s5 _ _ upd_same, _, _, _, _, rfl, sm4.trans (unlock_same hx4 s5)⟩
  · obtain ⟨_, _, _, _, rfl, sm⟩ := p
    exact ⟨sm _ _ upd_same, q _ (unlock_same hsc sm)⟩
end
end PP

set_option maxHeartbeats 4000000
namespace PP
open PySem PySem.Spec PyProof.Rows L2 G3 M0 PA
section
variable {P : Program} {w : World} {K : PySem.W.Frag} {mg : Str → Option Value} {base : Heap}
def spLook (K : PySem.W.Frag) : Sp := fun vs H Q _ => ∃ (v : V) (p : Prog), vs = [v] ∧ Dp K H v (progD p) ∧ ProgOk p ∧ ∀ H', Same H H' → Q .non H'
set_option maxHeartbeats 8000000 in
theorem ok_look {f : Addr} {fd : FuncData} {k : Nat} {t4 t8 t9 : Tok} (F : Fun K "look_at_program" "look_at_program" s_look_at_program f fd) (DB : Def P w K mg base CX0 (k + 1) "are_boxes" ["thing", "most", "greatest", "sizes"] (spBoxes K))
    (DC : Def P w K mg base CX0 (k + 1) "scopes_of" ["common", "hands"] (spScopes K)) (DA : Def P w K mg base CX0 (k + 1) "are_all_rows" ["scopes"] (spAll K))
    (mi : mg "isinstance" = none) (mt : mg "tuple" = none) (ml : mg "len" = none) (m4 : mg "MOST_HANDS" = some (.int 4 t4)) (m8 : mg "MOST_COMMON" = some (.int 8 t8)) (m9 : mg "GREATEST_COMMON" = some (.int 4 t9)) :
    FnOk P w K mg base CX0 (k + 1 + 1) f fd ["thing"] (spLook K) := by
  refine F.ok scLook (fun vs H Q E h => ?_) (fun cdv A outer s H vs Q E hr h => ?_)
  · obtain ⟨v, p, rfl, _⟩ := h
    rfl
  obtain ⟨v, p, rfl, hv, ok, q⟩ := h
  have nd := scLook.nd
  refine ⟨_, pss_cons (ps_if (PW.pt (pw_or (pt_not (pt_val (pe_callB call_isi (by rfl) mi PyProof.Rows.boot_isinstance (pa_cons (pv 0) (pa_cons (pe_bltn (by rfl) mt (u := .type "tuple") (by decide +kernel) (show RelV (.ty "tuple") (.type "tuple") from rfl)) pa_nil)))))
          (pw_or1 (pt_cmpR op_ne (pe_callB call_len_seq (by rfl) ml PySem.boot_len (pa_cons (pv 0) pa_nil)) pe_int (nomark _))))) (pss_one ps_dead) pss_nil)
    (pss_cons (ps_asg (pv 0) (pg_tup rfl (pgs_cons (pg_name (i := 1) nd rfl (.inl rfl)) (pgs_cons (pg_name (i := 2) nd rfl (.inl rfl)) pgs_nil))))
    (pss_cons (ps_set (i := 3) nd rfl (.inl rfl) pe_dnewK)
    (pss_cons (ps_if (PW.pt (pw_or (pt_not (pt_val (pe_callB call_isi (by rfl) mi PyProof.Rows.boot_isinstance (pa_cons (pv 2) (pa_cons (pe_bltn (by rfl) mt (u := .type "tuple") (by decide +kernel) (show RelV (.ty "tuple") (.type "tuple") from rfl)) pa_nil)))))
          (pw_or1 (pt_not (pt_chain op_le op_le pe_int (pe_callB call_len_seq (by rfl) ml PySem.boot_len (pa_cons (pv 2) pa_nil)) (pe_glob (v := .int 4) (by rfl) m4 ⟨_, rfl⟩)))))) (pss_one ps_dead) pss_nil)
    (pss_cons (ps_if (pt_not (pt_val (pe_call DB.ok hr (by rfl) DB.g DB.kp DB.b .nil pass0 (pa_cons (pv 1) (pa_cons (pe_glob (v := .int 8) (by rfl) m8 ⟨_, rfl⟩) (pa_cons (pe_glob (v := .int 4) (by rfl) m9 ⟨_, rfl⟩) (pa_cons (pv 3) pa_nil))))))) (pss_one ps_dead) pss_nil)
    (pss_cons (ps_set (i := 4) nd rfl (.inl rfl) (pe_call DC.ok hr (by rfl) DC.g DC.kp DC.b .nil pass0 (pa_cons (pv 3) (pa_cons (pv 2) pa_nil))))
    (pss_one (ps_if (pt_not (pt_val (pe_call DA.ok hr (by rfl) DA.g DA.kp DA.b .nil pass0 (pa_cons (pv 4) pa_nil)))) (pss_one ps_dead) pss_nil))))))), ?_⟩
  obtain ⟨a, v1, v2, rfl, ha, g1, g2⟩ := dp2 hv
  obtain ⟨ha2, xs, rfl, hs2, hall⟩ := dp_tup g2
  have hxl : xs.length = p.2.length := by rw [dpAll_len hall, List.length_map]
  have h1 := ok.one
  have h4 := ok.few
  refine ⟨_, rfl, _, _, _, _, _, rfl, .ty "tuple", dp_ty hv, kit_tup K hv, _, rfl, iteF ⟨_, rfl, a, _, rfl, .inr ha, rfl, _, rfl, iteNS rfl ?_⟩⟩
  refine ⟨_, rfl, a, _, rfl, ha, rfl, _, _, rfl, _, _, rfl, rfl, ?_⟩
  intro c nc
  have s1 : Same H (upd H c (.dK [])) := same_new nc
  have hs3 := same_tup s1 hs2
  have g3 := dp_same s1 _ _ g2
  refine ⟨_, rfl, _, _, _, _, _, rfl, .ty "tuple", dp_ty g3, kit_tup K g3, _, rfl, iteF ?_⟩
  refine ⟨_, rfl, ha2, _, rfl, .inr hs3, _, _, rfl, rfl, _, rfl, ?_⟩
  rw [decide_eq_true (show (1 : Int) ≤ (xs.length : Int) by omega)]
  refine iteT ⟨_, _, rfl, rfl, _, rfl, ?_⟩
  rw [decide_eq_true (show (xs.length : Int) ≤ 4 by omega)]
  have bx := ok.box
  have bl := bx.len
  refine iteF ⟨_, rfl, _, rfl, v1, p.1, 8, 4, c, [], rfl, dp_same s1 _ _ g1, upd_same, ?_, bx.len, fun b hb => ?_, bx.nd, _, rfl, iteF ?_⟩
  · show 0 + p.1.length ≤ 1000
    omega
  · obtain ⟨q1, q2, q3, q4⟩ := bx.nm b hb
    exact ⟨q1, q2, q3, rfl⟩
  have e2 : upd (upd H c (.dK [])) c (.dK ([] ++ p.1.map boxK)) = upd H c (.dK (p.1.map boxK)) := by
    funext b
    by_cases e : b = c
    · rw [e, upd_same, upd_same]
      rfl
    · rw [upd_ne e, upd_ne e, upd_ne e]
  rw [e2]
  have s2 : Same H (upd H c (.dK (p.1.map boxK))) := same_new nc
  refine ⟨_, rfl, _, rfl, c, .ref ha2, p.1, p.2, rfl, upd_same, bl, dp_same s2 _ _ g2, ⟨h4, ok.nm, ok.nd, ok.own, fun h hh => ?_⟩, fun H3 sc s3 nsc hat => ?_⟩
  · have t := ok.txt h hh
    exact ⟨t.one, t.few, t.nm, t.nd⟩
  · exact ⟨_, rfl, sc, _, p.1, p.2, rfl, s3, nsc, hat, ok.txt, fun H4 s4 => ⟨_, rfl, iteF (q _ ((s2.trans s3).trans s4))⟩⟩
end
end PP

set_option maxHeartbeats 4000000
namespace PP
open PySem PySem.Spec PyProof.Rows L2 G3 M0 PA
theorem scPool : FnScope ["_law_script", "_law_k", "_law_cell", "_law_mixed"] ["_law_script", "_law_k"] (defScope s_law_pool) := ⟨rfl, rfl, rfl, by decide +kernel, rfl, by decide +kernel, by decide +kernel⟩
theorem scTake : FnScope ["_law_pool_here", "_law_total", "_law_found"] ["_law_pool_here", "_law_total"] (defScope s_law_take) := ⟨rfl, rfl, rfl, by decide +kernel, rfl, by decide +kernel, by decide +kernel⟩
section
variable {P : Program} {w : World} {K : PySem.W.Frag} {mg : Str → Option Value} {base : Heap}

/-- what a pool holds -/
def Pool (H : Hp) (p : Addr) : Prop := ∃ x y : Int, H p = some (.lst [.int x, .int y]) ∧ 0 ≤ x ∧ 0 ≤ y ∧ y < 2147483647
def spTake : Sp := fun vs H Q _ => ∃ (p : Addr) (m : Int), vs = [.ref p, .int m] ∧ Pool H p ∧ 0 < m ∧ m < 1073741824 ∧
  ∀ (H' : Hp) (r : Int), Pool H' p → M0.off p H' = M0.off p H → 0 ≤ r → r < m → Q (.int r) H'
def spPool (K : PySem.W.Frag) : Sp := fun vs H Q _ => ∃ (a : Addr) (ns : List Int) (k : Nat), vs = [.ref a, .int k] ∧ SqL K H a (ns.map V.int) ∧ k ≤ 1000 ∧
  ∀ (p : Addr) (x y : Int), H p = none → 0 ≤ x → 0 ≤ y → y < 2147483647 → Q (.ref p) (upd H p (.lst [.int x, .int y]))

theorem ok_take {f : Addr} {fd : FuncData} {k : Nat} (F : Fun K "_law_take" "_law_take" s_law_take f fd) : FnOk P w K mg base CX0 (k + 1) f fd ["_law_pool_here", "_law_total"] spTake := by
  refine F.ok scTake (fun vs H Q E h => ?_) (fun cdv A outer s H vs Q E hr h => ?_)
  · obtain ⟨p, m, rfl, _⟩ := h
    rfl
  · obtain ⟨p, m, rfl, ⟨x, y, hp, hx, hy, hy2⟩, hm, hm2, q0⟩ := h
    have q : ∀ (x y r : Int), 0 ≤ x → 0 ≤ y → y < 2147483647 → 0 ≤ r → r < m → Q (.int r) (upd H p (.lst [.int x, .int y])) := fun x y r a b c d e => q0 _ _ ⟨x, y, upd_same, a, b, c⟩ off_upd d e
    have nd := scTake.nd
    refine ⟨_, pss_cons (ps_if (pt_cmpR op_gt (pe_ix ix_list (pv 0) pe_int (fun _ _ => rfl)) pe_int (nomark _))
        (pss_cons (ps_set (i := 2) nd rfl (.inl rfl) (pe_op op_mod (pe_ix ix_list (pv 0) pe_int (fun _ _ => rfl)) (pv 1)))
        (pss_cons (ps_asg (pe_op op_fdiv (pe_ix ix_list (pv 0) pe_int (fun _ _ => rfl)) (pv 1)) (pg_sub (pv 0) pe_int set_list))
        (pss_one (ps_ret (pv 2))))) pss_nil)
      (pss_cons (ps_asg (pe_op op_mod (pe_op op_add (pe_op op_mul (pe_ix ix_list (pv 0) pe_int (fun _ _ => rfl)) pe_int) pe_int) pe_int) (pg_sub (pv 0) pe_int set_list))
      (pss_one (ps_ret (pe_op op_mod (pe_op op_fdiv (pe_op op_mod (pe_op op_mul (pe_ix ix_list (pv 0) pe_int (fun _ _ => rfl)) (pe_ix ix_list (pv 0) pe_int (fun _ _ => rfl))) pe_int) pe_int) (pv 1))))), ?_⟩
    have g0 : atI [V.int x, V.int y] 0 = some (V.int x) := atI_nat (j := 0) rfl
    have g1 : atI [V.int x, V.int y] 1 = some (V.int y) := atI_nat (j := 1) rfl
    refine ⟨_, rfl, p, _, 0, _, rfl, rfl, SqL.of hp, g0, x, 0, rfl, rfl, _, rfl, ite2 (fun e => ?_) (fun e => ?_)⟩
    · -- the great cell
      have hd1 : 0 ≤ x / m := Int.ediv_nonneg hx (Int.le_of_lt hm)
      refine ⟨_, rfl, p, _, 0, _, rfl, rfl, SqL.of hp, g0, _, rfl, x, m, rfl, rfl, hm, ?_⟩
      refine ⟨_, rfl, p, _, 0, _, rfl, rfl, SqL.of hp, g0, _, rfl, x, m, rfl, rfl, ⟨hm, hm2⟩, ?_⟩
      refine ⟨_, rfl, p, _, 0, 0, rfl, rfl, hp, rfl, _, rfl, ?_⟩
      exact q _ _ _ hd1 hy hy2 (Int.emod_nonneg x (by omega)) (Int.emod_lt_of_pos x hm)
    · have hz1 : 0 ≤ (y * 48271 + 12345) % 2147483647 := Int.emod_nonneg _ (by decide)
      have hz2 : (y * 48271 + 12345) % 2147483647 < 2147483647 := Int.emod_lt_of_pos _ (by decide)
      refine ⟨_, rfl, p, _, 1, _, rfl, rfl, SqL.of hp, g1, y, 48271, rfl, rfl, .inr ⟨by decide, by decide⟩, _, _, rfl, rfl, _, _, rfl, rfl, (show (0 : Int) < 2147483647 by decide), ?_⟩
      refine ⟨_, rfl, p, _, 1, 1, rfl, rfl, hp, rfl, ?_⟩
      have g2 : atI ([V.int x, V.int y].set 1 (V.int ((y * 48271 + 12345) % 2147483647))) 1 = some (V.int ((y * 48271 + 12345) % 2147483647)) := atI_nat (j := 1) rfl
      refine ⟨_, rfl, p, _, 1, _, rfl, rfl, SqL.of upd_same, g2, _, rfl, p, _, 1, _, rfl, rfl, SqL.of upd_same, g2, _, _, rfl, rfl, .inl ⟨by omega, by omega⟩, ?_⟩
      refine ⟨_, _, rfl, rfl, (show (0 : Int) < 2147483629 by decide), _, _, rfl, rfl, ⟨by decide, by decide⟩, _, rfl, _, m, rfl, rfl, hm, ?_⟩
      exact q _ _ _ hx hz1 hz2 (Int.emod_nonneg _ (by omega)) (Int.emod_lt_of_pos _ hm)

theorem ok_pool {f : Addr} {fd : FuncData} {k : Nat} (F : Fun K "_law_pool" "_law_pool" s_law_pool f fd) (ml : mg "len" = none) (ma : mg "abs" = none) (mi : mg "int" = none) : FnOk P w K mg base CX0 (k + 1) f fd ["_law_script", "_law_k"] (spPool K) := by
  refine F.ok scPool (fun vs H Q E h => ?_) (fun cdv A outer s H vs Q E hr h => ?_)
  · obtain ⟨a, ns, k, rfl, _⟩ := h
    rfl
  · obtain ⟨a, ns, k, rfl, hS, hk, q⟩ := h
    have nd := scPool.nd
    refine ⟨_, pss_cons (ps_set (i := 2) nd rfl (.inl rfl) pe_int)
      (pss_cons (ps_if (pt_cmpR op_lt (pv 1) (pe_callB call_len_seq (by rfl) ml PySem.boot_len (pa_cons (pv 0) pa_nil)) (nomark _))
        (pss_one (ps_set (i := 2) nd rfl (.inl rfl) (pe_callB call_abs (by rfl) ma (by decide +kernel) (pa_cons (pe_ix ix_list (pv 0) (pv 1) (fun _ _ => rfl)) pa_nil)))) pss_nil)
      (pss_cons (ps_set (i := 3) nd rfl (.inl rfl) (pe_op op_mod (pe_op op_mul (pe_op op_add (pe_op op_add (pe_op op_add (pe_op op_mod (pv 2) pe_int) (pe_op op_mul (pe_op op_mul pe_int (pv 1)) (pv 1))) (pe_op op_mul pe_int (pv 1))) pe_int) pe_int) pe_int))
      (pss_one (ps_ret (pe_lst (pa_cons (pe_op op_mul (pv 2) (pe_callTy call_int1 (by rfl) mi (by decide +kernel) (pa_cons (pe_cmpR op_ge (pv 2) (pe_op op_pow pe_int pe_int) (nomark _)) pa_nil)))
        (pa_cons (pe_op op_mod (pe_op op_mul (pv 3) (pv 3)) pe_int) pa_nil))))))), ?_⟩
    -- what follows once the cell is known
    have rest : ∀ c : Int, 0 ≤ c → (tSeq (tAsg (tOp (rI (fun _ j => 0 < j) fun i j => .int (i % j)) (tOp (rI CMul fun i j => .int (i * j)) (tOp (rI0 fun i j => .int (i + j)) (tOp (rI0 fun i j => .int (i + j)) (tOp (rI0 fun i j => .int (i + j)) (tOp (rI (fun _ j => 0 < j) fun i j => .int (i % j)) (tVar 2) (tC (.int 2147483629))) (tOp (rI CMul fun i j => .int (i * j)) (tOp (rI CMul fun i j => .int (i * j)) (tC (.int 7919)) (tVar 1)) (tVar 1))) (tOp (rI CMul fun i j => .int (i * j)) (tC (.int 31)) (tVar 1))) (tC (.int 17))) (tC (.int 48271))) (tC (.int 2147483647))) (gName 3))
        (tRet (tLst (tCons (tOp (rI CMul fun i j => .int (i * j)) (tVar 2) (tCB (fun xs H Q => (∃ i, xs = [.int i] ∧ Q (.int i) H) ∨ ∃ k, xs = [.bl k] ∧ Q (.int (if k then 1 else 0)) H) (tCons (tOp (rI0 fun i j => .bl (decide (j ≤ i))) (tVar 2) (tOp (rI CPow fun i j => .int (i ^ j.toNat)) (tC (.int 10)) (tC (.int 18)))) tNil)))
          (tCons (tOp (rI (fun _ j => 0 < j) fun i j => .int (i % j)) (tOp (rI CMul fun i j => .int (i * j)) (tVar 3) (tVar 3)) (tC (.int 2147483629))) tNil)))))
        { nx := fun _ H' => Q .non H', rt := Q } [some (.ref a), some (.int k), some (.int c), none] H := by
      intro c hc
      refine ⟨_, rfl, c, _, rfl, rfl, (show (0 : Int) < 2147483629 by decide), _, rfl, _, _, rfl, rfl, .inl ⟨by decide, by decide⟩, _, rfl, _, _, rfl, rfl, .inr ⟨by omega, by omega⟩, _, _, rfl, rfl, _, rfl, _, _, rfl, rfl, .inl ⟨by decide, by decide⟩, _, _, rfl, rfl, _, _, rfl, rfl, _, _, rfl, rfl, .inr ⟨by decide, by decide⟩, _, _, rfl, rfl, (show (0 : Int) < 2147483647 by decide), ?_⟩
      have hz1 : 0 ≤ (c % 2147483629 + 7919 * (k : Int) * k + 31 * k + 17) * 48271 % 2147483647 := Int.emod_nonneg _ (by decide)
      have hz2 : (c % 2147483629 + 7919 * (k : Int) * k + 31 * k + 17) * 48271 % 2147483647 < 2147483647 := Int.emod_lt_of_pos _ (by decide)
      refine ⟨_, rfl, _, rfl, _, _, rfl, rfl, ⟨by decide, by decide, by decide⟩, c, _, rfl, rfl, .inr ⟨_, rfl, ?_⟩⟩
      have key : ∀ b : Bool, 0 ≤ c * (if b then 1 else 0) := fun b => by cases b <;> simp [hc]
      have sm : ∀ b : Bool, (-(2 ^ 64) : Int) < (if b then 1 else 0) ∧ ((if b then 1 else 0) : Int) < 2 ^ 64 := fun b => by cases b <;> decide
      refine ⟨c, _, rfl, rfl, .inr (sm _), _, rfl, _, rfl, _, _, rfl, rfl, .inl ⟨Int.lt_of_lt_of_le (by decide) hz1, Int.lt_trans hz2 (by decide)⟩, _, _, rfl, rfl, (show (0 : Int) < 2147483629 by decide), by show 2 ≤ sizeLine; decide, fun p np => ?_⟩
      exact q p _ _ np (key _) (Int.emod_nonneg _ (by decide)) (Int.lt_trans (Int.emod_lt_of_pos _ (by decide)) (by decide))
    refine ⟨_, rfl, _, rfl, a, _, rfl, .inl hS, _, _, rfl, rfl, _, rfl, ite2 (fun e => ?_) (fun e => ?_)⟩
    · have hk2 : k < ns.length := by
        have := of_decide_eq_true e
        rw [List.length_map] at this
        omega
      have g : (ns.map V.int)[k]? = some (.int ns[k]) := by
        rw [List.getElem?_map, List.getElem?_eq_getElem hk2]
        rfl
      refine ⟨_, rfl, _, rfl, a, _, k, _, rfl, rfl, hS, atI_nat g, ns[k], rfl, ?_⟩
      refine rest _ ?_
      split <;> omega
    · exact rest 0 (by decide)
end
theorem off_put {p D : Addr} {H : Hp} {o : HO} (h : D ≠ p) : M0.off p (upd H D o) = upd (M0.off p H) D o := by
  funext b
  by_cases e : b = D
  · rw [e, off_ne h, upd_same, upd_same]
  · rw [upd_ne e]
    by_cases z : b = p
    · rw [z]
      unfold M0.off
      rw [if_pos rfl, if_pos rfl]
    · rw [off_ne z, off_ne z, upd_ne e]
theorem pool_ne {H : Hp} {p t : Addr} (pl : Pool H p) (nt : H t = none) : t ≠ p := fun e => by
  obtain ⟨x, y, h, _⟩ := pl
  rw [e, h] at nt
  cases nt
theorem pool_put {H : Hp} {p t : Addr} {o : HO} (pl : Pool H p) (ne : t ≠ p) : Pool (upd H t o) p := by
  obtain ⟨x, y, h, r⟩ := pl
  exact ⟨x, y, by rw [upd_ne ne.symm]; exact h, r⟩
theorem pool_same {H H' : Hp} {p : Addr} (h : Pool H p) (s : Same H H') : Pool H' p := by
  obtain ⟨x, y, e, r⟩ := h
  exact ⟨x, y, s _ _ e, r⟩
theorem off_none {p b : Addr} {H : Hp} (h : H b = none) : M0.off p H b = none := by
  unfold M0.off
  split
  · rfl
  · exact h
theorem off_at {p b : Addr} {H : Hp} {o : HO} (h : M0.off p H b = some o) : H b = some o ∧ b ≠ p := by
  by_cases z : b = p
  · rw [z] at h
    unfold M0.off at h
    rw [if_pos rfl] at h
    cases h
  · rw [off_ne z] at h
    exact ⟨h, z⟩
end PP

set_option maxHeartbeats 4000000
namespace PP
open PySem PySem.Spec PyProof.Rows L2 G3 M0 PA
abbrev nSrc : List Str := ["_law_pool_here", "_law_boxes", "_law_box", "_law_way", "_law_some", "_law_item_b"]
theorem scSrc : FnScope nSrc ["_law_pool_here", "_law_boxes", "_law_box"] (defScope s_law_source) := ⟨rfl, rfl, rfl, by decide +kernel, rfl, by decide +kernel, by decide +kernel⟩
/-- boxes that the law draws from -/
structure Draw (bs : List Box) : Prop where
  one : 1 ≤ bs.length
  few : bs.length ≤ 100
  nd : (bs.map (·.1)).Nodup
  sz : ∀ b ∈ bs, 1 ≤ b.2 ∧ b.2 < 1000
  lay : ∀ b ∈ bs, PyData.strOk b.1 = true
theorem size_mem {bs : List Box} (nd : (bs.map (·.1)).Nodup) {b : Box} (h : b ∈ bs) : size? bs b.1 = some b.2 := by
  unfold size?
  induction bs with
  | nil => cases h
  | cons c bs ih =>
    rw [List.map_cons, List.nodup_cons] at nd
    rw [List.find?_cons]
    by_cases e : c.1 = b.1
    · rcases List.mem_cons.mp h with rfl | h2
      · rw [decide_eq_true rfl]
        rfl
      · exact absurd (List.mem_map.mpr ⟨b, h2, e.symm⟩) nd.1
    · rw [decide_eq_false e]
      rcases List.mem_cons.mp h with rfl | h2
      · exact absurd rfl e
      · exact ih nd.2 h2
theorem lay_all : ∀ {xs : List PyData}, (∀ x ∈ xs, x.canLay0 = true) → PyData.canLayAll0 xs = true
  | [], _ => by simp only [PyData.canLayAll0]
  | x :: xs, h => by
    simp only [PyData.canLayAll0, h x List.mem_cons_self, lay_all fun y hy => h y (List.mem_cons_of_mem _ hy), Bool.and_self]
theorem boxD_lay {b : Box} (h : PyData.strOk b.1 = true) : (boxD b).canLay0 = true := by
  unfold boxD
  simp only [PyData.canLay0, PyData.canLayAll0, h, Bool.and_self]
theorem boxD_depth (b : Box) : (boxD b).depth ≤ 1 := by
  unfold boxD
  exact G4.depth_tuple (k := 0) fun x hx => by
    rcases List.mem_cons.mp hx with rfl | hx
    · simp only [PyData.depth]
      exact Nat.le_refl _
    · rw [List.mem_singleton.mp hx]
      simp only [PyData.depth]
      exact Nat.le_refl _
theorem boxD_shaped {b : Box} (h : PyData.strOk b.1 = true) : SeqAt.shaped (boxD b) = true := by
  unfold SeqAt.shaped
  rw [boxD_lay h, decide_eq_true (Nat.le_trans (boxD_depth b) (by decide))]
  rfl
theorem boxL_shaped {bs : List Box} (h : ∀ b ∈ bs, PyData.strOk b.1 = true) : SeqAt.shaped (.list (bs.map boxD)) = true := by
  unfold SeqAt.shaped
  have e1 : (PyData.list (bs.map boxD)).canLay0 = true := by
    simp only [PyData.canLay0]
    exact lay_all fun x hx => by
      obtain ⟨b, hb, rfl⟩ := List.mem_map.mp hx
      exact boxD_lay (h b hb)
  have e2 : (PyData.list (bs.map boxD)).depth ≤ 64 := Nat.le_trans (G4.depth_list (k := 1) fun x hx => by
    obtain ⟨b, hb, rfl⟩ := List.mem_map.mp hx
    exact boxD_depth b) (by decide)
  rw [e1, decide_eq_true e2]
  rfl
theorem nilL_shaped : SeqAt.shaped (.list []) = true := boxL_shaped (bs := []) fun _ z => nomatch z
theorem boxD_eqv (a b : Box) : PyData.eqv (boxD a) (boxD b) = decide (a = b) := by
  unfold boxD
  simp only [PyData.eqv, PyData.eqvAll, Bool.and_true]
  obtain ⟨a1, a2⟩ := a
  obtain ⟨b1, b2⟩ := b
  rw [Bool.eq_iff_iff]
  simp [Prod.mk.injEq]
theorem boxL_eqv (bs : List Box) : PyData.eqv (.list (bs.map boxD)) (.list []) = bs.isEmpty := by
  cases bs <;> simp [PyData.eqv, PyData.eqvAll]
section
variable {K : PySem.W.Frag} {a : Addr} {xs : List V} {bs : List Box} {m : Box → Bool} {g : TG} {tt : TT} {te : TE} {vs : List Nat} {σ : L2.St} {H1 : Hp} {D : Addr} {Qd : Hp → Prop}
theorem lc_boxes {G : Hp} (sG : Same G H1) (hs : SqL K H1 a xs) (ha : DpAll K G xs (bs.map boxD)) (len : bs.length ≤ 1000) (nD : H1 D = none)
    (turn : ∀ x b H (R : L2.St → Bool → Hp → Prop), b ∈ bs → Dp K G x (boxD b) → Same H1 H → (∀ σ2 H', Same H H' → (∀ Q' : VK, Q' x H' → te σ2 H' Q') → R σ2 (m b) H') → g x (wipe σ vs) H fun σ2 H2 => wipe σ2 vs = wipe σ vs ∧ tt σ2 H2 (R σ2))
    (fin : ∀ H' ys, Same H1 H' → H' D = some (.lst ys) → DpAll K G ys ((bs.filter m).map boxD) → Qd H') :
    ∃ W : Nat → Nat → Hp → Prop, (∃ m, W 0 m (upd H1 D (.lst []))) ∧ ∀ i m H, W i m H →
      ((Itl K a).stop i H ∧ Qd H) ∨ ((Itl K a).go i H ∧ ∃ Nx : Hp → Prop, (∀ H', Nx H' → ∃ m', m' < m ∧ W (i + 1) m' H') ∧ ∀ x H', (Itl K a).yld i H x H' → g x (wipe σ vs) H' fun σ2 H2 => wipe σ2 vs = wipe σ vs ∧ tt σ2 H2 fun b H3 =>
        if b = true then te σ2 H3 fun y H4 => ∃ acc, H4 D = some (.lst acc) ∧ acc.length < sizeLine ∧ Nx (upd H4 D (.lst (acc ++ [y]))) else Nx H3) := by
  have hl : xs.length = bs.length := by rw [dpAll_len ha, List.length_map]
  refine lc_it (walk_list (a := a) (xs := xs) (K := K)) (fun i H => Same H1 H ∧ ∃ ys, H D = some (.lst ys) ∧ ys.length ≤ i ∧ DpAll K G ys (((bs.take i).filter m).map boxD)) ⟨same_new nD, [], upd_same, Nat.zero_le _, .nil⟩ (fun i H _ h => h.1.seq hs) (fun i x H H' hi h y => ?_) (fun H h => ?_)
  · obtain ⟨rfl, ex⟩ := y
    obtain ⟨s1, ys, hD, hy1, hy2⟩ := h
    obtain ⟨d, hd1, hd2⟩ := dpAll_get ha ex
    rw [List.getElem?_map] at hd1
    obtain ⟨b, hb1, rfl⟩ := Option.map_eq_some_iff.mp hd1
    have tk : bs.take (i + 1) = bs.take i ++ [b] := by rw [List.take_succ, hb1]; rfl
    refine turn x b H' (fun σ2 k H3 => if k = true then te σ2 H3 fun y H4 => ∃ acc, H4 D = some (.lst acc) ∧ acc.length < sizeLine ∧ (Same H1 (upd H4 D (.lst (acc ++ [y]))) ∧ ∃ ys, (upd H4 D (.lst (acc ++ [y]))) D = some (.lst ys) ∧ ys.length ≤ i + 1 ∧ DpAll K G ys (((bs.take (i + 1)).filter m).map boxD))
      else Same H1 H3 ∧ ∃ ys, H3 D = some (.lst ys) ∧ ys.length ≤ i + 1 ∧ DpAll K G ys (((bs.take (i + 1)).filter m).map boxD)) (List.mem_of_getElem? hb1) hd2 s1 (fun σ2 H5 s t => ?_)
    refine ite2 (fun e1 => ?_) (fun e1 => ?_)
    · refine t _ ⟨ys, s _ _ hD, LC.small_line (by omega), same_put (s1.trans s) nD, ys ++ [x], upd_same, by rw [List.length_append]; exact Nat.succ_le_succ hy1, ?_⟩
      rw [tk, List.filter_append, List.filter_cons_of_pos (p := m) e1, List.filter_nil, List.map_append]
      exact dpAll_app hy2 (.cons hd2 .nil)
    · refine ⟨s1.trans s, ys, s _ _ hD, by omega, ?_⟩
      rw [tk, List.filter_append, List.filter_cons_of_neg (p := m) e1, List.filter_nil, List.append_nil]
      exact hy2
  · obtain ⟨s1, ys, hD, _, hy2⟩ := h
    rw [hl, List.take_length] at hy2
    exact fin H ys s1 hD hy2
end
theorem new_tup {K : PySem.W.Frag} {p t : Addr} {H G : Hp} {vs : List V} {ds : List PyData} (pl : Pool G p) (nt : G t = none) (s : Same (off p H) (off p G)) (hd : DpAll K (off p G) vs ds) :
    Pool (upd G t (.tup vs)) p ∧ Same (off p H) (off p (upd G t (.tup vs))) ∧ Dp K (off p (upd G t (.tup vs))) (.ref t) (.tuple ds) := by
  have ne := pool_ne pl nt
  have s2 : Same (off p G) (off p (upd G t (.tup vs))) := off_mono (same_new nt)
  refine ⟨pool_put pl ne, s.trans s2, .tup (SqT.of ?_) (dpAll_same s2 _ _ hd)⟩
  rw [off_put ne]
  exact upd_same
section
variable {P : Program} {w : World} {K : PySem.W.Frag} {mg : Str → Option Value} {base : Heap}
def spSrc (K : PySem.W.Frag) : Sp := fun vs H Q _ => ∃ (p l : Addr) (v : V) (ws : List V) (bs : List Box) (b : Box), vs = [.ref p, .ref l, v] ∧ Pool H p ∧ SqL K (off p H) l ws ∧ DpAll K (off p H) ws (bs.map boxD) ∧ Draw bs ∧ b ∈ bs ∧ Dp K (off p H) v (boxD b) ∧
  ∀ (H' : Hp) (u : V) (s : Src), Pool H' p → Same (off p H) (off p H') → Dp K (off p H') u s.data → SrcOk bs b.1 b.2 s → Q u H'
set_option maxHeartbeats 8000000 in
theorem ok_src {f : Addr} {fd : FuncData} {k : Nat} (F : Fun K "_law_source" "_law_source" s_law_source f fd) (T : Def P w K mg base CX0 (k + 1) "_law_take" ["_law_pool_here", "_law_total"] spTake) (ml : mg "len" = none) :
    FnOk P w K mg base CX0 (k + 1 + 1) f fd ["_law_pool_here", "_law_boxes", "_law_box"] (spSrc K) := by
  refine F.ok scSrc (fun vs H Q E h => ?_) (fun cdv A outer s H vs Q E hr h => ?_)
  · obtain ⟨p, l, v, ws, bs, b, rfl, _⟩ := h
    rfl
  obtain ⟨p, l, v, ws, bs, b, rfl, pl, hl, hws, ok, hb, hv, q⟩ := h
  have nd := scSrc.nd
  refine ⟨_, pss_cons (ps_set (i := 3) nd rfl (.inl rfl) (pe_call T.ok hr (by rfl) T.g T.kp T.b .nil pass0 (pa_cons (pv 0) (pa_cons pe_int pa_nil))))
    (pss_cons (ps_setLc (i := 4) (own := [("_law_item_b", 5)]) (g := gName 5) (by rfl) nd rfl rfl (sw_true rfl rfl rfl (by decide +kernel)) (pi_list (pv 1))
        (blkOk_by (N := nSrc) (sc := defScope s_law_source) (by decide +kernel)) (fun _ _ _ _ _ => pg_name (i := 5) nd rfl (.inl rfl))
        (fun _ _ _ _ _ => pts_one (PW.pt (pw_and (pt_cmpR op_le (pe_ix (r := rIxT K) ix_tup (pv 5) pe_int (fun _ _ => rfl)) (pe_ix (r := rIxT K) ix_tup (pv 2) pe_int (fun _ _ => rfl)) (nomark _)) (pw_and1 (pt_cmpR (r := rNeD K) (op_neD hr.units) (pv 5) (pv 2) (nomark _))))))
        (fun _ _ _ _ _ => pv 5))
    (pss_cons (ps_if (PW.pt (pw_and (pt_cmpR op_eq (pv 3) pe_int (nomark _)) (pw_and1 (pt_cmpR (op_neD hr.units) (pv 4) (pe_lst pa_nil) (nomark _)))))
      (pss_one (ps_ret (pe_tup (pa_cons pe_str (pa_cons (pe_ix ix_tup (pe_ix ix_list (pv 4) (pe_call T.ok hr (by rfl) T.g T.kp T.b .nil pass0 (pa_cons (pv 0) (pa_cons (pe_callB call_len_seq (by rfl) ml PySem.boot_len (pa_cons (pv 4) pa_nil)) pa_nil))) (fun _ _ => rfl)) pe_int (fun _ _ => rfl)) pa_nil))))) pss_nil)
    (pss_cons (ps_if (pt_cmpR op_eq (pv 3) pe_int (nomark _)) (pss_one (ps_ret (pe_tup (pa_cons pe_str pa_nil)))) pss_nil)
    (pss_cons (ps_if (pt_cmpR op_eq (pv 3) pe_int (nomark _)) (pss_one (ps_ret (pe_tup (pa_cons pe_str (pa_cons (pe_op op_add pe_int (pe_call T.ok hr (by rfl) T.g T.kp T.b .nil pass0 (pa_cons (pv 0) (pa_cons pe_int pa_nil)))) pa_nil))))) pss_nil)
    (pss_one (ps_ret (pe_tup (pa_cons pe_str (pa_cons (pe_call T.ok hr (by rfl) T.g T.kp T.b .nil pass0 (pa_cons (pv 0) (pa_cons (pe_ix ix_tup (pv 2) pe_int (fun _ _ => rfl)) pa_nil))) pa_nil))))))))), ?_⟩
  refine ⟨_, rfl, p, 5, rfl, pl, by decide, by decide, fun H1 r pl1 o1 r0 r1 => ?_⟩
  have hl1 : SqL K (off p H1) l ws := o1 ▸ hl
  have hws1 : DpAll K (off p H1) ws (bs.map boxD) := o1 ▸ hws
  have hv1 : Dp K (off p H1) v (boxD b) := o1 ▸ hv
  obtain ⟨ca, x1, x2, rfl, hc, d1, d2⟩ := dp2 hv1
  cases dp_str d1
  cases dp_int d2
  refine ⟨_, rfl, l, rfl, ⟨_, off_sub.seq hl1⟩, fun D nD => ?_⟩
  refine lc_boxes (m := fun c => decide (c.2 ≤ b.2) && !decide (c = b)) (G := off p H1) off_sub (off_sub.seq hl1) hws1 (Nat.le_trans ok.few (by decide)) nD (fun x c H2 R mc hx s2 fin => ⟨rfl, ?_⟩) (fun H2 ys s2 hD hy => ?_)
  · have hx2 := dp_same (off_sub.trans s2) _ _ hx
    have hv2 := dp_same (off_sub.trans s2) _ _ hv1
    obtain ⟨cx, z1, z2, rfl, hcx, e1, e2⟩ := dp2 hx2
    cases dp_str e1
    cases dp_int e2
    refine ⟨_, rfl, cx, _, 1, _, rfl, rfl, hcx, atI_nat (j := 1) rfl, _, rfl, ca, _, 1, _, rfl, rfl, same_tup (off_sub.trans s2) hc, atI_nat (j := 1) rfl, _, _, rfl, rfl, _, rfl, ite2 (fun e => ?_) (fun e => ?_)⟩
    · refine ⟨_, rfl, _, rfl, _, _, hx2, hv2, boxD_shaped (ok.lay c mc), boxD_shaped (ok.lay b hb), _, rfl, ?_⟩
      have e2 : (decide (c.2 ≤ b.2) && !decide (c = b)) = !PyData.eqv (boxD c) (boxD b) := by
        rw [boxD_eqv]
        show (decide (c.2 ≤ b.2) && !decide (c = b)) = !decide (c = b)
        rw [e]
        rfl
      have z := fin [some (.ref p), some (.ref l), some (.ref ca), some (.int r), none, some (.ref cx)] H2 (Same.refl H2) fun Q' h => ⟨_, rfl, h⟩
      rw [e2] at z
      exact z
    · have e2 : (decide (c.2 ≤ b.2) && !decide (c = b)) = false := by
        show (decide (c.2 ≤ b.2) && !decide (c = b)) = false
        rw [Bool.eq_false_iff.mpr e]
        rfl
      have z := fin [some (.ref p), some (.ref l), some (.ref ca), some (.int r), none, some (.ref cx)] H2 (Same.refl H2) fun Q' h => ⟨_, rfl, h⟩
      rw [e2] at z
      exact z
  have pl2 := pool_same pl1 s2
  have sb : Same (off p H) (off p H2) := by
    rw [← o1]
    exact off_mono s2
  have nDp : D ≠ p := pool_ne pl1 nD
  have s12 : Same (off p H1) (off p H2) := off_mono s2
  have hD2 : off p H2 D = some (.lst ys) := by
    rw [off_ne nDp]
    exact hD
  have hy2 := dpAll_same s12 _ _ hy
  have hc2 := same_tup s12 hc
  have yl : ys.length = (bs.filter fun c => decide (c.2 ≤ b.2) && !decide (c = b)).length := by rw [dpAll_len hy, List.length_map]
  have bsz := ok.sz b hb
  -- the rest
  have rest : ∀ G : Hp, Same H2 G → (tSeq (tIfS (tTest (tOp rEq (tVar 3) (tC (.int 1)))) (tRet (tTup (tCons (tC (.str "any")) tNil))) tNext)
      (tSeq (tIfS (tTest (tOp rEq (tVar 3) (tC (.int 2)))) (tRet (tTup (tCons (tC (.str "on")) (tCons (tOp (rI0 fun i j => .int (i + j)) (tC (.int 1)) (tCall spTake [] E0 (tCons (tVar 0) (tCons (tC (.int 3)) tNil)))) tNil)))) tNext)
      (tRet (tTup (tCons (tC (.str "to")) (tCons (tCall spTake [] E0 (tCons (tVar 0) (tCons (tOp (rIxT K) (tVar 2) (tC (.int 1))) tNil))) tNil))))))
      { nx := fun _ H' => Q .non H', rt := Q } [some (.ref p), some (.ref l), some (.ref ca), some (.int r), some (.ref D), none] G := by
    intro G sG
    have plG := pool_same pl2 sG
    have sbG : Same (off p H) (off p G) := sb.trans (off_mono sG)
    have hcG := same_tup (off_mono (p := p) sG) hc2
    refine ⟨_, rfl, rfl, _, rfl, ite2 (fun e => ?_) (fun e => ?_)⟩
    · refine ⟨by show 1 ≤ sizeLine; decide, fun t nt => ?_⟩
      obtain ⟨a1, a2, a3⟩ := new_tup (ds := [.str "any"]) plG nt sbG (.cons (.str _) .nil)
      exact q _ _ .any a1 a2 a3 trivial
    · refine ⟨_, rfl, rfl, _, rfl, ite2 (fun e => ?_) (fun e => ?_)⟩
      · refine ⟨_, rfl, p, 3, rfl, plG, by decide, by decide, fun H3 r3 pl3 o3 h0 h1 => ⟨_, _, rfl, rfl, by show 2 ≤ sizeLine; decide, fun t nt => ?_⟩⟩
        obtain ⟨a1, a2, a3⟩ := new_tup (ds := [.str "on", .int (1 + r3)]) (H := H) pl3 nt (by rw [o3]; exact sbG) (.cons (.str _) (.cons (.int _) .nil))
        exact q _ _ (.on (1 + r3)) a1 a2 a3 ⟨by omega, by omega⟩
      · refine ⟨_, rfl, _, rfl, ca, _, 1, _, rfl, rfl, same_tup off_sub hcG, atI_nat (j := 1) rfl, p, b.2, rfl, plG, by omega, by omega, fun H3 r3 pl3 o3 h0 h1 => ⟨by show 2 ≤ sizeLine; decide, fun t nt => ?_⟩⟩
        obtain ⟨a1, a2, a3⟩ := new_tup (ds := [.str "to", .int r3]) (H := H) pl3 nt (by rw [o3]; exact sbG) (.cons (.str _) (.cons (.int _) .nil))
        exact q _ _ (.to r3) a1 a2 a3 ⟨h0, h1⟩
  refine ⟨_, rfl, rfl, _, rfl, ite2 (fun e => ?_) (fun e => rest H2 (Same.refl H2))⟩
  refine ⟨_, rfl, Nat.zero_le _, fun e0 n0 => ?_⟩
  have s3 : Same H2 (upd H2 e0 (.lst [])) := same_new n0
  refine ⟨_, _, .lst (SqL.of (s3 _ _ hD)) (dpAll_same (off_sub.trans s3) _ _ hy2), .lst (SqL.of upd_same) .nil, boxL_shaped (fun c hc => ok.lay c (List.mem_filter.mp hc).1), nilL_shaped, _, rfl, ?_⟩
  rw [boxL_eqv]
  refine ite2 (fun e2 => ?_) (fun e2 => rest _ s3)
  have pl3 := pool_same pl2 s3
  have s23 : Same (off p H2) (off p (upd H2 e0 (.lst []))) := off_mono s3
  have hD3 := s23 _ _ hD2
  have hy3 := dpAll_same s23 _ _ hy2
  have sb3 := sb.trans s23
  generalize upd H2 e0 (.lst []) = H3 at pl3 s23 hD3 hy3 sb3 ⊢
  have yl0 : 0 < ys.length := by
    rw [yl]
    refine List.length_pos_iff.mpr fun z => ?_
    rw [z] at e2
    cases e2
  have yl1 : ys.length ≤ 100 := by
    rw [yl]
    exact Nat.le_trans (List.length_filter_le _ _) ok.few
  refine ⟨_, rfl, _, rfl, _, rfl, D, _, rfl, .inl (SqL.of (off_sub _ _ hD3)), p, _, rfl, pl3, by omega, by omega, fun H4 r4 pl4 o4 h0 h1 => ?_⟩
  have hD4 : off p H4 D = some (.lst ys) := by
    rw [o4]
    exact hD3
  have hi : r4.toNat < ys.length := by omega
  have hg : ys[r4.toNat]? = some ys[r4.toNat] := List.getElem?_eq_getElem hi
  obtain ⟨d, hd1, hd2⟩ := dpAll_get hy3 hg
  rw [List.getElem?_map] at hd1
  obtain ⟨c, hc1, rfl⟩ := Option.map_eq_some_iff.mp hd1
  have mc := List.mem_filter.mp (List.mem_of_getElem? hc1)
  rw [← o4] at hd2
  have hat : atI ys r4 = some ys[r4.toNat] := by
    have z := atI_nat hg
    rwa [Int.toNat_of_nonneg h0] at z
  generalize ys[r4.toNat] = y at hd2 hat
  obtain ⟨cy, z1, z2, rfl, hcy, f1, f2⟩ := dp2 hd2
  cases dp_str f1
  refine ⟨D, _, r4, _, rfl, rfl, SqL.of (off_sub _ _ hD4), hat, cy, _, 0, _, rfl, rfl, same_tup off_sub hcy, atI_nat (j := 0) rfl, by show 2 ≤ sizeLine; decide, fun t nt => ?_⟩
  obtain ⟨a1, a2, a3⟩ := new_tup (ds := [.str "of", .str c.1]) (H := H) pl4 nt (by rw [o4]; exact sb3) (.cons (.str _) (.cons (.str _) .nil))
  obtain ⟨m1, m2⟩ := Bool.and_eq_true_iff.mp mc.2
  refine q _ _ (.of c.1) a1 a2 a3 ⟨fun en => ?_, c.2, size_mem ok.nd mc.1, of_decide_eq_true m1⟩
  have z1 := size_mem ok.nd mc.1
  have z2 := size_mem ok.nd hb
  rw [en, z2] at z1
  have z3 : c = b := Prod.ext en (Option.some.inj z1).symm
  rw [z3, decide_eq_true rfl] at m2
  cases m2
end
end PP

set_option maxHeartbeats 4000000
namespace PP
open PySem PySem.Spec PyProof.Rows L2 G3 M0 PA
abbrev nRow : List Str := ["_law_pool_here", "_law_boxes", "_law_total", "_law_titles", "_law_others", "_law_way", "_law_box"]
theorem scRow : FnScope nRow ["_law_pool_here", "_law_boxes", "_law_total", "_law_titles", "_law_others"] (defScope s_law_row) := ⟨rfl, rfl, rfl, by decide +kernel, rfl, by decide +kernel, by decide +kernel⟩
theorem strL_shaped {zs : List Str} (h : ∀ z ∈ zs, PyData.strOk z = true) : SeqAt.shaped (.list (zs.map PyData.str)) = true := by
  unfold SeqAt.shaped
  have e1 : (PyData.list (zs.map PyData.str)).canLay0 = true := by
    simp only [PyData.canLay0]
    exact lay_all fun x hx => by
      obtain ⟨b, hb, rfl⟩ := List.mem_map.mp hx
      simp only [PyData.canLay0]
      exact h b hb
  have e2 : (PyData.list (zs.map PyData.str)).depth ≤ 64 := Nat.le_trans (G4.depth_list (k := 0) fun x hx => by
    obtain ⟨b, hb, rfl⟩ := List.mem_map.mp hx
    simp only [PyData.depth]
    exact Nat.le_refl _) (by decide)
  rw [e1, decide_eq_true e2]
  rfl
theorem strL_eqv (zs : List Str) : PyData.eqv (.list (zs.map PyData.str)) (.list []) = zs.isEmpty := by
  cases zs <;> simp [PyData.eqv, PyData.eqvAll]
theorem strL_dp {K : PySem.W.Frag} {H : Hp} : ∀ zs : List Str, DpAll K H (zs.map V.str) (zs.map PyData.str)
  | [] => .nil
  | z :: zs => .cons (.str z) (strL_dp zs)
theorem intL_dp {K : PySem.W.Frag} {H : Hp} : ∀ zs : List Int, DpAll K H (zs.map V.int) (zs.map PyData.int)
  | [] => .nil
  | z :: zs => .cons (.int z) (intL_dp zs)
theorem rising_of {a : Int} : ∀ {ns : List Int}, ns.Pairwise (· < ·) → (∀ n ∈ ns, a < n) → Rising a ns
  | [], _, _ => trivial
  | n :: ns, h, ha => by
    obtain ⟨h1, h2⟩ := List.pairwise_cons.mp h
    exact ⟨ha n List.mem_cons_self, rising_of h2 h1⟩
theorem and_if {T : Hp → Prop} {H : Hp} {b : Bool} {X : Prop} (rest : ∀ G, Same H G → T G) (yes : b = true → (∀ G, Same H G → T G) → X) : if b = true then X else T H := by
  split
  · exact yes ‹_› rest
  · exact rest H (Same.refl H)
theorem lz1 : 1 ≤ sizeLine := by decide
theorem lz2 : 2 ≤ sizeLine := by decide
theorem lz3 : 3 ≤ sizeLine := by decide
theorem lz4 : 4 ≤ sizeLine := by decide
/-- a word drawn from a list -/
theorem pick {zs : List Str} {i : Int} (h0 : 0 ≤ i) (h1 : i < zs.length) : ∃ z ∈ zs, atI (zs.map V.str) i = some (.str z) := by
  have hi : i.toNat < zs.length := by omega
  refine ⟨zs[i.toNat], List.getElem_mem hi, ?_⟩
  have z := atI_nat (xs := zs.map V.str) (j := i.toNat) (v := .str zs[i.toNat]) (by rw [List.getElem?_map, List.getElem?_eq_getElem hi]; rfl)
  rwa [Int.toNat_of_nonneg h0] at z
section
variable {P : Program} {w : World} {K : PySem.W.Frag} {mg : Str → Option Value} {base : Heap}
structure Words (zs : List Str) : Prop where
  few : zs.length ≤ 100
  lay : ∀ z ∈ zs, PyData.strOk z = true
def spRow (K : PySem.W.Frag) : Sp := fun vs H Q _ => ∃ (p l tl ol : Addr) (ws : List V) (bs : List Box) (m : Int) (ts os : List Str), vs = [.ref p, .ref l, .int m, .ref tl, .ref ol] ∧ Pool H p ∧ SqL K (off p H) l ws ∧ DpAll K (off p H) ws (bs.map boxD) ∧ Draw bs ∧
  1 ≤ m ∧ m ≤ 1000 ∧ SqL K (off p H) tl (ts.map V.str) ∧ SqL K (off p H) ol (os.map V.str) ∧ Words ts ∧ Words os ∧
  ∀ (H' : Hp) (u : V) (r : PA.Row), Pool H' p → Same (off p H) (off p H') → Dp K (off p H') u r.data → RowOk bs ts os m r → Q u H'
set_option maxHeartbeats 8000000 in
theorem ok_row {f : Addr} {fd : FuncData} {k : Nat} (F : Fun K "_law_row" "_law_row" s_law_row f fd) (T : Def P w K mg base CX0 (k + 1) "_law_take" ["_law_pool_here", "_law_total"] spTake) (S : Def P w K mg base CX0 (k + 1) "_law_source" ["_law_pool_here", "_law_boxes", "_law_box"] (spSrc K))
    (ml : mg "len" = none) (mt : mg "tuple" = none) (mso : mg "sorted" = none) (mse : mg "set" = none) (mi : mg "int" = none) :
    FnOk P w K mg base CX0 (k + 1 + 1) f fd ["_law_pool_here", "_law_boxes", "_law_total", "_law_titles", "_law_others"] (spRow K) := by
  refine F.ok scRow (fun vs H Q E h => ?_) (fun cdv A outer s H vs Q E hr h => ?_)
  · obtain ⟨p, l, tl, ol, ws, bs, m, ts, os, rfl, _⟩ := h
    rfl
  obtain ⟨p, l, tl, ol, ws, bs, m, ts, os, rfl, pl, hl, hws, ok, m1, m2, htl, hol, wt, wo, q⟩ := h
  have nd := scRow.nd
  refine ⟨_, pss_cons (ps_set (i := 5) nd rfl (.inl rfl) (pe_call T.ok hr (by rfl) T.g T.kp T.b .nil pass0 (pa_cons (pv 0) (pa_cons pe_int pa_nil))))
    (pss_cons (ps_set (i := 6) nd rfl (.inl rfl) (pe_ix ix_list (pv 1) (pe_call T.ok hr (by rfl) T.g T.kp T.b .nil pass0 (pa_cons (pv 0) (pa_cons (pe_callB call_len_seq (by rfl) ml PySem.boot_len (pa_cons (pv 1) pa_nil)) pa_nil))) (fun _ _ => rfl)))
    (pss_cons (ps_if (pt_cmpR op_lt (pv 5) pe_int (nomark _)) (pss_one (ps_ret (pe_tup (pa_cons pe_str (pa_cons (pe_ix ix_tup (pv 6) pe_int (fun _ _ => rfl)) (pa_cons (pe_call S.ok hr (by rfl) S.g S.kp S.b .nil pass0 (pa_cons (pv 0) (pa_cons (pv 1) (pa_cons (pv 6) pa_nil)))) pa_nil)))))) pss_nil)
    (pss_cons (ps_if (pt_cmpR op_lt (pv 5) pe_int (nomark _)) (pss_one (ps_ret (pe_tup (pa_cons pe_str (pa_cons (pe_ix ix_tup (pv 6) pe_int (fun _ _ => rfl)) (pa_cons (pe_call T.ok hr (by rfl) T.g T.kp T.b .nil pass0 (pa_cons (pv 0) (pa_cons (pe_ix ix_tup (pv 6) pe_int (fun _ _ => rfl)) pa_nil))) (pa_cons (pe_call T.ok hr (by rfl) T.g T.kp T.b .nil pass0 (pa_cons (pv 0) (pa_cons (pe_op op_add (pv 2) pe_int) pa_nil))) pa_nil))))))) pss_nil)
    (pss_cons (ps_if (pt_cmpR op_eq (pv 5) pe_int (nomark _)) (pss_one (ps_ret (pe_tup (pa_cons pe_str (pa_cons (pe_ix ix_tup (pv 6) pe_int (fun _ _ => rfl)) (pa_cons (pe_call T.ok hr (by rfl) T.g T.kp T.b .nil pass0 (pa_cons (pv 0) (pa_cons (pe_ix ix_tup (pv 6) pe_int (fun _ _ => rfl)) pa_nil))) pa_nil)))))) pss_nil)
    (pss_cons (ps_if (pt_cmpR op_eq (pv 5) pe_int (nomark _)) (pss_one (ps_ret (pe_tup (pa_cons pe_str (pa_cons (pe_callTy call_tuple_of (by rfl) mt (by decide +kernel) (pa_cons (pe_callB (cr_sortedSet rfl) (by rfl) mso (by decide +kernel) (pa_cons (pe_callTy (SL.cr_setL rfl) (by rfl) mse (by decide +kernel) (pa_cons (pe_lst
        (pa_cons (pe_call T.ok hr (by rfl) T.g T.kp T.b .nil pass0 (pa_cons (pv 0) (pa_cons (pe_op op_add (pv 2) pe_int) pa_nil))) (pa_cons (pe_call T.ok hr (by rfl) T.g T.kp T.b .nil pass0 (pa_cons (pv 0) (pa_cons (pe_op op_add (pv 2) pe_int) pa_nil))) pa_nil))) pa_nil)) pa_nil)) pa_nil)) pa_nil))))) pss_nil)
    (pss_cons (ps_if (PW.pt (pw_and (pt_cmpR op_lt (pv 5) pe_int (nomark _)) (pw_and1 (pt_cmpR (op_neD hr.units) (pv 3) (pe_lst pa_nil) (nomark _))))) (pss_one (ps_ret (pe_tup (pa_cons pe_str (pa_cons (pe_ix ix_list (pv 3) (pe_call T.ok hr (by rfl) T.g T.kp T.b .nil pass0 (pa_cons (pv 0) (pa_cons (pe_callB call_len_seq (by rfl) ml PySem.boot_len (pa_cons (pv 3) pa_nil)) pa_nil))) (fun _ _ => rfl)) pa_nil))))) pss_nil)
    (pss_cons (ps_if (PW.pt (pw_and (pt_cmpR op_eq (pv 5) pe_int (nomark _)) (pw_and1 (pt_cmpR (op_neD hr.units) (pv 4) (pe_lst pa_nil) (nomark _))))) (pss_one (ps_ret (pe_tup (pa_cons pe_str (pa_cons (pe_ix ix_list (pv 4) (pe_call T.ok hr (by rfl) T.g T.kp T.b .nil pass0 (pa_cons (pv 0) (pa_cons (pe_callB call_len_seq (by rfl) ml PySem.boot_len (pa_cons (pv 4) pa_nil)) pa_nil))) (fun _ _ => rfl)) pa_nil))))) pss_nil)
    (pss_one (ps_ret (pe_ix ix_list (pe_lst (pa_cons (pe_tup (pa_cons pe_str pa_nil)) (pa_cons (pe_tup (pa_cons pe_str pa_nil)) pa_nil))) (pe_callTy call_int1 (by rfl) mi (by decide +kernel) (pa_cons (pe_cmpR op_eq (pv 5) pe_int (nomark _)) pa_nil)) (fun _ _ => rfl))))))))))), ?_⟩
  have bl1 := ok.one
  have bl2 := ok.few
  have hwl : ws.length = bs.length := by rw [dpAll_len hws, List.length_map]
  refine ⟨_, rfl, p, 14, rfl, pl, by decide, by decide, fun H1 r1 pl1 o1 r10 r11 => ?_⟩
  refine ⟨_, rfl, _, rfl, _, rfl, l, _, rfl, .inl (off_sub.seq (o1 ▸ hl)), p, _, rfl, pl1, by omega, by omega, fun H2 r2 pl2 o2 r20 r21 => ?_⟩
  have oo : off p H2 = off p H := o2.trans o1
  have hi : r2.toNat < ws.length := by omega
  have hg : ws[r2.toNat]? = some ws[r2.toNat] := List.getElem?_eq_getElem hi
  obtain ⟨d, hd1, hd2⟩ := dpAll_get hws hg
  rw [List.getElem?_map] at hd1
  obtain ⟨b, hb1, rfl⟩ := Option.map_eq_some_iff.mp hd1
  have mb := List.mem_of_getElem? hb1
  have hat : atI ws r2 = some ws[r2.toNat] := by
    have z := atI_nat hg
    rwa [Int.toNat_of_nonneg r20] at z
  rw [← oo] at hd2 hl hws htl hol q
  generalize ws[r2.toNat] = y at hd2 hat
  obtain ⟨cy, z1, z2, rfl, hcy, f1, f2⟩ := dp2 hd2
  cases dp_str f1
  cases dp_int f2
  have hcs := same_tup off_sub hcy
  obtain ⟨sz1, sz2⟩ := ok.sz b mb
  have hsz := size_mem ok.nd mb
  refine ⟨l, _, r2, _, rfl, rfl, off_sub.seq hl, hat, ?_⟩
  refine ⟨_, rfl, _, _, rfl, rfl, _, rfl, ite2 (fun e => ?_) (fun e => ?_)⟩
  · -- set
    refine ⟨_, rfl, cy, _, 0, _, rfl, rfl, hcs, atI_nat (j := 0) rfl, _, rfl, _, rfl, _, rfl, p, l, _, ws, bs, b, rfl, pl2, hl, hws, ok, mb, hd2, fun H3 u so pl3 s3 hu hso => ⟨lz3, fun t nt => ?_⟩⟩
    obtain ⟨a1, a2, a3⟩ := new_tup (ds := [.str "set", .str b.1, so.data]) (H := H2) pl3 nt s3 (.cons (.str _) (.cons (.str _) (.cons hu .nil)))
    exact q _ _ (.set b.1 so) a1 a2 a3 ⟨b.2, hsz, hso⟩
  refine ⟨_, rfl, _, _, rfl, rfl, _, rfl, ite2 (fun e => ?_) (fun e => ?_)⟩
  · -- if
    refine ⟨_, rfl, cy, _, 0, _, rfl, rfl, hcs, atI_nat (j := 0) rfl, _, rfl, _, rfl, cy, _, 1, _, rfl, rfl, hcs, atI_nat (j := 1) rfl, p, b.2, rfl, pl2, by omega, by omega, fun H3 r3 pl3 o3 h0 h1 => ?_⟩
    refine ⟨_, rfl, _, rfl, _, _, rfl, rfl, p, m + 1, rfl, pl3, by omega, by omega, fun H4 r4 pl4 o4 g0 g1 => ⟨lz4, fun t nt => ?_⟩⟩
    obtain ⟨a1, a2, a3⟩ := new_tup (K := K) (vs := [.str "if", .str b.1, .int r3, .int r4]) (ds := [.str "if", .str b.1, .int r3, .int r4]) (H := H2) pl4 nt (by rw [o4, o3]; exact Same.refl _) (.cons (.str _) (.cons (.str _) (.cons (.int _) (.cons (.int _) .nil))))
    exact q _ _ (.ift b.1 r3 r4) a1 a2 a3 ⟨b.2, hsz, h0, h1, g0, by omega⟩
  refine ⟨_, rfl, rfl, _, rfl, ite2 (fun e => ?_) (fun e => ?_)⟩
  · -- wait
    refine ⟨_, rfl, cy, _, 0, _, rfl, rfl, hcs, atI_nat (j := 0) rfl, _, rfl, _, rfl, cy, _, 1, _, rfl, rfl, hcs, atI_nat (j := 1) rfl, p, b.2, rfl, pl2, by omega, by omega, fun H3 r3 pl3 o3 h0 h1 => ⟨lz3, fun t nt => ?_⟩⟩
    obtain ⟨a1, a2, a3⟩ := new_tup (K := K) (vs := [.str "wait", .str b.1, .int r3]) (ds := [.str "wait", .str b.1, .int r3]) (H := H2) pl3 nt (by rw [o3]; exact Same.refl _) (.cons (.str _) (.cons (.str _) (.cons (.int _) .nil)))
    exact q _ _ (.wait b.1 r3) a1 a2 a3 ⟨b.2, hsz, h0, h1⟩
  refine ⟨_, rfl, rfl, _, rfl, ite2 (fun e => ?_) (fun e => ?_)⟩
  · -- go
    refine ⟨_, rfl, _, rfl, _, _, rfl, rfl, p, m + 1, rfl, pl2, by omega, by omega, fun H3 r3 pl3 o3 h0 h1 => ?_⟩
    refine ⟨_, rfl, _, rfl, _, _, rfl, rfl, p, m + 1, rfl, pl3, by omega, by omega, fun H4 r4 pl4 o4 g0 g1 => ⟨lz2, fun x nx => ?_⟩⟩
    have s4 : Same (off p H2) (off p H4) := by rw [o4, o3]; exact Same.refl _
    refine ⟨x, [r3, r4], rfl, SqL.of upd_same, by show 2 < 60; decide, fun a c na hc => ?_⟩
    have s5 : Same H4 (upd H4 x (.lst [.int r3, .int r4])) := same_new nx
    refine ⟨a, _, c, rfl, upd_same, Nat.lt_of_le_of_lt hc (by show 2 < 64; decide), fun ns b2 pw mem len nb => ?_⟩
    have s6 := same_new (o := SetO w a (fun j => decide (j ∈ [r3, r4])) c) na
    have s7 := same_new (o := .lst (ns.map V.int)) nb
    have s47 := (s5.trans s6).trans s7
    refine ⟨b2, _, rfl, .inl ⟨SqL.of upd_same, fun t nt => ⟨lz2, fun t2 nt2 => ?_⟩⟩⟩
    have pl7 := pool_same pl4 s47
    obtain ⟨a1, a2, a3⟩ := new_tup (K := K) (ds := ns.map PyData.int) (H := H2) pl7 nt (s4.trans (off_mono s47)) (intL_dp ns)
    obtain ⟨b1, b2, b3⟩ := new_tup (ds := [.str "go", .tuple (ns.map PyData.int)]) (H := H2) a1 nt2 a2 (.cons (.str _) (.cons a3 .nil))
    have mm : ∀ n ∈ ns, n = r3 ∨ n = r4 := fun n hn => by
      have z := of_decide_eq_true ((mem n).mp hn)
      simpa using z
    refine q _ _ (.go ns) b1 b2 b3 ⟨?_, ?_, rising_of pw fun n hn => ?_, fun n hn => ?_⟩
    · exact List.length_pos_of_mem ((mem r3).mpr (decide_eq_true List.mem_cons_self))
    · rw [len]
      exact Nat.le_trans hc (by show 2 ≤ 4; decide)
    · rcases mm n hn with rfl | rfl <;> omega
    · rcases mm n hn with rfl | rfl <;> omega
  -- call
  refine ⟨_, rfl, _, _, rfl, rfl, _, rfl, and_if (H := H2) (fun G sG => iteF ?_) (fun e rest => ?_)⟩
  case refine_2 =>
    refine ⟨_, rfl, Nat.zero_le _, fun e0 n0 => ?_⟩
    have s3 : Same H2 (upd H2 e0 (.lst [])) := same_new n0
    refine ⟨_, _, .lst (s3.seq (off_sub.seq htl)) (strL_dp ts), .lst (SqL.of upd_same) .nil, strL_shaped wt.lay, nilL_shaped, _, rfl, ?_⟩
    rw [strL_eqv]
    refine ite2 (fun e2 => ?_) (fun e2 => rest _ s3)
    have t0 : 0 < ts.length := List.length_pos_iff.mpr fun z => by
      rw [z] at e2
      cases e2
    have tf := wt.few
    refine ⟨_, rfl, _, rfl, _, rfl, tl, _, rfl, .inl (s3.seq (off_sub.seq htl)), p, _, rfl, pool_same pl2 s3, by rw [List.length_map]; omega, by rw [List.length_map]; omega, fun H4 r4 pl4 o4 h0 h1 => ?_⟩
    rw [List.length_map] at h1
    obtain ⟨z, hz, hat4⟩ := pick h0 h1
    have s4 : Same (off p H2) (off p H4) := by
      rw [o4]
      exact off_mono s3
    refine ⟨tl, _, r4, _, rfl, rfl, off_sub.seq (s4.seq htl), hat4, lz2, fun t nt => ?_⟩
    obtain ⟨a1, a2, a3⟩ := new_tup (K := K) (vs := [.str "call", .str z]) (ds := [.str "call", .str z]) (H := H2) pl4 nt s4 (.cons (.str _) (.cons (.str _) .nil))
    exact q _ _ (.call z) a1 a2 a3 hz
  -- begin
  refine ⟨_, rfl, rfl, _, rfl, and_if (H := G) (fun G2 sG2 => iteF ?_) (fun e rest => ?_)⟩
  case refine_2 =>
    refine ⟨_, rfl, Nat.zero_le _, fun e0 n0 => ?_⟩
    have s3 : Same H2 (upd G e0 (.lst [])) := sG.trans (same_new n0)
    refine ⟨_, _, .lst (s3.seq (off_sub.seq hol)) (strL_dp os), .lst (SqL.of upd_same) .nil, strL_shaped wo.lay, nilL_shaped, _, rfl, ?_⟩
    rw [strL_eqv]
    refine ite2 (fun e2 => ?_) (fun e2 => rest _ (same_new n0))
    have t0 : 0 < os.length := List.length_pos_iff.mpr fun z => by
      rw [z] at e2
      cases e2
    have tf := wo.few
    refine ⟨_, rfl, _, rfl, _, rfl, ol, _, rfl, .inl (s3.seq (off_sub.seq hol)), p, _, rfl, pool_same pl2 s3, by rw [List.length_map]; omega, by rw [List.length_map]; omega, fun H4 r4 pl4 o4 h0 h1 => ?_⟩
    rw [List.length_map] at h1
    obtain ⟨z, hz, hat4⟩ := pick h0 h1
    have s4 : Same (off p H2) (off p H4) := by
      rw [o4]
      exact off_mono s3
    refine ⟨ol, _, r4, _, rfl, rfl, off_sub.seq (s4.seq hol), hat4, lz2, fun t nt => ?_⟩
    obtain ⟨a1, a2, a3⟩ := new_tup (K := K) (vs := [.str "begin", .str z]) (ds := [.str "begin", .str z]) (H := H2) pl4 nt s4 (.cons (.str _) (.cons (.str _) .nil))
    exact q _ _ (.begin z) a1 a2 a3 hz
  -- back, fault
  have s2G := sG.trans sG2
  have plG := pool_same pl2 s2G
  refine ⟨lz1, fun t1 n1 => ⟨lz1, fun t2 n2 => ⟨lz2, fun x nx => ?_⟩⟩⟩
  obtain ⟨a1, a2, a3⟩ := new_tup (K := K) (vs := [.str "back"]) (ds := [.str "back"]) (H := H2) plG n1 (off_mono s2G) (.cons (.str _) .nil)
  obtain ⟨b1, b2, b3⟩ := new_tup (K := K) (vs := [.str "fault"]) (ds := [.str "fault"]) (H := H2) a1 n2 a2 (.cons (.str _) .nil)
  have a4 := dp_same (off_mono (p := p) (same_new (o := .tup [.str "fault"]) n2)) _ _ a3
  have sx := same_new (o := .lst [.ref t1, .ref t2]) nx
  have sxo := off_mono (p := p) sx
  have plx := pool_same b1 sx
  have a5 := dp_same sxo _ _ a4
  have b5 := dp_same sxo _ _ b3
  have s5 := b2.trans sxo
  refine ⟨_, rfl, rfl, .inr ⟨_, rfl, ?_⟩⟩
  have fin : ∀ kk : Bool, rIxL K (.ref x) (.int (if kk then 1 else 0)) (upd (upd (upd G2 t1 (.tup [.str "back"])) t2 (.tup [.str "fault"])) x (.lst [.ref t1, .ref t2])) Q := by
    intro kk
    cases kk with
    | false => exact ⟨x, _, 0, _, rfl, rfl, SqL.of upd_same, atI_nat (j := 0) rfl, q _ _ .back plx s5 a5 trivial⟩
    | true => exact ⟨x, _, 1, _, rfl, rfl, SqL.of upd_same, atI_nat (j := 1) rfl, q _ _ .fault plx s5 b5 trivial⟩
  exact fin _
end
end PP

set_option maxHeartbeats 4000000
namespace PP
open PySem PySem.Spec PyProof.Rows L2 G3 M0 PA
abbrev nTexts : List Str := ["_law_pool_here", "_law_boxes", "_law_others", "_law_deep", "_law_titles", "_law_found", "_law_at", "_law_title", "_law_total", "_law_some", "_law_turn"]
theorem scTexts : FnScope nTexts ["_law_pool_here", "_law_boxes", "_law_others", "_law_deep"] (defScope s_law_texts) := ⟨rfl, rfl, rfl, by decide +kernel, rfl, by decide +kernel, by decide +kernel⟩
/-- nothing but tuples around the leaves -/
inductive TupOnly : PyData → Prop where
  | int (i : Int) : TupOnly (.int i)
  | str (z : Str) : TupOnly (.str z)
  | tup {ds : List PyData} (h : ∀ d ∈ ds, TupOnly d) : TupOnly (.tuple ds)
theorem tup_hide {K : PySem.W.Frag} {H : Hp} {D a : Addr} {us xs : List V} (hD : H D = some (.lst us)) (h : SqT K H a xs) : SqT K (off D H) a xs := by
  rcases h with (h | ⟨o, h⟩) | h
  · exact .inl (.inl (by rw [off_ne (fun e => by rw [e, hD] at h; cases h)]; exact h))
  · exact .inl (.inr ⟨o, by rw [off_ne (fun e => by rw [e, hD] at h; cases h)]; exact h⟩)
  · exact .inr h
mutual
theorem dp_hide {K : PySem.W.Frag} {H : Hp} {D : Addr} {us : List V} (hD : H D = some (.lst us)) : ∀ (d : PyData) (v : V), TupOnly d → Dp K H v d → Dp K (off D H) v d
  | .none, _, t, h => nomatch t
  | .bool _, _, t, h => nomatch t
  | .int _, _, _, h => by cases h; exact .int _
  | .str _, _, _, h => by cases h; exact .str _
  | .list ds, _, t, h => nomatch t
  | .tuple ds, _, t, h => by
    cases h with
    | tup hs ha =>
      cases t with
      | tup tt => exact .tup (tup_hide hD hs) (dpAll_hide hD ds _ tt ha)
  | .dict _, _, t, h => nomatch t
theorem dpAll_hide {K : PySem.W.Frag} {H : Hp} {D : Addr} {us : List V} (hD : H D = some (.lst us)) : ∀ (ds : List PyData) (vs : List V), (∀ d ∈ ds, TupOnly d) → DpAll K H vs ds → DpAll K (off D H) vs ds
  | [], _, _, h => by cases h; exact .nil
  | d :: ds, _, t, h => by
    cases h with
    | cons h1 h2 => exact .cons (dp_hide hD d _ (t d List.mem_cons_self) h1) (dpAll_hide hD ds _ (fun e he => t e (List.mem_cons_of_mem _ he)) h2)
end
theorem to_map {α : Type} {f : α → PyData} {xs : List α} (h : ∀ x ∈ xs, TupOnly (f x)) : TupOnly (.tuple (xs.map f)) := .tup fun d hd => by
  obtain ⟨x, hx, rfl⟩ := List.mem_map.mp hd
  exact h x hx
theorem to_nil : ∀ d ∈ ([] : List PyData), TupOnly d := fun _ z => nomatch z
theorem to_cons {d : PyData} {ds : List PyData} (h1 : TupOnly d) (h2 : ∀ e ∈ ds, TupOnly e) : ∀ e ∈ d :: ds, TupOnly e := fun e he => by
  rcases List.mem_cons.mp he with rfl | he
  · exact h1
  · exact h2 e he
theorem to_src (s : Src) : TupOnly s.data := by
  cases s with
  | to n => exact .tup (to_cons (.str _) (to_cons (.int _) to_nil))
  | of b => exact .tup (to_cons (.str _) (to_cons (.str _) to_nil))
  | on n => exact .tup (to_cons (.str _) (to_cons (.int _) to_nil))
  | any => exact .tup (to_cons (.str _) to_nil)
theorem to_row (r : PA.Row) : TupOnly r.data := by
  cases r with
  | set b s => exact .tup (to_cons (.str _) (to_cons (.str _) (to_cons (to_src s) to_nil)))
  | ift b v r => exact .tup (to_cons (.str _) (to_cons (.str _) (to_cons (.int _) (to_cons (.int _) to_nil))))
  | go rs => exact .tup (to_cons (.str _) (to_cons (to_map fun _ _ => .int _) to_nil))
  | call t => exact .tup (to_cons (.str _) (to_cons (.str _) to_nil))
  | back => exact .tup (to_cons (.str _) to_nil)
  | wait b v => exact .tup (to_cons (.str _) (to_cons (.str _) (to_cons (.int _) to_nil)))
  | begin h => exact .tup (to_cons (.str _) (to_cons (.str _) to_nil))
  | fault => exact .tup (to_cons (.str _) to_nil)
theorem to_rows (rs : List PA.Row) : TupOnly (rowsD rs) := to_map fun r _ => to_row r
theorem to_text (t : Text) : TupOnly (textD t) := .tup (to_cons (.str _) (to_cons (to_rows _) to_nil))
theorem to_box (b : Box) : TupOnly (boxD b) := .tup (to_cons (.str _) (to_cons (.int _) to_nil))
theorem to_hand (h : Hand) : TupOnly (handD h) := .tup (to_cons (.str _) (to_cons (to_map fun b _ => to_box b) (to_cons (to_map fun t _ => to_text t) to_nil)))
theorem row_mono {bs : List Box} {ts ts' os : List Str} {m : Int} (h : ∀ t ∈ ts, t ∈ ts') : ∀ r : PA.Row, RowOk bs ts os m r → RowOk bs ts' os m r
  | .set _ _, a => a
  | .ift _ _ _, a => a
  | .go _, a => a
  | .call _, a => h _ a
  | .back, a => a
  | .wait _ _, a => a
  | .begin _, a => a
  | .fault, a => a
section
variable {P : Program} {w : World} {K : PySem.W.Frag} {mg : Str → Option Value} {base : Heap}
def spTexts (K : PySem.W.Frag) : Sp := fun vs H Q _ => ∃ (p l ol : Addr) (ws : List V) (bs : List Box) (os : List Str), vs = [.ref p, .ref l, .ref ol, .bl true] ∧ Pool H p ∧ SqL K (off p H) l ws ∧ DpAll K (off p H) ws (bs.map boxD) ∧ Draw bs ∧
  SqL K (off p H) ol (os.map V.str) ∧ Words os ∧
  ∀ (H' : Hp) (u : V) (ts : List Text), Pool H' p → Same (off p H) (off p H') → Dp K (off p H') u (.tuple (ts.map textD)) → TextsOk bs os ts → Q u H'
set_option maxHeartbeats 8000000 in
theorem ok_texts {f : Addr} {fd : FuncData} {k : Nat} (F : Fun K "_law_texts" "_law_texts" s_law_texts f fd) (T : Def P w K mg base CX0 (k + 1) "_law_take" ["_law_pool_here", "_law_total"] spTake) (R : Def P w K mg base CX0 (k + 1) "_law_row" ["_law_pool_here", "_law_boxes", "_law_total", "_law_titles", "_law_others"] (spRow K))
    (me : mg "enumerate" = none) (mt : mg "tuple" = none) (mr : mg "range" = none) :
    FnOk P w K mg base CX0 (k + 1 + 1) f fd ["_law_pool_here", "_law_boxes", "_law_others", "_law_deep"] (spTexts K) := by
  refine F.ok scTexts (fun vs H Q E h => ?_) (fun cdv A outer s H vs Q E hr h => ?_)
  · obtain ⟨p, l, ol, ws, bs, os, rfl, _⟩ := h
    rfl
  obtain ⟨p, l, ol, ws, bs, os, rfl, pl, hl, hws, ok, hol, wo, q⟩ := h
  have nd := scTexts.nd
  refine ⟨_, pss_cons (ps_set (i := 4) nd rfl (.inl rfl) (pe_slice sl_list (pe_lst (pa_cons pe_str (pa_cons pe_str pa_nil))) po_none (po_some (pe_op op_add pe_int (pe_call T.ok hr (by rfl) T.g T.kp T.b .nil pass0 (pa_cons (pv 0) (pa_cons pe_int pa_nil)))))))
    (pss_cons (ps_set (i := 5) nd rfl (.inl rfl) (pe_lst pa_nil))
    (pss_cons (ps_for PassesOwn.never rfl (pi_enum (by rfl) me (pa_cons (pv 4) pa_nil)) (pg_tup rfl (pgs_cons (pg_name (i := 6) nd rfl (.inl rfl)) (pgs_cons (pg_name (i := 7) nd rfl (.inl rfl)) pgs_nil)))
      (pss_cons (ps_set (i := 8) nd rfl (.inr rfl) (pe_op op_add pe_int (pe_call T.ok hr (by rfl) T.g T.kp T.b .nil pass0 (pa_cons (pv 0) (pa_cons pe_int pa_nil)))))
      (pss_cons (ps_set (i := 9) nd rfl (.inr rfl) (pe_ifExp (pt_val (pv 3)) (pv 4) pe_dead))
      (pss_one (ps_expr (pe_bm PySem.F.plainAttrs_list PySem.F.slot_list_append PySem.F.type_list_append mt_append (pv 5) (pa_cons (pe_tup (pa_cons (pv 7)
        (pa_cons (pe_callTy call_tuple_of (by rfl) mt (by decide +kernel) (pa_cons (pe_lc (own := [("_law_turn", 10)]) (g := gName 10) (tt := tYes) (by rfl) nd (pi_range1 (by rfl) mr (pa_cons (pv 8) pa_nil))
          (blkOk_by (N := nTexts) (sc := defScope s_law_texts) (by decide +kernel)) (fun _ _ _ _ _ => pg_name (i := 10) nd rfl (.inl rfl)) (fun _ _ _ _ _ => pts_nil)
          (fun _ _ _ _ _ => pe_call R.ok hr (by rfl) R.g R.kp R.b .nil pass0 (pa_cons (pv 0) (pa_cons (pv 1) (pa_cons (pv 8) (pa_cons (pv 9) (pa_cons (pv 2) pa_nil))))))) pa_nil)) pa_nil))) pa_nil)))))))
    (pss_one (ps_ret (pe_callTy call_tuple_of (by rfl) mt (by decide +kernel) (pa_cons (pv 5) pa_nil)))))), ?_⟩
  refine ⟨lz2, fun x0 n0 => ?_⟩
  have s0 : Same H (upd H x0 (.lst [.str "main", .str "sub"])) := same_new n0
  have x0p := pool_ne pl n0
  refine ⟨_, rfl, p, 2, rfl, pool_same pl s0, by decide, by decide, fun H1 r1 pl1 o1 r10 r11 => ⟨1, r1, rfl, rfl, ?_⟩⟩
  have e1x : off p H1 x0 = some (.lst [.str "main", .str "sub"]) := by
    rw [o1, off_ne x0p]
    exact upd_same
  have sH1 : Same (off p H) (off p H1) := by
    rw [o1]
    exact off_mono s0
  refine ⟨_, rfl, x0, _, rfl, SqL.of (off_sub _ _ e1x), fun ta nta => ?_⟩
  obtain ⟨tts, htt, hcut⟩ : ∃ tts : List Str, (tts = ([("main" : Str)] : List Str) ∨ tts = ([("main" : Str), ("sub" : Str)] : List Str)) ∧ cutV [.str "main", .str "sub"] none (some (1 + r1)) = tts.map V.str := by
    have : r1 = 0 ∨ r1 = 1 := by omega
    rcases this with rfl | rfl
    · exact ⟨_, .inl rfl, rfl⟩
    · exact ⟨_, .inr rfl, rfl⟩
  rw [hcut]
  have tap := pool_ne pl1 nta
  refine ⟨Nat.zero_le _, fun fa nfa => ?_⟩
  have s2 : Same H1 (upd H1 ta (.lst (tts.map V.str))) := same_new nta
  have pl2 := pool_same pl1 s2
  have fap := pool_ne pl2 nfa
  have s3 : Same (upd H1 ta (.lst (tts.map V.str))) (upd (upd H1 ta (.lst (tts.map V.str))) fa (.lst [])) := same_new nfa
  have pl3 := pool_same pl2 s3
  have nfH : off p H fa = none := same_none sH1 (same_none (off_mono s2) (off_none nfa))
  have sH3 : Same (off p H) (off p (upd (upd H1 ta (.lst (tts.map V.str))) fa (.lst []))) := sH1.trans (off_mono (s2.trans s3))
  have hta3 : off p (upd (upd H1 ta (.lst (tts.map V.str))) fa (.lst [])) ta = some (.lst (tts.map V.str)) := by
    rw [off_ne tap]
    exact s3 _ _ upd_same
  have hfa3 : off p (upd (upd H1 ta (.lst (tts.map V.str))) fa (.lst [])) fa = some (.lst []) := by
    rw [off_ne fap]
    exact upd_same
  have fta : fa ≠ ta := fun z => by
    rw [z, upd_same] at nfa
    cases nfa
  generalize upd (upd H1 ta (.lst (tts.map V.str))) fa (.lst []) = H3 at pl3 sH3 hta3 hfa3 ⊢
  clear nta nfa s2 pl2 s3
  have tl2 : tts.length ≤ 2 := by rcases htt with rfl | rfl <;> decide
  have wt : Words tts := ⟨by omega, fun z hz => by
    rcases htt with rfl | rfl <;> simp at hz <;> rcases hz with rfl | rfl <;> decide +kernel⟩
  refine ⟨_, rfl, ta, _, rfl, SqL.of (off_sub _ _ hta3), for_it (walk_enum (a := ta) (xs := tts.map V.str) (K := K)) (fun i σ G => ∃ v6 v7 v8 v9 v10, σ = [some (.ref p), some (.ref l), some (.ref ol), some (.bl true), some (.ref ta), some (.ref fa), v6, v7, v8, v9, v10] ∧ Pool G p ∧ Same (off p H) (off p G) ∧ off p G ta = some (.lst (tts.map V.str)) ∧
      ∃ (acc : List V) (tl : List Text), off p G fa = some (.lst acc) ∧ DpAll K (off fa (off p G)) acc (tl.map textD) ∧ tl.map (·.1) = tts.take i ∧ ∀ t ∈ tl, 1 ≤ t.2.length ∧ t.2.length ≤ 4 ∧ ∀ r ∈ t.2, RowOk bs tts os t.2.length r)
    ⟨none, none, none, none, none, rfl, pl3, sH3, hta3, [], [], hfa3, .nil, rfl, fun _ z => nomatch z⟩ (fun i σ G _ h => ?_) (fun i y σ G G' hi h hy => ?_) (fun σ G h => ?_)⟩
  · obtain ⟨_, _, _, _, _, _, _, _, ht, _⟩ := h
    exact SqL.of (off_sub _ _ ht)
  · obtain ⟨v6, v7, v8, v9, v10, rfl, plG, sG, htG, acc, tl, hfG, hacc, hnm, htl⟩ := h
    obtain ⟨Tq, k1, k2, rfl, nT, rfl, hk1, hk2⟩ := hy
    rw [List.length_map] at hi
    have ei : (tts.map V.str)[i]? = some (.str tts[i]) := by rw [List.getElem?_map, List.getElem?_eq_getElem hi]; rfl
    simp only [ei] at hk1 hk2
    cases hk1
    cases hk2
    have sT : Same G (upd G Tq (.tup [.int (i : Nat), .str tts[i]])) := same_new nT
    refine ⟨Tq, _, rfl, .inl (.inl upd_same), rfl, _, _, rfl, _, _, rfl, rfl, ?_⟩
    have plT := pool_same plG sT
    have soT := off_mono (p := p) sT
    have htT := soT _ _ htG
    have hfT := soT _ _ hfG
    have haT := dpAll_same (off_mono (p := fa) soT) _ _ hacc
    have sHT := sG.trans soT
    generalize upd G Tq (.tup [.int (i : Nat), .str tts[i]]) = G0 at plT htT hfT haT sHT ⊢
    clear sT soT nT
    refine ⟨_, rfl, p, 4, rfl, plT, by decide, by decide, fun G1 r2 pl4 o4 r20 r21 => ⟨1, r2, rfl, rfl, ?_⟩⟩
    rw [← o4] at htT hfT haT sHT
    refine ⟨_, rfl, _, rfl, iteT ⟨_, rfl, ?_⟩⟩
    refine ⟨_, rfl, .inl ⟨rfl, _, SqL.of (off_sub _ _ hfT)⟩, _, rfl, _, rfl, 1 + r2, rfl, by omega, by omega, fun D nD => ?_⟩
    have eD : D ≠ p := pool_ne pl4 nD
    have nD1 : off p G1 D = none := off_none nD
    refine lc_range (n := (1 + r2).toNat) (fun j G2 => Pool G2 p ∧ Same (off p G1) (off p G2) ∧ ∃ (us : List V) (rs : List PA.Row), off p G2 D = some (.lst us) ∧ us.length = j ∧ rs.length = j ∧ DpAll K (off D (off p G2)) us (rs.map PA.Row.data) ∧ ∀ r ∈ rs, RowOk bs tts os (1 + r2) r)
      ⟨pool_put pl4 eD, off_mono (same_new nD), [], [], by rw [off_ne eD]; exact upd_same, rfl, rfl, .nil, fun _ z => nomatch z⟩ (fun j G2 hj hQ => ?_) (fun G2 hQ => ?_)
    · obtain ⟨plb, sb, us, rs, hDb, hul, hrl, hds, hok⟩ := hQ
      refine ⟨rfl, ?_⟩
      dsimp only [tYes]
      rw [if_pos rfl]
      refine ⟨_, rfl, _, rfl, _, rfl, _, rfl, _, rfl, p, l, ta, ol, ws, bs, 1 + r2, tts, os, rfl, plb, (sHT.trans sb).seq hl, dpAll_same (sHT.trans sb) _ _ hws, ok, by omega, by omega, SqL.of (sb _ _ htT), (sHT.trans sb).seq hol, wt, wo, fun G3 u r plc sc hu hro => ?_⟩
      have hDc := sc _ _ hDb
      have hu2 := dp_hide hDc _ _ (to_row r) hu
      have hds2 := dpAll_same (off_mono (p := D) sc) _ _ hds
      refine ⟨us, (off_at hDc).1, LC.small_line (by omega), pool_put plc eD, ?_, us ++ [u], rs ++ [r], ?_, ?_, ?_, ?_, ?_⟩
      · rw [off_put eD]
        exact same_put (sb.trans sc) nD1
      · rw [off_put eD]
        exact upd_same
      · rw [List.length_append, hul]
        rfl
      · rw [List.length_append, hrl]
        rfl
      · rw [off_put eD, off_upd, List.map_append]
        exact dpAll_app hds2 (.cons hu2 .nil)
      · intro r' hr'
        rcases List.mem_append.mp hr' with z | z
        · exact hok r' z
        · rw [List.mem_singleton.mp z]
          exact hro
    · obtain ⟨plb, sb, us, rs, hDb, hul, hrl, hds, hok⟩ := hQ
      refine ⟨D, _, rfl, .inl ⟨SqL.of (off_sub _ _ hDb), fun t nt => ⟨lz2, fun t2 nt2 => ?_⟩⟩⟩
      obtain ⟨a1, a2, a3⟩ := new_tup (H := G1) plb nt sb (dpAll_same off_sub _ _ hds)
      obtain ⟨b1, b2, b3⟩ := new_tup (ds := [.str tts[i], rowsD rs]) (H := G1) a1 nt2 a2 (.cons (.str _) (.cons a3 .nil))
      generalize upd (upd G2 t (.tup us)) t2 (.tup [.str tts[i], .ref t]) = G5 at b1 b2 b3 ⊢
      have hf5 := b2 _ _ hfT
      have b4 := dp_hide hf5 _ _ (to_text (tts[i], rs)) b3
      have ha5 := dpAll_same (off_mono (p := fa) b2) _ _ haT
      have al : acc.length ≤ 2 := by
        have z1 := dpAll_len hacc
        have z2 := congrArg List.length hnm
        rw [List.length_map] at z1 z2
        rw [List.length_take] at z2
        omega
      refine ⟨fa, acc, _, rfl, rfl, (off_at hf5).1, LC.small_line (by omega), _, _, _, _, _, rfl, pool_put b1 fap, ?_, ?_, acc ++ [.ref t2], tl ++ [(tts[i], rs)], ?_, ?_, ?_, ?_⟩
      · rw [off_put fap]
        exact same_put (sHT.trans b2) nfH
      · rw [off_put fap, upd_ne fta.symm]
        exact b2 _ _ htT
      · rw [off_put fap]
        exact upd_same
      · rw [off_put fap, off_upd, List.map_append]
        exact dpAll_app ha5 (.cons b4 .nil)
      · rw [List.map_append, hnm, List.take_succ, List.getElem?_eq_getElem hi]
        rfl
      · intro t' ht'
        rcases List.mem_append.mp ht' with z | z
        · exact htl t' z
        · rw [List.mem_singleton.mp z]
          have e2 : (((tts[i], rs) : Text).2.length : Int) = 1 + r2 := by
            show (rs.length : Int) = 1 + r2
            omega
          refine ⟨?_, ?_, fun r hr2 => ?_⟩
          · show 1 ≤ rs.length
            omega
          · show rs.length ≤ 4
            omega
          · rw [e2]
            exact hok r hr2
  · obtain ⟨v6, v7, v8, v9, v10, rfl, plG, sG, htG, acc, tl, hfG, hacc, hnm, htl⟩ := h
    rw [List.length_map, List.take_length] at hnm
    refine ⟨_, rfl, fa, _, rfl, .inl ⟨SqL.of (off_sub _ _ hfG), fun t nt => ?_⟩⟩
    obtain ⟨a1, a2, a3⟩ := new_tup (H := H) plG nt sG (dpAll_same off_sub _ _ hacc)
    have tlen : tl.length = tts.length := by rw [← hnm, List.length_map]
    refine q _ _ tl a1 a2 a3 ⟨?_, ?_, fun t ht => ?_, ?_, fun t ht r hr2 => ?_⟩
    · rw [tlen]
      rcases htt with rfl | rfl <;> decide
    · omega
    · have mt2 : t.1 ∈ tts := by
        rw [← hnm]
        exact List.mem_map_of_mem ht
      obtain ⟨b1, b2, _⟩ := htl t ht
      refine ⟨?_, b1, by omega⟩
      generalize t.1 = z at mt2
      rcases htt with rfl | rfl <;> simp at mt2 <;> rcases mt2 with rfl | rfl <;> decide +kernel
    · rw [hnm]
      rcases htt with rfl | rfl <;> decide +kernel
    · rw [hnm]
      exact (htl t ht).2.2 r hr2
end
end PP

set_option maxHeartbeats 4000000
namespace PP
open PySem PySem.Spec PyProof.Rows L2 G3 M0 PA
abbrev nProg : List Str := ["_law_pool_here", "_law_most", "_law_deep", "_law_boxes", "_law_names", "_law_found", "_law_name", "_law_own", "_law_others", "_law_item_b"]
theorem scProg : FnScope nProg ["_law_pool_here", "_law_most", "_law_deep"] (defScope s_law_program) := ⟨rfl, rfl, rfl, by decide +kernel, rfl, by decide +kernel, by decide +kernel⟩
theorem sl_two {K : PySem.W.Frag} {G : Hp} {t : Addr} {x y : V} {r : Int} {T : VK} (h : SqT K G t [x, y]) (r0 : 0 ≤ r) (r1 : r < 2)
    (go : ∀ bt G', (bt = t ∧ G' = G ∧ r = 1) ∨ (r = 0 ∧ G bt = none ∧ G' = upd G bt (.tup [x])) → T (.ref bt) G') : rSlA K (.ref t) none (some (1 + r)) G T := by
  have : r = 0 ∨ r = 1 := by omega
  rcases this with rfl | rfl
  · refine ⟨t, _, rfl, h, fun z => ?_, fun _ q nq => go q _ (.inr ⟨rfl, nq, rfl⟩)⟩
    exact absurd z.2 (by show ¬ HT.sIx 2 2 (some (1 + 0)) = 2; decide)
  · exact ⟨t, _, rfl, h, fun _ => go t G (.inl ⟨rfl, rfl, rfl⟩), fun z => absurd ⟨rfl, rfl⟩ z⟩
theorem rep_two {K : PySem.W.Frag} {G : Hp} {t : Addr} {x : V} {T : VK} (h : SqT K G t [x]) (kk : Bool)
    (go : ∀ ot G', (ot = t ∧ G' = G) ∨ (G ot = none ∧ G' = upd G ot (.tup [])) → T (.ref ot) G') : TM.rRep01 K (.ref t) (.int (if kk then 1 else 0)) G T := by
  cases kk with
  | false => exact ⟨t, _, _, rfl, rfl, h, by simp, .inr ⟨rfl, fun q nq => go q _ (.inr ⟨nq, rfl⟩)⟩⟩
  | true => exact ⟨t, _, _, rfl, rfl, h, by simp, .inl ⟨rfl, go t G (.inl ⟨rfl, rfl⟩)⟩⟩
theorem cat_two {K : PySem.W.Frag} {G : Hp} {a b : Addr} {xs ys : List V} {T : VK} (h1 : SqT K G a xs) (h2 : SqT K G b ys) (l1 : xs.length + ys.length ≤ 1000)
    (go : ∀ c G', SqT K G' c (xs ++ ys) → Same G G' → T (.ref c) G') : rCatA K (.ref a) (.ref b) G T := by
  refine ⟨a, b, xs, ys, rfl, rfl, h1, h2, Nat.le_of_lt (LC.small_line (by omega)), fun e => ?_, fun _ e => ?_, fun _ _ q nq => go q _ (SqT.of upd_same) (same_new nq)⟩
  · rw [e] at go
    exact go b G h2 (Same.refl G)
  · rw [e, List.append_nil] at go
    exact go a G h1 (Same.refl G)
section
variable {P : Program} {w : World} {K : PySem.W.Frag} {mg : Str → Option Value} {base : Heap}
def spProg (K : PySem.W.Frag) : Sp := fun vs H Q _ => ∃ (p : Addr) (m : Int), vs = [.ref p, .int m, .bl true] ∧ Pool H p ∧ 1 ≤ m ∧ m ≤ 3 ∧
  ∀ (H' : Hp) (u : V) (pr : Prog), Pool H' p → Same (off p H) (off p H') → Dp K (off p H') u (progD pr) → ProgOk pr → pr.2.length ≤ m → Q u H'
set_option maxHeartbeats 8000000 in
theorem ok_prog {f : Addr} {fd : FuncData} {k : Nat} (F : Fun K "_law_program" "_law_program" s_law_program f fd) (T : Def P w K mg base CX0 (k + 1) "_law_take" ["_law_pool_here", "_law_total"] spTake) (R : Def P w K mg base CX0 (k + 1) "_law_texts" ["_law_pool_here", "_law_boxes", "_law_others", "_law_deep"] (spTexts K))
    (mi : mg "int" = none) (mt : mg "tuple" = none) (mli : mg "list" = none) :
    FnOk P w K mg base CX0 (k + 1 + 1) f fd ["_law_pool_here", "_law_most", "_law_deep"] (spProg K) := by
  refine F.ok scProg (fun vs H Q E h => ?_) (fun cdv A outer s H vs Q E hr h => ?_)
  · obtain ⟨p, m, rfl, _⟩ := h
    rfl
  obtain ⟨p, m, rfl, pl, m1, m3, q⟩ := h
  have nd := scProg.nd
  refine ⟨_, pss_cons (ps_set (i := 3) nd rfl (.inl rfl) (pe_slice sl_tupA (pe_tup (pa_cons (pe_tup (pa_cons pe_str (pa_cons pe_int pa_nil))) (pa_cons (pe_tup (pa_cons pe_str (pa_cons (pe_op op_add pe_int (pe_call T.ok hr (by rfl) T.g T.kp T.b .nil pass0 (pa_cons (pv 0) (pa_cons pe_int pa_nil)))) pa_nil))) pa_nil))) po_none (po_some (pe_op op_add pe_int (pe_call T.ok hr (by rfl) T.g T.kp T.b .nil pass0 (pa_cons (pv 0) (pa_cons pe_int pa_nil)))))))
    (pss_cons (ps_set (i := 4) nd rfl (.inl rfl) (pe_slice sl_list (pe_lst (pa_cons pe_str (pa_cons pe_str (pa_cons pe_str pa_nil)))) po_none (po_some (pe_op op_add pe_int (pe_call T.ok hr (by rfl) T.g T.kp T.b .nil pass0 (pa_cons (pv 0) (pa_cons (pv 1) pa_nil)))))))
    (pss_cons (ps_set (i := 5) nd rfl (.inl rfl) (pe_lst pa_nil))
    (pss_cons (ps_for PassesOwn.never rfl (pi_list (pv 4)) (pg_name (i := 6) nd rfl (.inr rfl))
      (pss_cons (ps_set (i := 7) nd rfl (.inl rfl) (pe_op TM.op_rep01 (pe_tup (pa_cons (pe_tup (pa_cons pe_str (pa_cons pe_int pa_nil))) pa_nil)) (pe_callTy call_int1 (by rfl) mi (by decide +kernel) (pa_cons (pe_cmpR op_eq (pe_call T.ok hr (by rfl) T.g T.kp T.b .nil pass0 (pa_cons (pv 0) (pa_cons pe_int pa_nil))) pe_int (nomark _)) pa_nil))))
      (pss_cons (ps_setLc (i := 8) (own := [("_law_item_b", 9)]) (g := gName 9) (by rfl) nd rfl rfl (sw_true rfl rfl rfl (by decide +kernel)) (pi_list (pv 4))
          (blkOk_by (N := nProg) (sc := defScope s_law_program) (by decide +kernel)) (fun _ _ _ _ _ => pg_name (i := 9) nd rfl (.inl rfl))
          (fun _ _ _ _ _ => pts_one (pt_cmpR op_ne (pv 9) (pv 6) (nomark _))) (fun _ _ _ _ _ => pv 9))
      (pss_one (ps_expr (pe_bm PySem.F.plainAttrs_list PySem.F.slot_list_append PySem.F.type_list_append mt_append (pv 5) (pa_cons (pe_tup (pa_cons (pv 6) (pa_cons (pv 7)
        (pa_cons (pe_call R.ok hr (by rfl) R.g R.kp R.b .nil pass0 (pa_cons (pv 0) (pa_cons (pe_callTy call_list_of (by rfl) mli (by decide +kernel) (pa_cons (pe_op op_catA (pv 3) (pv 7)) pa_nil)) (pa_cons (pv 8) (pa_cons (pv 2) pa_nil))))) pa_nil)))) pa_nil)))))))
    (pss_one (ps_ret (pe_tup (pa_cons (pv 3) (pa_cons (pe_callTy call_tuple_of (by rfl) mt (by decide +kernel) (pa_cons (pv 5) pa_nil)) pa_nil)))))))), ?_⟩
  refine ⟨lz2, fun t1 n1 => ?_⟩
  obtain ⟨a1, a2, a3⟩ := new_tup (K := K) (vs := [.str "s", .int 2]) (ds := [.str "s", .int 2]) (H := H) pl n1 (Same.refl _) (.cons (.str _) (.cons (.int _) .nil))
  generalize upd H t1 (.tup [.str "s", .int 2]) = H1 at a1 a2 a3 ⊢
  refine ⟨_, rfl, p, 2, rfl, a1, by decide, by decide, fun H2 r1 pl2 o2 r10 r11 => ⟨2, r1, rfl, rfl, lz2, fun t2 n2 => ?_⟩⟩
  rw [← o2] at a2 a3
  obtain ⟨b1, b2, b3⟩ := new_tup (K := K) (vs := [.str "t", .int (2 + r1)]) (ds := [.str "t", .int (2 + r1)]) (H := H2) pl2 n2 (Same.refl _) (.cons (.str _) (.cons (.int _) .nil))
  have a4 := dp_same b2 _ _ a3
  have a5 := a2.trans b2
  refine ⟨lz2, fun t3 n3 => ?_⟩
  obtain ⟨c1, c2, c3⟩ := new_tup (K := K) (vs := [.ref t1, .ref t2]) (ds := [boxD ("s", 2), boxD ("t", 2 + r1)]) (H := H) b1 n3 a5 (.cons a4 (.cons b3 .nil))
  have a6 := dp_same (off_mono (p := p) (same_new (o := .tup [.ref t1, .ref t2]) n3)) _ _ a4
  have c4 : SqT K (off p (upd (upd H2 t2 (.tup [.str "t", .int (2 + r1)])) t3 (.tup [.ref t1, .ref t2]))) t3 [.ref t1, .ref t2] := SqT.of (by rw [off_ne (pool_ne b1 n3)]; exact upd_same)
  refine ⟨_, rfl, p, 2, rfl, c1, by decide, by decide, fun H3 r2 pl3 o3 r20 r21 => ⟨1, r2, rfl, rfl, _, rfl, ?_⟩⟩
  rw [← o3] at c2 c3 c4 a6
  clear a1 a2 a3 a4 a5 b1 b2 b3 c1
  refine sl_two (same_tup off_sub c4) r20 r21 fun bt G hG => ?_
  obtain ⟨bs, plG, sHG, hbt, hbs⟩ : ∃ bs : List Box, Pool G p ∧ Same (off p H) (off p G) ∧ Dp K (off p G) (.ref bt) (boxesD bs) ∧ (bs = ([("s", 2)] : List Box) ∨ bs = ([("s", 2), ("t", 2 + r1)] : List Box)) := by
    rcases hG with ⟨rfl, rfl, _⟩ | ⟨_, nb, rfl⟩
    · exact ⟨([("s", 2), ("t", 2 + r1)] : List Box), pl3, c2, c3, .inr rfl⟩
    · obtain ⟨d1, d2, d3⟩ := new_tup (K := K) (vs := [.ref t1]) (ds := [boxD ("s", 2)]) (H := H) pl3 nb c2 (.cons a6 .nil)
      exact ⟨([("s", 2)] : List Box), d1, d2, d3, .inl rfl⟩
  clear hG c2 c3 c4 a6 pl3 o3
  -- the names
  refine ⟨by show 3 ≤ sizeLine; decide, fun x0 n0 => ?_⟩
  have s0 : Same G (upd G x0 (.lst [.str "ha", .str "hb", .str "hc"])) := same_new n0
  have x0p := pool_ne plG n0
  refine ⟨_, rfl, _, rfl, p, m, rfl, pool_same plG s0, by omega, by omega, fun G1 r3 pl4 o4 r30 r31 => ⟨1, r3, rfl, rfl, _, rfl, x0, _, rfl, SqL.of (off_sub _ _ (by rw [o4, off_ne x0p]; exact upd_same)), fun na nna => ?_⟩⟩
  obtain ⟨nms, hnn, hcut, hln⟩ : ∃ nms : List Str, (nms = ([("ha" : Str)] : List Str) ∨ nms = ([("ha" : Str), ("hb" : Str)] : List Str) ∨ nms = ([("ha" : Str), ("hb" : Str), ("hc" : Str)] : List Str)) ∧ cutV [.str "ha", .str "hb", .str "hc"] none (some (1 + r3)) = nms.map V.str ∧ (nms.length : Int) = 1 + r3 := by
    have : r3 = 0 ∨ r3 = 1 ∨ r3 = 2 := by omega
    rcases this with rfl | rfl | rfl
    · exact ⟨_, .inl rfl, rfl, rfl⟩
    · exact ⟨_, .inr (.inl rfl), rfl, rfl⟩
    · exact ⟨_, .inr (.inr rfl), rfl, rfl⟩
  rw [hcut]
  have sG1 : Same (off p G) (off p G1) := by
    rw [o4]
    exact off_mono s0
  have nap := pool_ne pl4 nna
  refine ⟨Nat.zero_le _, fun fa nfa => ?_⟩
  have s2 : Same G1 (upd G1 na (.lst (nms.map V.str))) := same_new nna
  have pl5 := pool_same pl4 s2
  have fap := pool_ne pl5 nfa
  have s3 : Same (upd G1 na (.lst (nms.map V.str))) (upd (upd G1 na (.lst (nms.map V.str))) fa (.lst [])) := same_new nfa
  have pl6 := pool_same pl5 s3
  have sG3 := sG1.trans (off_mono (p := p) (s2.trans s3))
  have sH3 := sHG.trans sG3
  have nfH : off p H fa = none := same_none (sHG.trans sG1) (same_none (off_mono s2) (off_none nfa))
  have hna3 : off p (upd (upd G1 na (.lst (nms.map V.str))) fa (.lst [])) na = some (.lst (nms.map V.str)) := by
    rw [off_ne nap]
    exact s3 _ _ upd_same
  have hfa3 : off p (upd (upd G1 na (.lst (nms.map V.str))) fa (.lst [])) fa = some (.lst []) := by
    rw [off_ne fap]
    exact upd_same
  have fna : fa ≠ na := fun z => by
    rw [z, upd_same] at nfa
    cases nfa
  have hbt3 := dp_same sG3 _ _ hbt
  generalize upd (upd G1 na (.lst (nms.map V.str))) fa (.lst []) = G3 at pl6 sH3 hna3 hfa3 hbt3 ⊢
  clear s2 s3 nna nfa pl5 sG3
  have nl3 : nms.length ≤ 3 := by omega
  have wn : Words nms := ⟨by omega, fun z hz => by
    rcases hnn with rfl | rfl | rfl <;> simp at hz <;> rcases hz with rfl | rfl | rfl <;> decide +kernel⟩
  have hnd : nms.Nodup := by rcases hnn with rfl | rfl | rfl <;> decide +kernel
  have bnd : BoxesOk bs 8 4 [] ∧ 1 ≤ bs.length ∧ bs.length ≤ 2 := by
    rcases hbs with rfl | rfl
    · refine ⟨⟨by show 1 ≤ 8; decide, fun b hb => ?_, by decide +kernel⟩, by show 1 ≤ 1; decide, by show 1 ≤ 2; decide⟩
      rw [List.mem_singleton.mp hb]
      exact ⟨by decide +kernel, by decide, by decide, fun z => nomatch z⟩
    · refine ⟨⟨by show 2 ≤ 8; decide, fun b hb => ?_, by show ([("s" : Str), ("t" : Str)] : List Str).Nodup; decide +kernel⟩, by show 1 ≤ 2; decide, by show 2 ≤ 2; decide⟩
      rcases List.mem_cons.mp hb with rfl | hb
      · exact ⟨by decide +kernel, by decide, by decide, fun z => nomatch z⟩
      · rw [List.mem_singleton.mp hb]
        exact ⟨by show nameB "t" = true; decide +kernel, by show 1 ≤ 2 + r1; omega, by show 2 + r1 ≤ 4; omega, fun z => nomatch z⟩
  have own0 : ∀ ob : List Box, ob = [] ∨ ob = ([("x", 2)] : List Box) → BoxesOk ob 24 8 (bs.map (·.1)) ∧ Draw (bs ++ ob) ∧ ob.length ≤ 1 := by
    intro ob ho
    have mem : ∀ b ∈ bs, (b.1 = ("s" : Str) ∨ b.1 = ("t" : Str)) ∧ 1 ≤ b.2 ∧ b.2 ≤ 3 := fun b hb => by
      rcases hbs with rfl | rfl
      · rw [List.mem_singleton.mp hb]
        exact ⟨.inl rfl, by decide, by decide⟩
      · rcases List.mem_cons.mp hb with rfl | hb
        · exact ⟨.inl rfl, by decide, by decide⟩
        · rw [List.mem_singleton.mp hb]
          exact ⟨.inr rfl, by show 1 ≤ 2 + r1; omega, by show 2 + r1 ≤ 3; omega⟩
    have lay : ∀ b ∈ bs, PyData.strOk b.1 = true := fun b hb => by
      rcases (mem b hb).1 with e | e <;> rw [e] <;> decide +kernel
    have nx : ("x" : Str) ∉ bs.map (·.1) := fun z => by
      obtain ⟨b, hb, e⟩ := List.mem_map.mp z
      rcases (mem b hb).1 with e2 | e2 <;> rw [e2] at e <;> exact absurd e (by decide +kernel)
    have nm := bnd.1.nd
    obtain ⟨_, l1, l2⟩ := bnd
    rcases ho with rfl | rfl
    · refine ⟨⟨Nat.zero_le _, fun _ z => (nomatch z), List.nodup_nil⟩, ?_, Nat.zero_le _⟩
      rw [List.append_nil]
      exact ⟨l1, by omega, nm, fun b hb => ⟨(mem b hb).2.1, by have := (mem b hb).2.2; omega⟩, lay⟩
    · refine ⟨⟨by show 1 ≤ 24; decide, fun b hb => ?_, ?_⟩, ⟨?_, ?_, ?_, fun b hb => ?_, fun b hb => ?_⟩, by show 1 ≤ 1; decide⟩
      · rw [List.mem_singleton.mp hb]
        exact ⟨by show nameB "x" = true; decide +kernel, by decide, by decide, nx⟩
      · show ([("x" : Str)] : List Str).Nodup
        decide +kernel
      · rw [List.length_append]
        omega
      · rw [List.length_append]
        show bs.length + 1 ≤ 100
        omega
      · rw [List.map_append, List.nodup_append]
        refine ⟨nm, by show ([("x" : Str)] : List Str).Nodup; decide +kernel, fun a ha b hb e => ?_⟩
        have hb2 : b = ("x" : Str) := List.mem_singleton.mp hb
        rw [e, hb2] at ha
        exact nx ha
      · rcases List.mem_append.mp hb with hb | hb
        · exact ⟨(mem b hb).2.1, by have := (mem b hb).2.2; omega⟩
        · rw [List.mem_singleton.mp hb]
          exact ⟨by decide, by decide⟩
      · rcases List.mem_append.mp hb with hb | hb
        · exact lay b hb
        · rw [List.mem_singleton.mp hb]
          show PyData.strOk "x" = true
          decide +kernel
  refine ⟨_, rfl, na, rfl, ⟨_, SqL.of (off_sub _ _ hna3)⟩, for_it (walk_list (a := na) (xs := nms.map V.str) (K := K)) (fun i σ G => ∃ v6 v7 v8 v9, σ = [some (.ref p), some (.int m), some (.bl true), some (.ref bt), some (.ref na), some (.ref fa), v6, v7, v8, v9] ∧ Pool G p ∧ Same (off p H) (off p G) ∧ off p G na = some (.lst (nms.map V.str)) ∧ Dp K (off p G) (.ref bt) (boxesD bs) ∧
      ∃ (acc : List V) (hl : List Hand), off p G fa = some (.lst acc) ∧ DpAll K (off fa (off p G)) acc (hl.map handD) ∧ hl.map (·.1) = nms.take i ∧ ∀ h ∈ hl, (h.2.1 = [] ∨ h.2.1 = ([("x", 2)] : List Box)) ∧ TextsOk (bs ++ h.2.1) (nms.filter fun z => decide (z ≠ h.1)) h.2.2)
    ⟨none, none, none, none, rfl, pl6, sH3, hna3, hbt3, [], [], hfa3, .nil, rfl, fun _ z => nomatch z⟩ (fun i σ G _ h => ?_) (fun i y σ G G' hi h hy => ?_) (fun σ G h => ?_)⟩
  · obtain ⟨_, _, _, _, _, _, _, ht, _⟩ := h
    exact SqL.of (off_sub _ _ ht)
  · obtain ⟨v6, v7, v8, v9, rfl, plG, sG, htG, hbG, acc, hl, hfG, hacc, hnm, hhl⟩ := h
    obtain ⟨rfl, ey⟩ := hy
    rw [List.length_map] at hi
    have ei : (nms.map V.str)[i]? = some (.str nms[i]) := by rw [List.getElem?_map, List.getElem?_eq_getElem hi]; rfl
    rw [ei] at ey
    cases ey
    refine ⟨lz2, fun t1 n1 => ⟨lz1, fun t2 n2 => ?_⟩⟩
    obtain ⟨a1, a2, a3⟩ := new_tup (K := K) (vs := [.str "x", .int 2]) (ds := [.str "x", .int 2]) (H := G') plG n1 (Same.refl _) (.cons (.str _) (.cons (.int _) .nil))
    obtain ⟨b1, b2, b3⟩ := new_tup (K := K) (vs := [.ref t1]) (ds := [boxD ("x", 2)]) (H := G') a1 n2 a2 (.cons a3 .nil)
    have b4 : SqT K (off p (upd (upd G' t1 (.tup [.str "x", .int 2])) t2 (.tup [.ref t1]))) t2 [.ref t1] := SqT.of (by rw [off_ne (pool_ne a1 n2)]; exact upd_same)
    refine ⟨_, rfl, p, 3, rfl, b1, by decide, by decide, fun G1 r pl7 o7 r0 r1' => ⟨rfl, .inr ⟨_, rfl, rep_two (same_tup off_sub (o7 ▸ b4)) _ fun ot G2 hG2 => ?_⟩⟩⟩
    rw [← o7] at b2 b3 b4
    obtain ⟨ob, pl8, sG2, hot, hob⟩ : ∃ ob : List Box, Pool G2 p ∧ Same (off p G') (off p G2) ∧ Dp K (off p G2) (.ref ot) (boxesD ob) ∧ (ob = [] ∨ ob = ([("x", 2)] : List Box)) := by
      rcases hG2 with ⟨rfl, rfl⟩ | ⟨nb, rfl⟩
      · exact ⟨([("x", 2)] : List Box), pl7, b2, b3, .inr rfl⟩
      · obtain ⟨d1, d2, d3⟩ := new_tup (K := K) (vs := []) (ds := []) (H := G') pl7 nb b2 .nil
        exact ⟨[], d1, d2, d3, .inl rfl⟩
    clear hG2 a1 a2 a3 b1 b2 b3 b4 pl7 o7 n1 n2
    obtain ⟨_, drw, obl⟩ := own0 ob hob
    have ht2 := sG2 _ _ htG
    -- others
    refine ⟨_, rfl, na, rfl, ⟨_, SqL.of (off_sub _ _ ht2)⟩, fun D nD => ?_⟩
    refine LC.lc_sift (walk_list (a := na) (xs := nms.map V.str) (K := K)) (fun H' s' => s'.seq (SqL.of (off_sub _ _ ht2))) (by rw [List.length_map]; omega) nD (fun v => !decide (v = V.str nms[i])) (fun x H7 R mx s8 fin => ⟨rfl, ?_⟩) (fun H7 s8 hD => ?_)
    · obtain ⟨z, _, rfl⟩ := List.mem_map.mp mx
      refine ⟨_, rfl, _, rfl, rfl, _, rfl, ?_⟩
      exact fin [some (.ref p), some (.int m), some (.bl true), some (.ref bt), some (.ref na), some (.ref fa), some (.str nms[i]), some (.ref ot), v8, some (.str z)] H7 (Same.refl H7) fun Q' h => ⟨_, rfl, h⟩
    have eD : D ≠ p := pool_ne pl8 nD
    have pl9 := pool_same pl8 s8
    have s78 : Same (off p G2) (off p H7) := off_mono s8
    have hfilt : (nms.map V.str).filter (fun v => !decide (v = V.str nms[i])) = (nms.filter fun z => decide (z ≠ nms[i])).map V.str := by
      rw [List.filter_map]
      congr 1
      refine List.filter_congr fun z _ => ?_
      simp [Function.comp]
    have hD7 : off p H7 D = some (.lst ((nms.filter fun z => decide (z ≠ nms[i])).map V.str)) := by
      rw [off_ne eD, ← hfilt]
      exact hD
    have sG7 := sG2.trans s78
    have hf7 := sG7 _ _ hfG
    have ht7 := sG7 _ _ htG
    have hb7 := dp_same sG7 _ _ hbG
    have ho7 := dp_same s78 _ _ hot
    have ha7 := dpAll_same (off_mono (p := fa) sG7) _ _ hacc
    have sH7 := sG.trans sG7
    have wf : Words (nms.filter fun z => decide (z ≠ nms[i])) := ⟨Nat.le_trans (List.length_filter_le _ _) (by omega), fun z hz => wn.lay z (List.mem_filter.mp hz).1⟩
    obtain ⟨ab, xs, eab, hxs, hxa⟩ := dp_tup hb7
    cases eab
    obtain ⟨ao, ys, eao, hys, hya⟩ := dp_tup ho7
    cases eao
    have xl : xs.length = bs.length := by rw [dpAll_len hxa, List.length_map]
    have yl : ys.length = ob.length := by rw [dpAll_len hya, List.length_map]
    refine ⟨_, rfl, .inl ⟨rfl, _, SqL.of (off_sub _ _ hf7)⟩, _, rfl, _, rfl, _, rfl, _, rfl, _, rfl, cat_two (same_tup off_sub hxs) (same_tup off_sub hys) (by have := bnd.2.2; omega) fun c G4 hc s4 => ⟨c, _, rfl, .inr hc, fun l nl => ?_⟩⟩
    have pl10 := pool_same pl9 s4
    have lp := pool_ne pl10 nl
    have s5 : Same G4 (upd G4 l (.lst (xs ++ ys))) := same_new nl
    have s75 : Same (off p H7) (off p (upd G4 l (.lst (xs ++ ys)))) := off_mono (s4.trans s5)
    have hl5 : off p (upd G4 l (.lst (xs ++ ys))) l = some (.lst (xs ++ ys)) := by
      rw [off_ne lp]
      exact upd_same
    have pl11 := pool_same pl10 s5
    generalize upd G4 l (.lst (xs ++ ys)) = G5 at s75 hl5 pl11 ⊢
    refine ⟨_, rfl, _, rfl, p, l, D, xs ++ ys, bs ++ ob, _, rfl, pl11, SqL.of hl5, ?_, drw, SqL.of (s75 _ _ hD7), wf, fun G6 u ts pl12 s6 hu hts => ⟨lz3, fun t nt => ?_⟩⟩
    · rw [List.map_append]
      exact dpAll_app (dpAll_same s75 _ _ hxa) (dpAll_same s75 _ _ hya)
    have s76 := s75.trans s6
    obtain ⟨e1, e2, e3⟩ := new_tup (ds := [.str nms[i], boxesD ob, .tuple (ts.map textD)]) (H := H7) pl12 nt s76 (.cons (.str _) (.cons (dp_same s76 _ _ ho7) (.cons hu .nil)))
    generalize upd G6 t (.tup [.str nms[i], .ref ot, u]) = G8 at e1 e2 e3 ⊢
    have hf8 := e2 _ _ hf7
    have e4 := dp_hide hf8 _ _ (to_hand (nms[i], ob, ts)) e3
    have ha8 := dpAll_same (off_mono (p := fa) e2) _ _ ha7
    have al : acc.length ≤ 3 := by
      have z1 := dpAll_len hacc
      have z2 := congrArg List.length hnm
      rw [List.length_map] at z1 z2
      rw [List.length_take] at z2
      omega
    refine ⟨fa, acc, _, rfl, rfl, (off_at hf8).1, LC.small_line (by omega), _, _, _, _, rfl, pool_put e1 fap, ?_, ?_, ?_, acc ++ [.ref t], hl ++ [(nms[i], ob, ts)], ?_, ?_, ?_, ?_⟩
    · rw [off_put fap]
      exact same_put (sH7.trans e2) nfH
    · rw [off_put fap, upd_ne fna.symm]
      exact e2 _ _ ht7
    · rw [off_put fap]
      exact dp_same (fun b o h => by
        obtain ⟨h1, h2⟩ := off_at h
        rw [upd_ne h2]
        exact h1) _ _ (dp_hide hf8 _ _ (to_map fun b _ => to_box b) (dp_same e2 _ _ hb7))
    · rw [off_put fap]
      exact upd_same
    · rw [off_put fap, off_upd, List.map_append]
      exact dpAll_app ha8 (.cons e4 .nil)
    · rw [List.map_append, hnm, List.take_succ, List.getElem?_eq_getElem hi]
      rfl
    · intro h' hh'
      rcases List.mem_append.mp hh' with z | z
      · exact hhl h' z
      · rw [List.mem_singleton.mp z]
        exact ⟨hob, hts⟩
  · obtain ⟨v6, v7, v8, v9, rfl, plG, sG, htG, hbG, acc, hl, hfG, hacc, hnm, hhl⟩ := h
    rw [List.length_map, List.take_length] at hnm
    refine ⟨_, rfl, _, rfl, fa, _, rfl, .inl ⟨SqL.of (off_sub _ _ hfG), fun t nt => ⟨lz2, fun t2 nt2 => ?_⟩⟩⟩
    obtain ⟨a1, a2, a3⟩ := new_tup (H := G) plG nt (Same.refl _) (dpAll_same off_sub _ _ hacc)
    have hb2 := dp_same a2 _ _ hbG
    obtain ⟨b1, b2, b3⟩ := new_tup (ds := [boxesD bs, .tuple (hl.map handD)]) (H := H) a1 nt2 (sG.trans a2) (.cons hb2 (.cons a3 .nil))
    have hlen : hl.length = nms.length := by rw [← hnm, List.length_map]
    refine q _ _ (bs, hl) b1 b2 b3 ⟨bnd.1, ?_, ?_, fun h hh => ?_, ?_, fun h hh => (own0 _ (hhl h hh).1).1, fun h hh => ?_⟩ ?_
    · show 1 ≤ hl.length
      omega
    · show hl.length ≤ 4
      omega
    · have mt2 : h.1 ∈ nms := by
        rw [← hnm]
        exact List.mem_map_of_mem hh
      generalize h.1 = z at mt2
      rcases hnn with rfl | rfl | rfl <;> simp at mt2 <;> rcases mt2 with rfl | rfl | rfl <;> decide +kernel
    · show (hl.map (·.1)).Nodup
      rw [hnm]
      exact hnd
    · show TextsOk (bs ++ h.2.1) ((hl.map (·.1)).filter fun z => decide (z ≠ h.1)) h.2.2
      rw [hnm]
      exact (hhl h hh).2
    · show (hl.length : Int) ≤ m
      omega
end
end PP

set_option maxHeartbeats 4000000
namespace PP
open PySem PySem.Spec PyProof.Rows L2 G3 G4 M0 PA
theorem scWhole : FnScope ["thing"] ["thing"] (defScope s_is_whole) := ⟨rfl, rfl, rfl, by decide +kernel, rfl, by decide +kernel, by decide +kernel⟩
theorem scTuple : FnScope ["thing", "fewest", "most"] ["thing", "fewest", "most"] (defScope s_is_tuple) := ⟨rfl, rfl, rfl, by decide +kernel, rfl, by decide +kernel, by decide +kernel⟩
theorem scNought : FnScope ["thing"] ["thing"] (defScope s_is_from_nought) := ⟨rfl, rfl, rfl, by decide +kernel, rfl, by decide +kernel, by decide +kernel⟩
/-- what may be asked about -/
structure Fit (d : PyData) : Prop where
  lay : d.canLay0 = true
  dep : d.depth ≤ 20
  blk : d.bulk ≤ 100000
def mWhole : PyData → Bool
  | .int _ => true
  | _ => false
def mNought : PyData → Bool
  | .int i => decide (0 ≤ i)
  | _ => false
/-- is_tuple(d, n, n) -/
def aTup (n : Nat) : PyData → Bool
  | .tuple ds => decide (ds.length = n)
  | _ => false
section
variable {P : Program} {w : World} {K : PySem.W.Frag} {mg : Str → Option Value} {base : Heap}
/-- asked of anything, a truth is told and nothing is changed -/
def spAsk (K : PySem.W.Frag) (m : PyData → Bool) : Sp := fun vs H Q _ => ∃ (x : V) (d : PyData), vs = [x] ∧ Dp K H x d ∧ Fit d ∧ ∀ H', Same H H' → Q (.bl (m d)) H'
def spTuple (K : PySem.W.Frag) : Sp := fun vs H Q _ => ∃ (x : V) (d : PyData) (n : Nat), vs = [x, .int n, .int n] ∧ Dp K H x d ∧ Fit d ∧ Q (.bl (aTup n d)) H
theorem ask_len {m : PyData → Bool} : ∀ vs H Q E, spAsk K m vs H Q E → vs.length = 1 := fun vs H Q E h => by
  obtain ⟨x, d, rfl, _⟩ := h
  rfl
theorem ok_whole {f : Addr} {fd : FuncData} {k : Nat} (F : Fun K "is_whole" "is_whole" s_is_whole f fd) (mi : mg "isinstance" = none) (mn : mg "int" = none) (mb : mg "bool" = none) : FnOk P w K mg base CX0 (k + 1) f fd ["thing"] (spAsk K mWhole) := by
  refine F.ok scWhole ask_len (fun cdv A outer s H vs Q E hr h => ?_)
  obtain ⟨x, d, rfl, hd, ft, q⟩ := h
  have nd := scWhole.nd
  refine ⟨_, pss_one (ps_ret (pe_and (pe_callB call_isi (by rfl) mi PyProof.Rows.boot_isinstance (pa_cons (pv 0) (pa_cons (pe_bltn (by rfl) mn (u := .type "int") (by decide +kernel) (show RelV (.ty "int") (.type "int") from rfl)) pa_nil)))
    (pe_one (pe_not (pe_callB call_isi (by rfl) mi PyProof.Rows.boot_isinstance (pa_cons (pv 0) (pa_cons (pe_bltn (by rfl) mb (u := .type "bool") (by decide +kernel) (show RelV (.ty "bool") (.type "bool") from rfl)) pa_nil))))))), ?_⟩
  refine ⟨_, rfl, _, _, _, _, _, rfl, .ty "int", dp_ty hd, kit_int K hd, _, rfl, ite2 (fun e => ?_) (fun e => ?_)⟩
  · refine ⟨_, rfl, _, _, _, _, _, rfl, .ty "bool", dp_ty hd, kit_bool K hd, _, rfl, ?_⟩
    have z := q H (Same.refl H)
    cases hd with
    | bl b => exact z
    | int i => exact z
    | _ => exact Bool.noConfusion (show false = true from e)
  · have z := q H (Same.refl H)
    cases hd with
    | bl b => exact absurd rfl e
    | int i => exact absurd rfl e
    | _ => exact z
theorem ok_tuple {f : Addr} {fd : FuncData} {k : Nat} (F : Fun K "is_tuple" "is_tuple" s_is_tuple f fd) (mi : mg "isinstance" = none) (mt : mg "tuple" = none) (ml : mg "len" = none) : FnOk P w K mg base CX0 (k + 1) f fd ["thing", "fewest", "most"] (spTuple K) := by
  refine F.ok scTuple (fun vs H Q E h => ?_) (fun cdv A outer s H vs Q E hr h => ?_)
  · obtain ⟨x, d, n, rfl, _⟩ := h
    rfl
  obtain ⟨x, d, n, rfl, hd, ft, q⟩ := h
  have nd := scTuple.nd
  refine ⟨_, pss_one (ps_ret (pe_and (pe_callB call_isi (by rfl) mi PyProof.Rows.boot_isinstance (pa_cons (pv 0) (pa_cons (pe_bltn (by rfl) mt (u := .type "tuple") (by decide +kernel) (show RelV (.ty "tuple") (.type "tuple") from rfl)) pa_nil)))
    (pe_one (pe_chain op_le op_le (pv 1) (pe_callB call_len_seq (by rfl) ml PySem.boot_len (pa_cons (pv 0) pa_nil)) (pv 2))))), ?_⟩
  refine ⟨_, rfl, _, _, _, _, _, rfl, .ty "tuple", dp_ty hd, kit_tup K hd, _, rfl, ite2 (fun e => ?_) (fun e => ?_)⟩
  · cases hd with
    | @tup a xs ds hs ha =>
      have hl := dpAll_len ha
      refine ⟨_, rfl, _, rfl, a, _, rfl, .inr hs, _, _, rfl, rfl, _, rfl, ite2 (fun e1 => ?_) (fun e1 => ?_)⟩
      · refine ⟨_, rfl, _, _, rfl, rfl, ?_⟩
        have e2 : decide ((xs.length : Int) ≤ (n : Int)) = decide (ds.length = n) := by
          have := of_decide_eq_true e1
          rw [decide_eq_decide]
          omega
        show Q (.bl (decide ((xs.length : Int) ≤ (n : Int)))) H
        rw [e2]
        exact q
      · have e2 : decide (ds.length = n) = false := by
          rw [decide_eq_false_iff_not]
          intro z
          exact e1 (decide_eq_true (by omega))
        have q2 : Q (.bl (decide (ds.length = n))) H := q
        rw [e2] at q2
        exact q2
    | _ => exact Bool.noConfusion (show false = true from e)
  · cases hd with
    | tup hs ha => exact absurd rfl e
    | _ => exact q
theorem ok_nought {f fW : Addr} {fd dW : FuncData} {k : Nat} (F : Fun K "is_from_nought" "is_from_nought" s_is_from_nought f fd) (G : FnOk P w K mg base CX0 (k + 1) fW dW ["thing"] (spAsk K mWhole)) (gW : mg "is_whole" = some (.ref fW)) (kW : PySem.W.keepIn K (.ref fW) = true) (bW : Binds K dW ["thing"] []) :
    FnOk P w K mg base CX0 (k + 1 + 1) f fd ["thing"] (spAsk K mNought) := by
  refine F.ok scNought ask_len (fun cdv A outer s H vs Q E hr h => ?_)
  obtain ⟨x, d, rfl, hd, ft, q⟩ := h
  have nd := scNought.nd
  refine ⟨_, pss_one (ps_ret (pe_and (pe_call G hr (by rfl) gW kW bW .nil pass0 (pa_cons (pv 0) pa_nil)) (pe_one (pe_cmpR op_ge (pv 0) pe_int (nomark _))))), ?_⟩
  refine ⟨_, rfl, x, d, rfl, hd, ft, fun H1 s1 => ⟨_, rfl, ite2 (fun e => ?_) (fun e => ?_)⟩⟩
  · have z := q H1 s1
    cases hd with
    | int i => exact ⟨_, rfl, i, 0, rfl, rfl, z⟩
    | _ => exact Bool.noConfusion (show false = true from e)
  · have z := q H1 s1
    cases hd with
    | int i => exact absurd rfl e
    | _ => exact z
end


theorem lay_in {d : PyData} : ∀ {ds : List PyData}, PyData.canLayAll0 ds = true → d ∈ ds → d.canLay0 = true
  | x :: ds, h, m => by
    simp only [PyData.canLayAll0, Bool.and_eq_true] at h
    rcases List.mem_cons.mp m with e | m
    · rw [e]; exact h.1
    · exact lay_in h.2 m
theorem depth_in {d : PyData} : ∀ {ds : List PyData}, d ∈ ds → d.depth ≤ PyData.depthAll ds
  | x :: ds, m => by
    simp only [PyData.depthAll]
    rcases List.mem_cons.mp m with e | m
    · rw [e]; exact Nat.le_max_left _ _
    · exact Nat.le_trans (depth_in m) (Nat.le_max_right _ _)
theorem Fit.mem {ds : List PyData} {d : PyData} (h : Fit (.tuple ds)) (m : d ∈ ds) : Fit d := by
  refine ⟨?_, ?_, ?_⟩
  · have h2 := h.lay
    simp only [PyData.canLay0] at h2
    exact lay_in h2 m
  · have h1 := h.dep
    simp only [PyData.depth] at h1
    have := depth_in m
    omega
  · have h1 := h.blk
    simp only [PyData.bulk] at h1
    have := bulk_mem m
    omega
theorem Fit.len {ds : List PyData} (h : Fit (.tuple ds)) : ds.length ≤ 100000 := by
  have h1 := h.blk
  simp only [PyData.bulk] at h1
  have := bulk_len ds
  omega
theorem small_line {n : Nat} (h : n ≤ 100000) : n < sizeLine := Nat.lt_of_le_of_lt h (by decide)
/-- [e(x) for x in t], e a truth of each -/
theorem lc_ask {K : PySem.W.Frag} {a : Addr} {xs : List V} {ds : List PyData} {m : PyData → Bool} {g : TG} {te : TE} {vs : List Nat} {σ : L2.St} {H1 : Hp} {D : Addr} {Qd : Hp → Prop}
    (hx : SqT K H1 a xs) (hd : DpAll K H1 xs ds) (len : ds.length ≤ 100000) (nD : H1 D = none)
    (turn : ∀ x d H (R : V → Hp → Prop), d ∈ ds → Dp K H x d → (∀ H', Same H H' → R (.bl (m d)) H') → g x (wipe σ vs) H fun σ2 H2 => wipe σ2 vs = wipe σ vs ∧ te σ2 H2 R)
    (fin : ∀ H', Same H1 H' → H' D = some (.lst ((ds.map m).map V.bl)) → Qd H') :
    ∃ W : Nat → Nat → Hp → Prop, (∃ m, W 0 m (upd H1 D (.lst []))) ∧ ∀ i m H, W i m H →
      ((Itt K a).stop i H ∧ Qd H) ∨ ((Itt K a).go i H ∧ ∃ Nx : Hp → Prop, (∀ H', Nx H' → ∃ m', m' < m ∧ W (i + 1) m' H') ∧ ∀ x H', (Itt K a).yld i H x H' → g x (wipe σ vs) H' fun σ2 H2 => wipe σ2 vs = wipe σ vs ∧ tYes σ2 H2 fun b H3 =>
        if b = true then te σ2 H3 fun y H4 => ∃ acc, H4 D = some (.lst acc) ∧ acc.length < sizeLine ∧ Nx (upd H4 D (.lst (acc ++ [y]))) else Nx H3) := by
  have hl := dpAll_len hd
  refine lc_tup (xs := xs) (fun i H => Same H1 H ∧ H D = some (.lst (((ds.take i).map m).map V.bl))) ⟨same_new nD, upd_same⟩ (fun i H _ h => same_tup h.1 hx) (fun i x H e h => ?_) (fun H h => fin H h.1 ?_)
  · obtain ⟨d, ed, hxd⟩ := dpAll_get hd e
    have hlt : i < ds.length := (List.getElem?_eq_some_iff.mp ed).1
    have t := turn x d H (fun y H4 => ∃ acc, H4 D = some (.lst acc) ∧ acc.length < sizeLine ∧ (Same H1 (upd H4 D (.lst (acc ++ [y]))) ∧ (upd H4 D (.lst (acc ++ [y]))) D = some (.lst (((ds.take (i + 1)).map m).map V.bl)))) (List.mem_of_getElem? ed) (dp_same h.1 _ _ hxd) (fun H' s => ?_)
    · dsimp only [tYes]
      simp only [if_true]
      exact t
    · refine ⟨_, s _ _ h.2, ?_, same_put (h.1.trans s) nD, ?_⟩
      · rw [List.length_map, List.length_map, List.length_take]
        exact small_line (by omega)
      · rw [upd_same, List.take_succ, ed]
        simp
  · have e : ds.take xs.length = ds := List.take_of_length_le (by omega)
    rw [e] at h
    exact h.2

end PP

set_option maxHeartbeats 4000000
namespace PP
open PySem PySem.Spec PyProof.Rows L2 G3 G4 M0 PA
theorem scNumber : FnScope ["thing"] ["thing"] (defScope s_is_number) := ⟨rfl, rfl, rfl, by decide +kernel, rfl, by decide +kernel, by decide +kernel⟩
abbrev nLimOf : List Str := ["program", "thing", "many", "number"]
theorem scLimOf : FnScope nLimOf ["program", "thing"] (defScope s_is_limit_of) := ⟨rfl, rfl, rfl, by decide +kernel, rfl, by decide +kernel, by decide +kernel⟩
theorem scLimit : FnScope ["program", "thing"] ["program", "thing"] (defScope s_is_limit) := ⟨rfl, rfl, rfl, by decide +kernel, rfl, by decide +kernel, by decide +kernel⟩
def mNumber : PyData → Bool
  | .none => true
  | d => mNought d
def mLimit (n : Nat) : PyData → Bool
  | .tuple [a, .tuple bs] => mNumber a && (decide (bs.length = n) && bs.all mNumber)
  | _ => false
section
variable {P : Program} {w : World} {K : PySem.W.Frag} {mg : Str → Option Value} {base : Heap}
theorem ok_number {f : Addr} {fd : FuncData} {k : Nat} (F : Fun K "is_number" "is_number" s_is_number f fd) (N : Def P w K mg base CX0 (k + 1) "is_from_nought" ["thing"] (spAsk K mNought)) : FnOk P w K mg base CX0 (k + 1 + 1) f fd ["thing"] (spAsk K mNumber) := by
  refine F.ok scNumber ask_len (fun cdv A outer s H vs Q E hr h => ?_)
  obtain ⟨x, d, rfl, hd, ft, q⟩ := h
  have nd := scNumber.nd
  refine ⟨_, pss_one (ps_ret (pe_or (pe_cmpR op_isN (pv 0) pe_non (nomark _)) (pe_one (pe_call N.ok hr (by rfl) N.g N.kp N.b .nil pass0 (pa_cons (pv 0) pa_nil))))), ?_⟩
  refine ⟨_, rfl, rfl, _, rfl, ite2 (fun e => ?_) (fun e => ?_)⟩
  · have z := q H (Same.refl H)
    have e2 : x = .non := of_decide_eq_true e
    subst e2
    cases hd
    exact z
  · refine ⟨_, rfl, x, d, rfl, hd, ft, fun H1 s1 => ?_⟩
    have z := q H1 s1
    have e2 : mNumber d = mNought d := by
      cases hd with
      | non => exact absurd rfl e
      | _ => rfl
    rw [e2] at z
    exact z
/-- is_limit_of and is_limit -/
def spLimit (K : PySem.W.Frag) : Sp := fun vs H Q _ => ∃ (v x : V) (p : Prog) (d : PyData), vs = [v, x] ∧ Dp K H v (progD p) ∧ ProgOk p ∧ Dp K H x d ∧ Fit d ∧ ∀ H', Same H H' → Q (.bl (mLimit p.2.length d)) H'
theorem ok_limit {f : Addr} {fd : FuncData} {k : Nat} (F : Fun K "is_limit" "is_limit" s_is_limit f fd) (L : Def P w K mg base CX0 (k + 1) "look_at_program" ["thing"] (spLook K)) (O : Def P w K mg base CX0 (k + 1) "is_limit_of" ["program", "thing"] (spLimit K)) : FnOk P w K mg base CX0 (k + 1 + 1) f fd ["program", "thing"] (spLimit K) := by
  refine F.ok scLimit (fun vs H Q E h => ?_) (fun cdv A outer s H vs Q E hr h => ?_)
  · obtain ⟨v, x, p, d, rfl, _⟩ := h
    rfl
  obtain ⟨v, x, p, d, rfl, hv, ok, hd, ft, q⟩ := h
  have nd := scLimit.nd
  refine ⟨_, pss_cons (ps_expr (pe_call L.ok hr (by rfl) L.g L.kp L.b .nil pass0 (pa_cons (pv 0) pa_nil))) (pss_one (ps_ret (pe_call O.ok hr (by rfl) O.g O.kp O.b .nil pass0 (pa_cons (pv 0) (pa_cons (pv 1) pa_nil))))), ?_⟩
  refine ⟨_, rfl, v, p, rfl, hv, ok, fun H1 s1 => ?_⟩
  exact ⟨_, rfl, _, rfl, v, x, p, d, rfl, dp_same s1 _ _ hv, ok, dp_same s1 _ _ hd, ft, fun H2 s2 => q H2 (s1.trans s2)⟩
end
end PP

set_option maxHeartbeats 4000000
namespace PP
open PySem PySem.Spec PyProof.Rows L2 G3 G4 M0 PA
theorem aTup_yes {K : PySem.W.Frag} {H : Hp} {n : Nat} {d : PyData} {v : V} (hd : Dp K H v d) (h : aTup n d = true) : ∃ a xs ds, v = .ref a ∧ d = .tuple ds ∧ SqT K H a xs ∧ DpAll K H xs ds ∧ ds.length = n := by
  cases hd with
  | tup hs ha => exact ⟨_, _, _, rfl, rfl, hs, ha, of_decide_eq_true h⟩
  | _ => exact Bool.noConfusion (show false = true from h)
theorem all_map {ds : List PyData} {m : PyData → Bool} : (ds.map m).all id = ds.all m := by
  rw [List.all_map]
  rfl
theorem two_of {ds : List PyData} (h : ds.length = 2) : ∃ a b, ds = [a, b] := by
  match ds, h with
  | [a, b], _ => exact ⟨a, b, rfl⟩
theorem lim_not2 {n : Nat} {d : PyData} (h : aTup 2 d = false) : mLimit n d = false := by
  unfold mLimit
  split
  · exact Bool.noConfusion (show true = false from h)
  · rfl
theorem lim_two (n : Nat) (a b : PyData) : mLimit n (.tuple [a, b]) = (mNumber a && (aTup n b && (match b with | .tuple bs => bs.all mNumber | _ => false))) := by
  cases b <;> simp [mLimit, aTup]
section
variable {P : Program} {w : World} {K : PySem.W.Frag} {mg : Str → Option Value} {base : Heap}
set_option maxHeartbeats 8000000 in
theorem ok_limit_of {f : Addr} {fd : FuncData} {k : Nat} (F : Fun K "is_limit_of" "is_limit_of" s_is_limit_of f fd) (T : Def P w K mg base CX0 (k + 1) "is_tuple" ["thing", "fewest", "most"] (spTuple K)) (N : Def P w K mg base CX0 (k + 1) "is_number" ["thing"] (spAsk K mNumber))
    (ml : mg "len" = none) (ma : mg "all" = none) : FnOk P w K mg base CX0 (k + 1 + 1) f fd ["program", "thing"] (spLimit K) := by
  refine F.ok scLimOf (fun vs H Q E h => ?_) (fun cdv A outer s H vs Q E hr h => ?_)
  · obtain ⟨v, x, p, d, rfl, _⟩ := h
    rfl
  obtain ⟨v, x, p, d, rfl, hv, ok, hd, ft, q⟩ := h
  have nd := scLimOf.nd
  refine ⟨_, pss_cons (ps_set (i := 2) nd rfl (.inl rfl) (pe_callB call_len_seq (by rfl) ml PySem.boot_len (pa_cons (pe_ix ix_tup (pv 0) pe_int (fun _ _ => rfl)) pa_nil)))
    (pss_cons (ps_if (PW.pt (pw_or (pt_not (pt_val (pe_call T.ok hr (by rfl) T.g T.kp T.b .nil pass0 (pa_cons (pv 1) (pa_cons pe_int (pa_cons pe_int pa_nil))))))
      (pw_or (pt_not (pt_val (pe_call N.ok hr (by rfl) N.g N.kp N.b .nil pass0 (pa_cons (pe_ix ix_tup (pv 1) pe_int (fun _ _ => rfl)) pa_nil))))
      (pw_or1 (pt_not (pt_val (pe_call T.ok hr (by rfl) T.g T.kp T.b .nil pass0 (pa_cons (pe_ix ix_tup (pv 1) pe_int (fun _ _ => rfl)) (pa_cons (pv 2) (pa_cons (pv 2) pa_nil)))))))))) (pss_one (ps_ret pe_bl)) pss_nil)
    (pss_one (ps_ret (pe_callB (cr_all rfl) (by rfl) ma PyProof.Rows.boot_all (pa_cons
      (pe_lc (own := [("number", 3)]) (g := gName 3) (tt := tYes) (by rfl) nd (pi_tup (pe_ix ix_tup (pv 1) pe_int (fun _ _ => rfl)))
        (blkOk_by (N := nLimOf) (sc := defScope s_is_limit_of) (by decide +kernel)) (fun _ _ _ _ _ => pg_name (i := 3) nd rfl (.inl rfl)) (fun _ _ _ _ _ => pts_nil)
        (fun _ _ _ _ _ => pe_call N.ok hr (by rfl) N.g N.kp N.b .nil pass0 (pa_cons (pv 3) pa_nil))) pa_nil))))), ?_⟩
  obtain ⟨pa, p1, p2, rfl, hpa, g1, g2⟩ := dp2 hv
  obtain ⟨ha, us, rfl, hhs, hha⟩ := dp_tup g2
  have hul : us.length = p.2.length := by rw [dpAll_len hha, List.length_map]
  refine ⟨_, rfl, pa, _, 1, _, rfl, rfl, hpa, atI_nat (j := 1) rfl, ha, _, rfl, .inr hhs, ?_⟩
  refine ⟨_, rfl, x, d, 2, rfl, hd, ft, _, rfl, ?_⟩
  cases e2 : aTup 2 d with
  | false =>
    refine iteT (iteT ?_)
    have z := q H (Same.refl H)
    rw [lim_not2 e2] at z
    exact z
  | true =>
    obtain ⟨a, xs, ds, rfl, rfl, hs, hds, hl⟩ := aTup_yes hd e2
    obtain ⟨d0, d1, rfl⟩ := two_of hl
    obtain ⟨ab, v0, v1, eab, hab, h0, h1⟩ := dp2 hd
    cases eab
    have f0 : Fit d0 := ft.mem List.mem_cons_self
    have f1 : Fit d1 := ft.mem (List.mem_cons_of_mem _ List.mem_cons_self)
    refine iteF ⟨_, rfl, a, _, 0, _, rfl, rfl, hab, atI_nat (j := 0) rfl, v0, d0, rfl, h0, f0, fun H1 s1 => ⟨_, rfl, ?_⟩⟩
    rw [lim_two] at q
    cases e3 : mNumber d0 with
    | false =>
      refine iteT (iteT ?_)
      have z := q H1 s1
      rw [e3] at z
      exact z
    | true =>
      rw [e3] at q
      refine iteF ⟨_, rfl, a, _, 1, _, rfl, rfl, same_tup s1 hab, atI_nat (j := 1) rfl, _, rfl, _, rfl, v1, d1, us.length, rfl, dp_same s1 _ _ h1, f1, _, rfl, ?_⟩
      rw [← hul] at q
      cases e4 : aTup us.length d1 with
      | false =>
        refine iteT ?_
        have z := q H1 s1
        rw [e4] at z
        exact z
      | true =>
        rw [e4] at q
        obtain ⟨b, ys, es, rfl, rfl, hb, hes, hle⟩ := aTup_yes h1 e4
        refine iteF ⟨_, rfl, a, _, 1, _, rfl, rfl, same_tup s1 hab, atI_nat (j := 1) rfl, b, rfl, ⟨_, same_tup s1 hb⟩, fun D nD => ?_⟩
        refine lc_ask (m := mNumber) (xs := ys) (same_tup s1 hb) (dpAll_same s1 _ _ hes) f1.len nD (fun x d H2 R md hd2 fin => ⟨rfl, _, rfl, x, d, rfl, hd2, f1.mem md, fin⟩) (fun H2 s2 hD => ?_)
        refine ⟨D, _, rfl, SqL.of hD, ?_⟩
        rw [all_map]
        exact q H2 (s1.trans s2)
end
end PP

set_option maxHeartbeats 4000000
namespace PP
open PySem PySem.Spec PyProof.Rows L2 G3 G4 M0 PA
theorem scNoLess : FnScope ["one", "other"] ["one", "other"] (defScope s_is_no_less) := ⟨rfl, rfl, rfl, by decide +kernel, rfl, by decide +kernel, by decide +kernel⟩
theorem scOneLess : FnScope ["number"] ["number"] (defScope s_one_less) := ⟨rfl, rfl, rfl, by decide +kernel, rfl, by decide +kernel, by decide +kernel⟩
/-- a number of turns, or None -/
abbrev Num := Option Int
def Num.v : Num → V
  | none => .non
  | some i => .int i
def Num.d : Num → PyData
  | none => .none
  | some i => .int i
def noLess : Num → Num → Bool
  | none, _ => true
  | some _, none => false
  | some i, some j => decide (j ≤ i)
theorem Num.dp {K : PySem.W.Frag} {H : Hp} (n : Num) : Dp K H n.v n.d := by
  cases n with
  | none => exact .non
  | some i => exact .int i
section
variable {P : Program} {w : World} {K : PySem.W.Frag} {mg : Str → Option Value} {base : Heap}
def spNoLess : Sp := fun vs H Q _ => ∃ a b : Num, vs = [a.v, b.v] ∧ Q (.bl (noLess a b)) H
theorem ok_noless {f : Addr} {fd : FuncData} {k : Nat} (F : Fun K "is_no_less" "is_no_less" s_is_no_less f fd) : FnOk P w K mg base CX0 (k + 1) f fd ["one", "other"] spNoLess := by
  refine F.ok scNoLess (fun vs H Q E h => ?_) (fun cdv A outer s H vs Q E hr h => ?_)
  · obtain ⟨a, b, rfl, _⟩ := h
    rfl
  obtain ⟨a, b, rfl, q⟩ := h
  have nd := scNoLess.nd
  refine ⟨_, pss_one (ps_ret (pe_or (pe_cmpR op_isN (pv 0) pe_non (nomark _)) (pe_one (pe_and (pe_cmpR op_notN (pv 1) pe_non (nomark _)) (pe_one (pe_cmpR op_ge (pv 0) (pv 1) (nomark _))))))), ?_⟩
  refine ⟨_, rfl, rfl, _, rfl, ?_⟩
  cases a with
  | none => exact iteT q
  | some i =>
    refine iteF ⟨_, rfl, rfl, _, rfl, ?_⟩
    cases b with
    | none => exact iteF q
    | some j => exact iteT ⟨_, rfl, _, rfl, _, _, rfl, rfl, q⟩
def oneLess : Num → Num
  | none => none
  | some i => some (if i - 1 > 0 then i - 1 else 0)
def spOneLess : Sp := fun vs H Q _ => ∃ a : Num, vs = [a.v] ∧ Q (oneLess a).v H
theorem ok_oneless {f : Addr} {fd : FuncData} {k : Nat} (F : Fun K "one_less" "one_less" s_one_less f fd) (mm : mg "max" = none) : FnOk P w K mg base CX0 (k + 1) f fd ["number"] spOneLess := by
  refine F.ok scOneLess (fun vs H Q E h => ?_) (fun cdv A outer s H vs Q E hr h => ?_)
  · obtain ⟨a, rfl, _⟩ := h
    rfl
  obtain ⟨a, rfl, q⟩ := h
  have nd := scOneLess.nd
  refine ⟨_, pss_one (ps_ret (pe_ifExp (pt_cmpR op_isN (pv 0) pe_non (nomark _)) pe_non (pe_callB (call_max2 rfl) (by rfl) mm (by decide +kernel) (pa_cons pe_int (pa_cons (pe_op op_sub (pv 0) pe_int) pa_nil))))), ?_⟩
  refine ⟨_, rfl, rfl, _, rfl, ?_⟩
  cases a with
  | none => exact iteT q
  | some i => exact iteF ⟨_, rfl, _, _, rfl, rfl, 0, i - 1, rfl, q⟩
theorem scLLower : FnScope ["_law_number_here"] ["_law_number_here"] (defScope s_law_lower) := ⟨rfl, rfl, rfl, by decide +kernel, rfl, by decide +kernel, by decide +kernel⟩
theorem ok_llower {f : Addr} {fd : FuncData} {k : Nat} (F : Fun K "_law_lower" "_law_lower" s_law_lower f fd) (mm : mg "max" = none) : FnOk P w K mg base CX0 (k + 1) f fd ["_law_number_here"] spOneLess := by
  refine F.ok scLLower (fun vs H Q E h => ?_) (fun cdv A outer s H vs Q E hr h => ?_)
  · obtain ⟨a, rfl, _⟩ := h
    rfl
  obtain ⟨a, rfl, q⟩ := h
  have nd := scLLower.nd
  refine ⟨_, pss_one (ps_ret (pe_ifExp (pt_cmpR op_isN (pv 0) pe_non (nomark _)) (pv 0) (pe_callB (call_max2 rfl) (by rfl) mm (by decide +kernel) (pa_cons pe_int (pa_cons (pe_op op_sub (pv 0) pe_int) pa_nil))))), ?_⟩
  refine ⟨_, rfl, rfl, _, rfl, ?_⟩
  cases a with
  | none => exact iteT ⟨_, rfl, q⟩
  | some i => exact iteF ⟨_, rfl, _, _, rfl, rfl, 0, i - 1, rfl, q⟩
/-- the six numbers that the law draws -/
def sixN : List Num := [none, some 0, some 1, some 2, some 3, some (10 ^ 20)]
theorem scLNumber : FnScope ["_law_pool_here"] ["_law_pool_here"] (defScope s_law_number) := ⟨rfl, rfl, rfl, by decide +kernel, rfl, by decide +kernel, by decide +kernel⟩
def spLNumber : Sp := fun vs H Q _ => ∃ p : Addr, vs = [.ref p] ∧ Pool H p ∧ ∀ (H' : Hp) (n : Num), Pool H' p → Same (off p H) (off p H') → n ∈ sixN → Q n.v H'
theorem ok_lnumber {f : Addr} {fd : FuncData} {k : Nat} (F : Fun K "_law_number" "_law_number" s_law_number f fd) (T : Def P w K mg base CX0 (k + 1) "_law_take" ["_law_pool_here", "_law_total"] spTake) : FnOk P w K mg base CX0 (k + 1 + 1) f fd ["_law_pool_here"] spLNumber := by
  refine F.ok scLNumber (fun vs H Q E h => ?_) (fun cdv A outer s H vs Q E hr h => ?_)
  · obtain ⟨p, rfl, _⟩ := h
    rfl
  obtain ⟨p, rfl, pl, q⟩ := h
  have nd := scLNumber.nd
  refine ⟨_, pss_one (ps_ret (pe_ix ix_list (pe_lst (pa_cons pe_non (pa_cons pe_int (pa_cons pe_int (pa_cons pe_int (pa_cons pe_int (pa_cons (pe_op op_pow pe_int pe_int) pa_nil))))))) (pe_call T.ok hr (by rfl) T.g T.kp T.b .nil pass0 (pa_cons (pv 0) (pa_cons pe_int pa_nil))) (fun _ _ => rfl))), ?_⟩
  refine ⟨_, _, rfl, rfl, ⟨by decide, by decide, by decide⟩, by show 6 ≤ sizeLine; decide, fun x nx => ?_⟩
  have xp := pool_ne pl nx
  refine ⟨_, rfl, p, 6, rfl, pool_put pl xp, by decide, by decide, fun H1 r pl1 o1 r0 r1 => ?_⟩
  have hx : off p H1 x = some (.lst (sixN.map Num.v)) := by
    rw [o1, off_ne xp]
    exact upd_same
  have hi : r.toNat < sixN.length := by
    show r.toNat < 6
    omega
  have hat : atI (sixN.map Num.v) r = some (sixN[r.toNat]).v := by
    have z := atI_nat (xs := sixN.map Num.v) (j := r.toNat) (v := (sixN[r.toNat]).v) (by rw [List.getElem?_map, List.getElem?_eq_getElem hi]; rfl)
    rwa [Int.toNat_of_nonneg r0] at z
  refine ⟨x, _, r, _, rfl, rfl, SqL.of (off_sub _ _ hx), hat, q _ _ pl1 ?_ (List.getElem_mem hi)⟩
  rw [o1]
  exact off_mono (same_new nx)
end
end PP

set_option maxHeartbeats 4000000
namespace PP
open PySem PySem.Spec PyProof.Rows L2 G3 G4 M0 PA
theorem walk_zipT {K : PySem.W.Frag} {a b : Addr} {xs ys : List V} {n : Nat} (hn : n = min xs.length ys.length) : Walk (RZ.ItzT K a b) n (fun H => SqT K H a xs ∧ SqT K H b ys) (YPair (fun i => xs[i]?) (fun i => ys[i]?)) := by
  subst hn
  refine ⟨fun i _ hi q => ?_, fun _ q => ⟨xs, ys, q.1, q.2, by omega⟩, fun i H v H' _ q y => ?_⟩
  · have h1 : i < xs.length := by omega
    have h2 : i < ys.length := by omega
    exact ⟨xs, ys, xs[i], ys[i], q.1, q.2, by simp [h1], by simp [h2]⟩
  · obtain ⟨T, x, z, h1, h2, h3, h4, h5⟩ := y
    exact ⟨T, x, z, h1, h2, h3, h4 xs q.1, h5 ys q.2⟩
/-- limits -/
abbrev Lim := Num × List Num
def limD (l : Lim) : PyData := .tuple [l.1.d, .tuple (l.2.map Num.d)]
def coversB (a b : Lim) : Bool := noLess a.1 b.1 && (List.zipWith noLess a.2 b.2).all id
theorem dp_num {K : PySem.W.Frag} {H : Hp} {v : V} {n : Num} (h : Dp K H v n.d) : v = n.v := by
  cases n with
  | none =>
    cases h
    rfl
  | some i =>
    cases h
    rfl
theorem dp_nums {K : PySem.W.Frag} {H : Hp} : ∀ {ns : List Num} {vs : List V}, DpAll K H vs (ns.map Num.d) → vs = ns.map Num.v
  | [], _, h => by
    cases h
    rfl
  | n :: ns, _, h => by
    cases h with
    | cons h1 h2 => rw [dp_num h1, dp_nums h2]; rfl
abbrev nCovers : List Str := ["one", "other", "number", "against"]
theorem scCovers : FnScope nCovers ["one", "other"] (defScope s_covers) := ⟨rfl, rfl, rfl, by decide +kernel, rfl, by decide +kernel, by decide +kernel⟩
section
variable {P : Program} {w : World} {K : PySem.W.Frag} {mg : Str → Option Value} {base : Heap}
def spCovers (K : PySem.W.Frag) : Sp := fun vs H Q _ => ∃ (v u : V) (a b : Lim), vs = [v, u] ∧ Dp K H v (limD a) ∧ Dp K H u (limD b) ∧ a.2.length ≤ 100 ∧ ∀ H', Same H H' → Q (.bl (coversB a b)) H'
set_option maxHeartbeats 8000000 in
theorem ok_covers {f : Addr} {fd : FuncData} {k : Nat} (F : Fun K "covers" "covers" s_covers f fd) (N : Def P w K mg base CX0 (k + 1) "is_no_less" ["one", "other"] spNoLess) (ma : mg "all" = none) (mz : mg "zip" = none) : FnOk P w K mg base CX0 (k + 1 + 1) f fd ["one", "other"] (spCovers K) := by
  refine F.ok scCovers (fun vs H Q E h => ?_) (fun cdv A outer s H vs Q E hr h => ?_)
  · obtain ⟨v, u, a, b, rfl, _⟩ := h
    rfl
  obtain ⟨v, u, a, b, rfl, hv, hu, la, q⟩ := h
  have nd := scCovers.nd
  refine ⟨_, pss_cons (ps_if (pt_not (pt_val (pe_call N.ok hr (by rfl) N.g N.kp N.b .nil pass0 (pa_cons (pe_ix ix_tup (pv 0) pe_int (fun _ _ => rfl)) (pa_cons (pe_ix ix_tup (pv 1) pe_int (fun _ _ => rfl)) pa_nil))))) (pss_one (ps_ret pe_bl)) pss_nil)
    (pss_one (ps_ret (pe_callB (cr_all rfl) (by rfl) ma PyProof.Rows.boot_all (pa_cons
      (pe_lc (own := [("number", 2), ("against", 3)]) (g := gTup K 2 (gCons (gName 2) (gCons (gName 3) gNil))) (tt := tYes) (by rfl) nd (RZ.pi_zipA (by rfl) mz (pa_cons (pe_ix ix_tup (pv 0) pe_int (fun _ _ => rfl)) (pa_cons (pe_ix ix_tup (pv 1) pe_int (fun _ _ => rfl)) pa_nil)))
        (blkOk_by (N := nCovers) (sc := defScope s_covers) (by decide +kernel)) (fun _ _ _ _ _ => pg_tup rfl (pgs_cons (pg_name (i := 2) nd rfl (.inl rfl)) (pgs_cons (pg_name (i := 3) nd rfl (.inl rfl)) pgs_nil))) (fun _ _ _ _ _ => pts_nil)
        (fun _ _ _ _ _ => pe_call N.ok hr (by rfl) N.g N.kp N.b .nil pass0 (pa_cons (pv 2) (pa_cons (pv 3) pa_nil)))) pa_nil)))), ?_⟩
  obtain ⟨va, x1, x2, rfl, hva, d1, d2⟩ := dp2 hv
  obtain ⟨ua, y1, y2, rfl, hua, e1, e2⟩ := dp2 hu
  cases dp_num d1
  cases dp_num e1
  obtain ⟨xa, xs, rfl, hxa, hxs⟩ := dp_tup d2
  obtain ⟨ya, ys, rfl, hya, hys⟩ := dp_tup e2
  cases dp_nums hxs
  cases dp_nums hys
  refine ⟨_, rfl, va, _, 0, _, rfl, rfl, hva, atI_nat (j := 0) rfl, _, rfl, ua, _, 0, _, rfl, rfl, hua, atI_nat (j := 0) rfl, a.1, b.1, rfl, _, rfl, ?_⟩
  cases e3 : noLess a.1 b.1 with
  | false =>
    refine iteT ?_
    have z := q H (Same.refl H)
    unfold coversB at z
    rw [e3] at z
    exact z
  | true =>
    refine iteF ⟨_, rfl, va, _, 1, _, rfl, rfl, hva, atI_nat (j := 1) rfl, _, rfl, ua, _, 1, _, rfl, rfl, hua, atI_nat (j := 1) rfl, xa, ya, _, _, rfl, .inr ⟨hxa, hya, fun D nD => ?_⟩⟩
    refine lc_it (walk_zipT (a := xa) (b := ya) (K := K) (xs := a.2.map Num.v) (ys := b.2.map Num.v) rfl) (fun i G => Same H G ∧ G D = some (.lst (((List.zipWith noLess a.2 b.2).take i).map V.bl))) ⟨same_new nD, upd_same⟩ (fun i G _ h => ⟨same_tup h.1 hxa, same_tup h.1 hya⟩) (fun i x G G' hi h y => ?_) (fun G h => ?_)
    · obtain ⟨T, k1, k2, rfl, nT, rfl, hk1, hk2⟩ := y
      rw [List.length_map, List.length_map] at hi
      have h1 : i < a.2.length := by omega
      have h2 : i < b.2.length := by omega
      simp only [List.getElem?_map, List.getElem?_eq_getElem h1, Option.map_some] at hk1
      simp only [List.getElem?_map, List.getElem?_eq_getElem h2, Option.map_some] at hk2
      cases hk1
      cases hk2
      have sT : Same G (upd G T (.tup [(a.2[i]).v, (b.2[i]).v])) := same_new nT
      refine ⟨T, _, rfl, .inl (.inl upd_same), rfl, _, _, rfl, _, _, rfl, rfl, rfl, ?_⟩
      dsimp only [tYes]
      rw [if_pos rfl]
      refine ⟨_, rfl, _, rfl, a.2[i], b.2[i], rfl, _, sT _ _ h.2, ?_, same_put (h.1.trans sT) nD, ?_⟩
      · rw [List.length_map, List.length_take]
        exact LC.small_line (by omega)
      · have hz : (List.zipWith noLess a.2 b.2)[i]? = some (noLess a.2[i] b.2[i]) := by
          rw [List.getElem?_zipWith, List.getElem?_eq_getElem h1, List.getElem?_eq_getElem h2]
        rw [upd_same, List.take_succ, hz]
        simp
    · refine ⟨D, _, rfl, SqL.of h.2, ?_⟩
      have el : (List.zipWith noLess a.2 b.2).take (min (a.2.map Num.v).length (b.2.map Num.v).length) = List.zipWith noLess a.2 b.2 := List.take_of_length_le (by rw [List.length_zipWith, List.length_map, List.length_map]; exact Nat.le_refl _)
      have z := q G h.1
      unfold coversB at z
      rw [e3, Bool.true_and] at z
      rw [el]
      exact z
end
end PP

set_option maxHeartbeats 4000000
namespace PP
open PySem PySem.Spec PyProof.Rows L2 G3 G4 M0 PA
theorem cut_whole {xs : List V} {lo hi : Option Int} (h : HT.sIx xs.length 0 lo = 0 ∧ HT.sIx xs.length xs.length hi = xs.length) : cutV xs lo hi = xs := by
  unfold cutV
  rw [h.1, h.2, List.drop_zero, Nat.sub_zero, List.take_length]
theorem cut_take {xs : List V} (j : Nat) : cutV xs none (some (j : Int)) = xs.take j := by
  unfold cutV
  rw [HT.sIx_none, HT.sIx_nat, List.drop_zero, Nat.sub_zero, List.take_eq_take_iff]
  omega
theorem cut_drop {xs : List V} (j : Nat) : cutV xs (some (j : Int)) none = xs.drop j := by
  unfold cutV
  rw [HT.sIx_none, HT.sIx_nat]
  by_cases h : j ≤ xs.length
  · rw [Nat.min_eq_left h, List.take_of_length_le (by rw [List.length_drop]; omega)]
  · have e : min j xs.length = xs.length := by omega
    rw [e, List.drop_length, List.take_nil, List.drop_eq_nil_of_le (by omega)]
/-! what may be a part -/
structure Comp (d : PyData) : Prop where
  nc : nice d = true
  dep : d.depth ≤ 6
  blk : d.bulk ≤ 20000
  few : ∀ es, d = .tuple es → es.length < 60
theorem sl_any {K : PySem.W.Frag} {G : Hp} {a : Addr} {xs : List V} {lo hi : Option Int} {T : VK} (h : SqT K G a xs) (go : ∀ c G', SqT K G' c (cutV xs lo hi) → Same G G' → T (.ref c) G') : rSlA K (.ref a) lo hi G T := by
  refine ⟨a, xs, rfl, h, fun z => go a G (by rw [cut_whole z]; exact h) (Same.refl G), fun _ q nq => go q _ (SqT.of upd_same) (same_new nq)⟩
theorem fit_int (i : Int) : Fit (.int i) := ⟨by simp only [PyData.canLay0], by simp only [PyData.depth]; decide, by simp only [PyData.bulk]; decide⟩
theorem scBetween : FnScope ["thing", "low", "high"] ["thing", "low", "high"] (defScope s_is_between) := ⟨rfl, rfl, rfl, by decide +kernel, rfl, by decide +kernel, by decide +kernel⟩
theorem scHand : FnScope ["hands", "thing"] ["hands", "thing"] (defScope s_is_hand) := ⟨rfl, rfl, rfl, by decide +kernel, rfl, by decide +kernel, by decide +kernel⟩
abbrev nLess : List Str := ["limit", "hand", "most", "each"]
theorem scLess : FnScope nLess ["limit", "hand"] (defScope s_less) := ⟨rfl, rfl, rfl, by decide +kernel, rfl, by decide +kernel, by decide +kernel⟩
section
variable {P : Program} {w : World} {K : PySem.W.Frag} {mg : Str → Option Value} {base : Heap}
def spBetween : Sp := fun vs H Q _ => ∃ i lo hi : Int, vs = [.int i, .int lo, .int hi] ∧ lo ≤ i ∧ i ≤ hi ∧ ∀ H', Same H H' → Q (.bl true) H'
theorem ok_between {f : Addr} {fd : FuncData} {k : Nat} (F : Fun K "is_between" "is_between" s_is_between f fd) (W : Def P w K mg base CX0 (k + 1) "is_whole" ["thing"] (spAsk K mWhole)) : FnOk P w K mg base CX0 (k + 1 + 1) f fd ["thing", "low", "high"] spBetween := by
  refine F.ok scBetween (fun vs H Q E h => ?_) (fun cdv A outer s H vs Q E hr h => ?_)
  · obtain ⟨i, lo, hi, rfl, _⟩ := h
    rfl
  obtain ⟨i, lo, hi, rfl, h1, h2, q⟩ := h
  have nd := scBetween.nd
  refine ⟨_, pss_one (ps_ret (pe_and (pe_call W.ok hr (by rfl) W.g W.kp W.b .nil pass0 (pa_cons (pv 0) pa_nil)) (pe_one (pe_chain op_le op_le (pv 1) (pv 0) (pv 2))))), ?_⟩
  refine ⟨_, rfl, _, _, rfl, .int i, fit_int i, fun H1 s1 => ⟨_, rfl, iteT ?_⟩⟩
  refine ⟨_, rfl, _, rfl, _, _, rfl, rfl, _, rfl, ?_⟩
  rw [decide_eq_true h1]
  refine iteT ⟨_, rfl, _, _, rfl, rfl, ?_⟩
  have z := q H1 s1
  show Q (.bl (decide (i ≤ hi))) H1
  rw [decide_eq_true h2]
  exact z
def spHand (K : PySem.W.Frag) : Sp := fun vs H Q _ => ∃ (a : Addr) (xs : List V) (i : Int), vs = [.ref a, .int i] ∧ SqT K H a xs ∧ 0 ≤ i ∧ i < xs.length ∧ ∀ H', Same H H' → Q (.bl true) H'
theorem ok_hand {f : Addr} {fd : FuncData} {k : Nat} (F : Fun K "is_hand" "is_hand" s_is_hand f fd) (B : Def P w K mg base CX0 (k + 1) "is_between" ["thing", "low", "high"] spBetween) (ml : mg "len" = none) : FnOk P w K mg base CX0 (k + 1 + 1) f fd ["hands", "thing"] (spHand K) := by
  refine F.ok scHand (fun vs H Q E h => ?_) (fun cdv A outer s H vs Q E hr h => ?_)
  · obtain ⟨a, xs, i, rfl, _⟩ := h
    rfl
  obtain ⟨a, xs, i, rfl, ha, h0, h1, q⟩ := h
  have nd := scHand.nd
  refine ⟨_, pss_one (ps_ret (pe_call B.ok hr (by rfl) B.g B.kp B.b .nil pass0 (pa_cons (pv 1) (pa_cons pe_int (pa_cons (pe_op op_sub (pe_callB call_len_seq (by rfl) ml PySem.boot_len (pa_cons (pv 0) pa_nil)) pe_int) pa_nil))))), ?_⟩
  exact ⟨_, rfl, _, rfl, a, _, rfl, .inr ha, _, _, rfl, rfl, i, 0, (xs.length : Int) - 1, rfl, h0, by omega, q⟩
def lessL (l : Lim) (h : Nat) : Lim := (oneLess l.1, l.2.take h ++ [oneLess ((l.2[h]?).getD none)] ++ l.2.drop (h + 1))
def spLess (K : PySem.W.Frag) : Sp := fun vs H Q _ => ∃ (v : V) (l : Lim) (h : Nat), vs = [v, .int h] ∧ Dp K H v (limD l) ∧ h < l.2.length ∧ l.2.length ≤ 100 ∧ ∀ H' u, Same H H' → Dp K H' u (limD (lessL l h)) → Q u H'
set_option maxHeartbeats 8000000 in
theorem ok_less {f : Addr} {fd : FuncData} {k : Nat} (F : Fun K "less" "less" s_less f fd) (N : Def P w K mg base CX0 (k + 1) "is_hand" ["hands", "thing"] (spHand K)) (O : Def P w K mg base CX0 (k + 1) "one_less" ["number"] spOneLess) : FnOk P w K mg base CX0 (k + 1 + 1) f fd ["limit", "hand"] (spLess K) := by
  refine F.ok scLess (fun vs H Q E h => ?_) (fun cdv A outer s H vs Q E hr h => ?_)
  · obtain ⟨v, l, h, rfl, _⟩ := h
    rfl
  obtain ⟨v, l, h, rfl, hv, hh, hl, q⟩ := h
  have nd := scLess.nd
  refine ⟨_, pss_cons (ps_asg (pv 0) (pg_tup rfl (pgs_cons (pg_name (i := 2) nd rfl (.inl rfl)) (pgs_cons (pg_name (i := 3) nd rfl (.inl rfl)) pgs_nil))))
    (pss_cons (ps_if (pt_not (pt_val (pe_call N.ok hr (by rfl) N.g N.kp N.b .nil pass0 (pa_cons (pv 3) (pa_cons (pv 1) pa_nil))))) (pss_one ps_dead) pss_nil)
    (pss_one (ps_ret (pe_tup (pa_cons (pe_call O.ok hr (by rfl) O.g O.kp O.b .nil pass0 (pa_cons (pv 2) pa_nil))
      (pa_cons (pe_op op_catA (pe_op op_catA (pe_slice sl_tupA (pv 3) po_none (po_some (pv 1))) (pe_tup (pa_cons (pe_call O.ok hr (by rfl) O.g O.kp O.b .nil pass0 (pa_cons (pe_ix ix_tup (pv 3) (pv 1) (fun _ _ => rfl)) pa_nil)) pa_nil))) (pe_slice sl_tupA (pv 3) (po_some (pe_op op_add (pv 1) pe_int)) po_none)) pa_nil)))))), ?_⟩
  obtain ⟨va, x1, x2, rfl, hva, d1, d2⟩ := dp2 hv
  cases dp_num d1
  obtain ⟨xa, xs, rfl, hxa, hxs⟩ := dp_tup d2
  cases dp_nums hxs
  refine ⟨_, rfl, va, _, rfl, hva, rfl, _, _, rfl, _, _, rfl, rfl, ?_⟩
  refine ⟨_, rfl, _, rfl, xa, _, h, rfl, hxa, by omega, by rw [List.length_map]; omega, fun H1 s1 => ⟨_, rfl, iteF ?_⟩⟩
  refine ⟨_, rfl, l.1, rfl, ?_⟩
  refine ⟨_, rfl, _, rfl, _, rfl, sl_any (same_tup s1 hxa) fun c1 G1 hc1 t1 => ?_⟩
  have gx : (l.2.map Num.v)[h]? = some ((l.2[h]?).getD none).v := by
    rw [List.getElem?_map, List.getElem?_eq_getElem hh]
    rfl
  refine ⟨_, rfl, _, rfl, xa, _, h, _, rfl, rfl, same_tup (s1.trans t1) hxa, atI_nat gx, (l.2[h]?).getD none, rfl, lz1, fun c2 n2 => ?_⟩
  have t2 : Same G1 (upd G1 c2 (.tup [(oneLess ((l.2[h]?).getD none)).v])) := same_new n2
  refine cat_two (same_tup t2 hc1) (SqT.of upd_same) ?_ fun c3 G3 hc3 t3 => ?_
  · have z := cutV_length (l.2.map Num.v) none (some (h : Int))
    rw [List.length_map] at z
    show _ + 1 ≤ 1000
    omega
  refine ⟨_, rfl, _, rfl, _, _, rfl, rfl, _, rfl, ?_⟩
  unfold tNoPart
  refine sl_any (same_tup ((s1.trans t1).trans (t2.trans t3)) hxa) fun c4 G4 hc4 t4 => ?_
  refine cat_two (same_tup t4 hc3) hc4 ?_ fun c5 G5 hc5 t5 => ⟨lz2, fun t nt => ?_⟩
  · have z := cutV_length (l.2.map Num.v) none (some (h : Int))
    have z2 := cutV_length (l.2.map Num.v) (some ((h : Int) + 1)) none
    rw [List.length_map] at z z2
    rw [List.length_append]
    show _ + 1 + _ ≤ 1000
    have z3 : (cutV (l.2.map Num.v) (some ((fun i j => i + j) (h : Int) 1)) none).length ≤ 100 := Nat.le_trans z2 hl
    omega
  have e2 : ((h : Int) + 1) = ((h + 1 : Nat) : Int) := by omega
  have ec : cutV (l.2.map Num.v) none (some (h : Int)) ++ [(oneLess ((l.2[h]?).getD none)).v] ++ cutV (l.2.map Num.v) (some ((h : Int) + 1)) none = (lessL l h).2.map Num.v := by
    rw [cut_take, e2, cut_drop]
    unfold lessL
    rw [List.map_append, List.map_append, List.map_take, List.map_drop]
    rfl
  have hc6 : SqT K G5 c5 ((lessL l h).2.map Num.v) := by
    rw [← ec]
    exact hc5
  have t6 : Same G5 (upd G5 t (.tup [(oneLess l.1).v, .ref c5])) := same_new nt
  refine q _ _ (((s1.trans t1).trans (t2.trans t3)).trans ((t4.trans t5).trans t6)) (.tup (SqT.of upd_same) (.cons (Num.dp _) (.cons (.tup (same_tup t6 hc6) (dpAll_map _ fun n _ => Num.dp n)) .nil)))
end
end PP

set_option maxHeartbeats 4000000
namespace PP
open PySem PySem.Spec PyProof.Rows L2 G3 G4 M0 PA
/-- [x for x in t if not m(x)] -/
theorem lc_sift {K : PySem.W.Frag} {a : Addr} {xs : List V} {ds : List PyData} {m : PyData → Bool} {g : TG} {tt : TT} {te : TE} {vs : List Nat} {σ : L2.St} {H1 : Hp} {D : Addr} {Qd : Hp → Prop}
    (hx : SqT K H1 a xs) (hd : DpAll K H1 xs ds) (len : ds.length ≤ 100000) (nD : H1 D = none)
    (turn : ∀ x d H (R : L2.St → Bool → Hp → Prop), d ∈ ds → Dp K H x d → (∀ σ2 H', Same H H' → (∀ Q' : VK, Q' x H' → te σ2 H' Q') → R σ2 (!m d) H') → g x (wipe σ vs) H fun σ2 H2 => wipe σ2 vs = wipe σ vs ∧ tt σ2 H2 (R σ2))
    (fin : ∀ H' ys, Same H1 H' → H' D = some (.lst ys) → DpAll K H1 ys (ds.filter fun d => !m d) → Qd H') :
    ∃ W : Nat → Nat → Hp → Prop, (∃ m, W 0 m (upd H1 D (.lst []))) ∧ ∀ i m H, W i m H →
      ((Itt K a).stop i H ∧ Qd H) ∨ ((Itt K a).go i H ∧ ∃ Nx : Hp → Prop, (∀ H', Nx H' → ∃ m', m' < m ∧ W (i + 1) m' H') ∧ ∀ x H', (Itt K a).yld i H x H' → g x (wipe σ vs) H' fun σ2 H2 => wipe σ2 vs = wipe σ vs ∧ tt σ2 H2 fun b H3 =>
        if b = true then te σ2 H3 fun y H4 => ∃ acc, H4 D = some (.lst acc) ∧ acc.length < sizeLine ∧ Nx (upd H4 D (.lst (acc ++ [y]))) else Nx H3) := by
  have hl := dpAll_len hd
  refine lc_tup (xs := xs) (fun i H => Same H1 H ∧ ∃ ys, H D = some (.lst ys) ∧ DpAll K H1 ys ((ds.take i).filter fun d => !m d)) ⟨same_new nD, [], upd_same, .nil⟩ (fun i H _ h => same_tup h.1 hx) (fun i x H e h => ?_) (fun H h => ?_)
  · obtain ⟨d, ed, hxd⟩ := dpAll_get hd e
    obtain ⟨sm, ys, hD, hy⟩ := h
    have hlt : i < ds.length := (List.getElem?_eq_some_iff.mp ed).1
    have tk : ds.take (i + 1) = ds.take i ++ [d] := by rw [List.take_succ, ed]; rfl
    refine turn x d H (fun σ2 b H3 => if b = true then te σ2 H3 fun y H4 => ∃ acc, H4 D = some (.lst acc) ∧ acc.length < sizeLine ∧ (Same H1 (upd H4 D (.lst (acc ++ [y]))) ∧ ∃ ys, (upd H4 D (.lst (acc ++ [y]))) D = some (.lst ys) ∧ DpAll K H1 ys ((ds.take (i + 1)).filter fun d => !m d))
      else Same H1 H3 ∧ ∃ ys, H3 D = some (.lst ys) ∧ DpAll K H1 ys ((ds.take (i + 1)).filter fun d => !m d)) (List.mem_of_getElem? ed) (dp_same sm _ _ hxd) (fun σ2 H' s t => ?_)
    refine ite2 (fun e1 => ?_) (fun e1 => ?_)
    · refine t _ ⟨ys, s _ _ hD, ?_, same_put (sm.trans s) nD, ys ++ [x], upd_same, ?_⟩
      · have := dpAll_len hy
        have z := List.length_filter_le (fun d => !m d) (ds.take i)
        rw [List.length_take] at z
        exact small_line (by omega)
      · rw [tk, List.filter_append]
        have ef : [d].filter (fun d => !m d) = [d] := by
          rw [List.filter_cons_of_pos (p := fun d => !m d) e1]
          rfl
        rw [ef]
        exact dpAll_app hy (.cons hxd .nil)
    · refine ⟨sm.trans s, ys, s _ _ hD, ?_⟩
      rw [tk, List.filter_append]
      have ef : [d].filter (fun d => !m d) = [] := by
        rw [List.filter_cons_of_neg (p := fun d => !m d) e1]
        rfl
      rw [ef, List.append_nil]
      exact hy
  · obtain ⟨sm, ys, hD, hy⟩ := h
    have e : ds.take xs.length = ds := List.take_of_length_le (by omega)
    rw [e] at hy
    exact fin H ys sm hD hy
theorem sift_all {ds : List PyData} {m : PyData → Bool} : PyData.eqv (.list (ds.filter fun d => !m d)) (.list []) = ds.all m := by
  rw [Bool.eq_iff_iff]
  constructor
  · intro h
    rw [List.all_eq_true]
    intro d hd
    cases e : m d with
    | true => rfl
    | false =>
      exfalso
      have mem : d ∈ ds.filter fun d => !m d := List.mem_filter.mpr ⟨hd, by rw [e]; rfl⟩
      cases z : ds.filter fun d => !m d with
      | nil => rw [z] at mem; cases mem
      | cons x r => rw [z] at h; simp [PyData.eqv, PyData.eqvAll] at h
  · intro h
    rw [List.all_eq_true] at h
    have e : ds.filter (fun d => !m d) = [] := by
      rw [List.filter_eq_nil_iff]
      intro d hd
      rw [h d hd]
      decide
    rw [e]
    simp [PyData.eqv, PyData.eqvAll]
theorem Fit.shaped_sift {ds : List PyData} (h : Fit (.tuple ds)) (m : PyData → Bool) : SeqAt.shaped (.list (ds.filter m)) = true := by
  unfold SeqAt.shaped
  have e1 : (PyData.list (ds.filter m)).canLay0 = true := by
    simp only [PyData.canLay0]
    exact lay_all fun x hx => (h.mem (List.mem_filter.mp hx).1).lay
  have e2 : (PyData.list (ds.filter m)).depth ≤ 64 := Nat.le_trans (depth_list (k := 20) fun x hx => (h.mem (List.mem_filter.mp hx).1).dep) (by decide)
  rw [e1, decide_eq_true e2]
  rfl
theorem scLIsNum : FnScope ["_law_item"] ["_law_item"] (defScope s_law_is_number) := ⟨rfl, rfl, rfl, by decide +kernel, rfl, by decide +kernel, by decide +kernel⟩
abbrev nLBound : List Str := ["_law_prog", "_law_item", "_law_own"]
theorem scLBound : FnScope nLBound ["_law_prog", "_law_item"] (defScope s_law_is_bound) := ⟨rfl, rfl, rfl, by decide +kernel, rfl, by decide +kernel, by decide +kernel⟩
section
variable {P : Program} {w : World} {K : PySem.W.Frag} {mg : Str → Option Value} {base : Heap}
theorem ok_lisnum {f : Addr} {fd : FuncData} {k : Nat} (F : Fun K "_law_is_number" "_law_is_number" s_law_is_number f fd) (mi : mg "isinstance" = none) (mn : mg "int" = none) (mb : mg "bool" = none) : FnOk P w K mg base CX0 (k + 1) f fd ["_law_item"] (spAsk K mNumber) := by
  refine F.ok scLIsNum ask_len (fun cdv A outer s H vs Q E hr h => ?_)
  obtain ⟨x, d, rfl, hd, ft, q⟩ := h
  have nd := scLIsNum.nd
  refine ⟨_, pss_one (ps_ret (pe_or (pe_cmpR op_isN (pv 0) pe_non (nomark _)) (pe_one (pe_and (pe_callB call_isi (by rfl) mi PyProof.Rows.boot_isinstance (pa_cons (pv 0) (pa_cons (pe_bltn (by rfl) mn (u := .type "int") (by decide +kernel) (show RelV (.ty "int") (.type "int") from rfl)) pa_nil)))
    (pe_and (pe_not (pe_callB call_isi (by rfl) mi PyProof.Rows.boot_isinstance (pa_cons (pv 0) (pa_cons (pe_bltn (by rfl) mb (u := .type "bool") (by decide +kernel) (show RelV (.ty "bool") (.type "bool") from rfl)) pa_nil))))
      (pe_one (pe_cmpR op_ge (pv 0) pe_int (nomark _)))))))), ?_⟩
  have z := q H (Same.refl H)
  refine ⟨_, rfl, rfl, _, rfl, ite2 (fun e => ?_) (fun e => ?_)⟩
  · have e2 : x = .non := of_decide_eq_true e
    subst e2
    cases hd
    exact z
  · refine ⟨_, rfl, _, _, _, _, _, rfl, .ty "int", dp_ty hd, kit_int K hd, _, rfl, ite2 (fun e1 => ?_) (fun e1 => ?_)⟩
    · refine ⟨_, rfl, _, _, _, _, _, rfl, .ty "bool", dp_ty hd, kit_bool K hd, _, rfl, _, rfl, ?_⟩
      cases hd with
      | bl b => exact iteF z
      | int i => exact iteT ⟨_, rfl, _, _, rfl, rfl, z⟩
      | _ => exact Bool.noConfusion (show false = true from e1)
    · cases hd with
      | bl b => exact absurd rfl e1
      | int i => exact absurd rfl e1
      | non => exact absurd rfl e
      | _ => exact z
set_option maxHeartbeats 8000000 in
theorem ok_lbound {f : Addr} {fd : FuncData} {k : Nat} (F : Fun K "_law_is_bound" "_law_is_bound" s_law_is_bound f fd) (N : Def P w K mg base CX0 (k + 1) "_law_is_number" ["_law_item"] (spAsk K mNumber)) (mi : mg "isinstance" = none) (mt : mg "tuple" = none) (ml : mg "len" = none) : FnOk P w K mg base CX0 (k + 1 + 1) f fd ["_law_prog", "_law_item"] (spLimit K) := by
  refine F.ok scLBound (fun vs H Q E h => ?_) (fun cdv A outer s H vs Q E hr h => ?_)
  · obtain ⟨v, x, p, d, rfl, _⟩ := h
    rfl
  obtain ⟨v, x, p, d, rfl, hv, ok, hd, ft, q⟩ := h
  have nd := scLBound.nd
  refine ⟨_, pss_cons (ps_if (PW.pt (pw_or (pt_not (pt_val (pe_callB call_isi (by rfl) mi PyProof.Rows.boot_isinstance (pa_cons (pv 1) (pa_cons (pe_bltn (by rfl) mt (u := .type "tuple") (by decide +kernel) (show RelV (.ty "tuple") (.type "tuple") from rfl)) pa_nil)))))
      (pw_or (pt_cmpR op_ne (pe_callB call_len_seq (by rfl) ml PySem.boot_len (pa_cons (pv 1) pa_nil)) pe_int (nomark _))
      (pw_or1 (pt_not (pt_val (pe_callB call_isi (by rfl) mi PyProof.Rows.boot_isinstance (pa_cons (pe_ix ix_tup (pv 1) pe_int (fun _ _ => rfl)) (pa_cons (pe_bltn (by rfl) mt (u := .type "tuple") (by decide +kernel) (show RelV (.ty "tuple") (.type "tuple") from rfl)) pa_nil))))))))) (pss_one (ps_ret pe_bl)) pss_nil)
    (pss_cons (ps_if (PW.pt (pw_or (pt_cmpR op_ne (pe_callB call_len_seq (by rfl) ml PySem.boot_len (pa_cons (pe_ix ix_tup (pv 1) pe_int (fun _ _ => rfl)) pa_nil)) (pe_callB call_len_seq (by rfl) ml PySem.boot_len (pa_cons (pe_ix ix_tup (pv 0) pe_int (fun _ _ => rfl)) pa_nil)) (nomark _))
      (pw_or1 (pt_not (pt_val (pe_call N.ok hr (by rfl) N.g N.kp N.b .nil pass0 (pa_cons (pe_ix ix_tup (pv 1) pe_int (fun _ _ => rfl)) pa_nil))))))) (pss_one (ps_ret pe_bl)) pss_nil)
    (pss_one (ps_ret (pe_cmpR (op_eqD hr.units) (pe_lc (own := [("_law_own", 2)]) (g := gName 2) (by rfl) nd (pi_tup (pe_ix ix_tup (pv 1) pe_int (fun _ _ => rfl)))
        (blkOk_by (N := nLBound) (sc := defScope s_law_is_bound) (by decide +kernel)) (fun _ _ _ _ _ => pg_name (i := 2) nd rfl (.inl rfl)) (fun _ _ _ _ _ => pts_one (pt_not (pt_val (pe_call N.ok hr (by rfl) N.g N.kp N.b .nil pass0 (pa_cons (pv 2) pa_nil)))))
        (fun _ _ _ _ _ => pv 2)) (pe_lst pa_nil) (nomark _))))), ?_⟩
  obtain ⟨pa, p1, p2, rfl, hpa, g1, g2⟩ := dp2 hv
  obtain ⟨ha, us, rfl, hhs, hha⟩ := dp_tup g2
  have hul : us.length = p.2.length := by rw [dpAll_len hha, List.length_map]
  rw [← hul] at q
  have z0 := q H (Same.refl H)
  refine ⟨_, rfl, _, _, _, _, _, rfl, .ty "tuple", dp_ty hd, kit_tup K hd, _, rfl, ?_⟩
  cases hd with
  | @tup a xs ds hs hds =>
    have hxl := dpAll_len hds
    refine iteF ⟨_, rfl, a, _, rfl, .inr hs, rfl, _, rfl, ?_⟩
    by_cases e2 : xs.length = 2
    · obtain ⟨d0, d1, rfl⟩ := two_of (hxl.symm.trans e2)
      obtain ⟨ab, v0, v1, eab, hab, h0, h1⟩ := dp2 (.tup hs hds)
      cases eab
      have f0 : Fit d0 := ft.mem List.mem_cons_self
      have f1 : Fit d1 := ft.mem (List.mem_cons_of_mem _ List.mem_cons_self)
      rw [show (!decide (V.int (xs.length : Int) = V.int 2)) = false by rw [e2]; rfl]
      refine iteF ⟨_, rfl, a, _, 1, _, rfl, rfl, hab, atI_nat (j := 1) rfl, _, _, _, _, _, rfl, .ty "tuple", dp_ty h1, kit_tup K h1, _, rfl, ?_⟩
      cases h1 with
      | @tup b ys es hb hes =>
        have hyl := dpAll_len hes
        refine iteF ⟨_, rfl, a, _, 1, _, rfl, rfl, hab, atI_nat (j := 1) rfl, b, _, rfl, .inr hb, _, rfl, pa, _, 1, _, rfl, rfl, hpa, atI_nat (j := 1) rfl, ha, _, rfl, .inr hhs, rfl, _, rfl, ?_⟩
        rw [lim_two] at q z0
        by_cases e4 : ys.length = us.length
        · rw [show (!decide (V.int (ys.length : Int) = V.int (us.length : Int))) = false by rw [e4, decide_eq_true rfl]; rfl]
          refine iteF ⟨_, rfl, a, _, 0, _, rfl, rfl, hab, atI_nat (j := 0) rfl, v0, d0, rfl, h0, f0, fun H1 s1 => ⟨_, rfl, ?_⟩⟩
          have e5 : aTup us.length (.tuple es) = true := decide_eq_true (hyl.symm.trans e4)
          rw [e5] at q
          cases e3 : mNumber d0 with
          | false =>
            have z := q H1 s1
            rw [e3] at z
            exact iteT z
          | true =>
            rw [e3] at q
            refine iteF ⟨_, rfl, a, _, 1, _, rfl, rfl, same_tup s1 hab, atI_nat (j := 1) rfl, b, rfl, ⟨_, same_tup s1 hb⟩, fun D nD => ?_⟩
            refine lc_sift (m := mNumber) (xs := ys) (same_tup s1 hb) (dpAll_same s1 _ _ hes) f1.len nD (fun x d H2 R md hd2 fin => ⟨rfl, _, rfl, x, d, rfl, hd2, f1.mem md, fun H3 s3 => ⟨_, rfl, fin _ H3 s3 fun Q' h => ⟨_, rfl, h⟩⟩⟩) (fun H2 ws s2 hD hy => ?_)
            refine ⟨Nat.zero_le _, fun e0 n0 => ?_⟩
            have s3 : Same H2 (upd H2 e0 (.lst [])) := same_new n0
            refine ⟨_, _, .lst (SqL.of (s3 _ _ hD)) (dpAll_same (s2.trans s3) _ _ hy), .lst (SqL.of upd_same) .nil, f1.shaped_sift _, nilL_shaped, ?_⟩
            rw [sift_all]
            exact q _ (s1.trans (s2.trans s3))
        · have e5 : aTup us.length (.tuple es) = false := decide_eq_false fun z => e4 (hyl.trans z)
          rw [show (!decide (V.int (ys.length : Int) = V.int (us.length : Int))) = true by
            rw [decide_eq_false fun z => e4 (by have := V.int.inj z; omega)]
            rfl]
          rw [e5, Bool.false_and, Bool.and_false] at z0
          exact iteT (iteT z0)
      | _ => exact iteT z0
    · rw [show (!decide (V.int (xs.length : Int) = V.int 2)) = true by
        rw [decide_eq_false fun z => e2 (by have := V.int.inj z; omega)]
        rfl]
      have e5 : aTup 2 (.tuple ds) = false := decide_eq_false fun z => e2 (hxl.trans z)
      rw [lim_not2 e5] at z0
      exact iteT (iteT z0)
  | _ => exact iteT (iteT z0)
end
end PP

set_option maxHeartbeats 4000000
namespace PP
open PySem PySem.Spec PyProof.Rows L2 G3 G4 M0 PA
abbrev nLBnd : List Str := ["_law_pool_here", "_law_prog", "_law_who"]
theorem scLBnd : FnScope nLBnd ["_law_pool_here", "_law_prog"] (defScope s_law_bound) := ⟨rfl, rfl, rfl, by decide +kernel, rfl, by decide +kernel, by decide +kernel⟩
section
variable {P : Program} {w : World} {K : PySem.W.Frag} {mg : Str → Option Value} {base : Heap}
def spLBnd (K : PySem.W.Frag) : Sp := fun vs H Q _ => ∃ (p : Addr) (v : V) (pr : Prog), vs = [.ref p, v] ∧ Pool H p ∧ Dp K (off p H) v (progD pr) ∧ pr.2.length ≤ 100 ∧
  ∀ (H' : Hp) (u : V) (l : Lim), Pool H' p → Same (off p H) (off p H') → Dp K (off p H') u (limD l) → l.1 ∈ sixN → l.2.length = pr.2.length → (∀ n ∈ l.2, n ∈ sixN) → Q u H'
set_option maxHeartbeats 8000000 in
theorem ok_lbnd {f : Addr} {fd : FuncData} {k : Nat} (F : Fun K "_law_bound" "_law_bound" s_law_bound f fd) (N : Def P w K mg base CX0 (k + 1) "_law_number" ["_law_pool_here"] spLNumber) (mt : mg "tuple" = none) : FnOk P w K mg base CX0 (k + 1 + 1) f fd ["_law_pool_here", "_law_prog"] (spLBnd K) := by
  refine F.ok scLBnd (fun vs H Q E h => ?_) (fun cdv A outer s H vs Q E hr h => ?_)
  · obtain ⟨p, v, pr, rfl, _⟩ := h
    rfl
  obtain ⟨p, v, pr, rfl, pl, hv, hl, q⟩ := h
  have nd := scLBnd.nd
  refine ⟨_, pss_one (ps_ret (pe_tup (pa_cons (pe_call N.ok hr (by rfl) N.g N.kp N.b .nil pass0 (pa_cons (pv 0) pa_nil)) (pa_cons (pe_callTy call_tuple_of (by rfl) mt (by decide +kernel) (pa_cons
      (pe_lc (own := [("_law_who", 2)]) (g := gName 2) (tt := tYes) (by rfl) nd (pi_tup (pe_ix ix_tup (pv 1) pe_int (fun _ _ => rfl)))
        (blkOk_by (N := nLBnd) (sc := defScope s_law_bound) (by decide +kernel)) (fun _ _ _ _ _ => pg_name (i := 2) nd rfl (.inl rfl)) (fun _ _ _ _ _ => pts_nil)
        (fun _ _ _ _ _ => pe_call N.ok hr (by rfl) N.g N.kp N.b .nil pass0 (pa_cons (pv 0) pa_nil))) pa_nil)) pa_nil)))), ?_⟩
  obtain ⟨va, x1, x2, rfl, hva, d1, d2⟩ := dp2 hv
  obtain ⟨xa, xs, rfl, hxa, hxs⟩ := dp_tup d2
  have hxl : xs.length = pr.2.length := by rw [dpAll_len hxs, List.length_map]
  refine ⟨_, rfl, p, rfl, pl, fun H1 n pl1 s1 hn => ?_⟩
  refine ⟨_, rfl, va, _, 1, _, rfl, rfl, same_tup (s1.trans off_sub) hva, atI_nat (j := 1) rfl, xa, rfl, ⟨_, same_tup (s1.trans off_sub) hxa⟩, fun D nD => ?_⟩
  have eD : D ≠ p := pool_ne pl1 nD
  refine lc_it (walk_tup (a := xa) (xs := xs) (K := K)) (fun i G => Pool G p ∧ Same (off p H1) (off p G) ∧ ∃ ns : List Num, off p G D = some (.lst (ns.map Num.v)) ∧ ns.length = i ∧ ∀ n ∈ ns, n ∈ sixN)
    ⟨pool_put pl1 eD, off_mono (same_new nD), [], by rw [off_ne eD]; exact upd_same, rfl, fun _ z => nomatch z⟩ (fun i G _ h => same_tup ((s1.trans h.2.1).trans off_sub) hxa) (fun i x G G' hi h y => ?_) (fun G h => ?_)
  · obtain ⟨plG, sG, ns, hD, hnl, hns⟩ := h
    obtain ⟨rfl, _⟩ := y
    refine ⟨rfl, ?_⟩
    dsimp only [tYes]
    rw [if_pos rfl]
    refine ⟨_, rfl, p, rfl, plG, fun G2 m pl2 s2 hm => ?_⟩
    have hD2 := s2 _ _ hD
    refine ⟨_, (off_at hD2).1, by rw [List.length_map]; exact LC.small_line (by omega), pool_put pl2 eD, ?_, ns ++ [m], ?_, ?_, fun a ha => ?_⟩
    · rw [off_put eD]
      exact same_put (sG.trans s2) (off_none nD)
    · rw [off_put eD, List.map_append]
      exact upd_same
    · rw [List.length_append, hnl]
      rfl
    · rcases List.mem_append.mp ha with z | z
      · exact hns a z
      · rw [List.mem_singleton.mp z]
        exact hm
  · obtain ⟨plG, sG, ns, hD, hnl, hns⟩ := h
    refine ⟨D, _, rfl, .inl ⟨SqL.of (off_sub _ _ hD), fun t nt => ⟨lz2, fun t2 nt2 => ?_⟩⟩⟩
    obtain ⟨a1, a2, a3⟩ := new_tup (K := K) (ds := ns.map Num.d) (H := H) plG nt (s1.trans sG) (dpAll_map _ fun n _ => Num.dp n)
    obtain ⟨b1, b2, b3⟩ := new_tup (ds := [n.d, .tuple (ns.map Num.d)]) (H := H) a1 nt2 a2 (.cons (Num.dp n) (.cons a3 .nil))
    exact q _ _ (n, ns) b1 b2 b3 hn (hnl.trans hxl) hns
end
end PP

set_option maxHeartbeats 4000000
namespace PP
open PySem PySem.Spec PyProof.Rows L2 G3
/-! ### the mathematics: turns put together -/
abbrev Tn := Int × List V
/-- one more turn -/
def push (acc : List Tn) (r : Tn) : List Tn :=
  match acc.getLast? with
  | some t => if t.1 = r.1 then acc.dropLast ++ [(t.1, t.2 ++ r.2)] else acc ++ [r]
  | none => acc ++ [r]
def fold (rs : List Tn) : List Tn := rs.foldl push []
theorem push_nil (r : Tn) : push [] r = [r] := rfl
theorem push_same (i : List Tn) (h : Int) (c d : List V) : push (i ++ [(h, c)]) (h, d) = i ++ [(h, c ++ d)] := by
  unfold push
  rw [List.getLast?_concat, List.dropLast_concat]
  exact if_pos rfl
theorem push_other (i : List Tn) (t r : Tn) (h : t.1 ≠ r.1) : push (i ++ [t]) r = (i ++ [t]) ++ [r] := by
  unfold push
  rw [List.getLast?_concat]
  exact if_neg h
theorem snoc_cases {α : Type} (l : List α) : l = [] ∨ ∃ i t, l = i ++ [t] := by
  rcases List.eq_nil_or_concat l with h | ⟨i, t, h⟩
  · exact .inl h
  · exact .inr ⟨i, t, by rw [h, List.concat_eq_append]⟩
theorem push_push (acc : List Tn) (h : Int) (a b : List V) : push (push acc (h, a)) (h, b) = push acc (h, a ++ b) := by
  rcases snoc_cases acc with rfl | ⟨i, t, rfl⟩
  · rw [push_nil, push_nil]
    exact push_same [] h a b
  · obtain ⟨th, tc⟩ := t
    by_cases e : th = h
    · subst e
      rw [push_same, push_same, push_same, List.append_assoc]
    · have e1 : (th, tc).1 ≠ (h, a).1 := e
      have e2 : (th, tc).1 ≠ (h, a ++ b).1 := e
      rw [push_other i (th, tc) (h, a) e1, push_other i (th, tc) (h, a ++ b) e2, push_same]
theorem fold_snoc (rs : List Tn) (r : Tn) : fold (rs ++ [r]) = push (fold rs) r := by
  unfold fold
  rw [List.foldl_append]
  rfl
theorem fold_push (acc : List Tn) (r : Tn) : fold (push acc r) = push (fold acc) r := by
  rcases snoc_cases acc with rfl | ⟨i, t, rfl⟩
  · rfl
  · obtain ⟨th, tc⟩ := t
    obtain ⟨rh, rc⟩ := r
    by_cases e : th = rh
    · subst e
      rw [push_same, fold_snoc, fold_snoc, push_push]
    · rw [push_other _ _ _ e, fold_snoc]
theorem fold_foldl (rs : List Tn) : ∀ acc : List Tn, fold acc = acc → fold (rs.foldl push acc) = rs.foldl push acc := by
  induction rs with
  | nil => intro acc h; exact h
  | cons r rs ih =>
    intro acc h
    refine ih (push acc r) ?_
    rw [fold_push, h]
theorem fold_fold (rs : List Tn) : fold (fold rs) = fold rs := fold_foldl rs [] rfl
theorem fold_take (rs : List Tn) (i : Nat) (r : Tn) (h : rs[i]? = some r) : fold (rs.take (i + 1)) = push (fold (rs.take i)) r := by
  rw [List.take_add_one, h]
  exact fold_snoc _ _
/-! sizes -/
def tot (rs : List Tn) : Nat := (rs.map fun r => r.2.length).sum
theorem tot_app (a b : List Tn) : tot (a ++ b) = tot a + tot b := by
  unfold tot
  rw [List.map_append, List.sum_append]
theorem tot_one (r : Tn) : tot [r] = r.2.length := by
  show r.2.length + 0 = _
  omega
theorem tot_push (acc : List Tn) (r : Tn) : tot (push acc r) = tot acc + r.2.length := by
  rcases snoc_cases acc with rfl | ⟨i, t, rfl⟩
  · rw [push_nil, tot_one]
    show _ = 0 + _
    omega
  · obtain ⟨th, tc⟩ := t
    obtain ⟨rh, rc⟩ := r
    by_cases e : th = rh
    · subst e
      rw [push_same, tot_app, tot_app, tot_one, tot_one]
      show tot i + (tc ++ rc).length = tot i + tc.length + rc.length
      rw [List.length_append]
      omega
    · rw [push_other _ _ _ e, tot_app, tot_one]
theorem len_push (acc : List Tn) (r : Tn) : (push acc r).length ≤ acc.length + 1 := by
  rcases snoc_cases acc with rfl | ⟨i, t, rfl⟩
  · exact Nat.le_refl _
  · obtain ⟨th, tc⟩ := t
    obtain ⟨rh, rc⟩ := r
    by_cases e : th = rh
    · subst e
      rw [push_same, List.length_append, List.length_append]
      exact Nat.le_succ _
    · rw [push_other _ _ _ e, List.length_append]
      exact Nat.le_refl _
theorem tot_foldl (rs : List Tn) : ∀ acc, tot (rs.foldl push acc) = tot acc + tot rs := by
  induction rs with
  | nil => intro acc; rfl
  | cons r rs ih =>
    intro acc
    show tot (rs.foldl push (push acc r)) = _
    rw [ih, tot_push]
    show _ = tot acc + (r.2.length + tot rs)
    omega
theorem tot_fold (rs : List Tn) : tot (fold rs) = tot rs := by
  show tot (rs.foldl push []) = _
  rw [tot_foldl]
  show 0 + _ = _
  omega
theorem len_foldl (rs : List Tn) : ∀ acc, (rs.foldl push acc).length ≤ acc.length + rs.length := by
  induction rs with
  | nil => intro acc; exact Nat.le_refl _
  | cons r rs ih =>
    intro acc
    have h := ih (push acc r)
    have h2 := len_push acc r
    show (rs.foldl push (push acc r)).length ≤ acc.length + (rs.length + 1)
    omega
theorem len_fold (rs : List Tn) : (fold rs).length ≤ rs.length := by
  have h := len_foldl rs []
  show (rs.foldl push []).length ≤ _
  simpa using h
theorem tot_take_le (rs : List Tn) (i : Nat) : tot (rs.take i) ≤ tot rs := by
  have h := tot_app (rs.take i) (rs.drop i)
  rw [List.take_append_drop] at h
  omega
theorem tot_mem {rs : List Tn} {r : Tn} (h : r ∈ rs) : r.2.length ≤ tot rs := by
  induction rs with
  | nil => cases h
  | cons a rs ih =>
    show _ ≤ a.2.length + tot rs
    rcases List.mem_cons.mp h with e | e
    · rw [e]; omega
    · have := ih e; omega
/-- what is true of all values -/
def AllV (p : V → Prop) (rs : List Tn) : Prop := ∀ r ∈ rs, ∀ v ∈ r.2, p v
theorem AllV.push {p : V → Prop} {acc : List Tn} {r : Tn} (h : AllV p acc) (hr : ∀ v ∈ r.2, p v) : AllV p (push acc r) := by
  rcases snoc_cases acc with rfl | ⟨i, t, rfl⟩
  · intro q hq
    rw [push_nil] at hq
    rw [List.mem_singleton.mp hq]
    exact hr
  · obtain ⟨th, tc⟩ := t
    obtain ⟨rh, rc⟩ := r
    by_cases e : th = rh
    · subst e
      rw [push_same]
      intro q hq v hv
      rcases List.mem_append.mp hq with z | z
      · exact h q (List.mem_append_left _ z) v hv
      · rw [List.mem_singleton.mp z] at hv
        rcases List.mem_append.mp hv with y | y
        · exact h (th, tc) (List.mem_append_right _ (List.mem_singleton.mpr rfl)) v y
        · exact hr v y
    · rw [push_other _ _ _ e]
      intro q hq v hv
      rcases List.mem_append.mp hq with z | z
      · exact h q z v hv
      · rw [List.mem_singleton.mp z] at hv
        exact hr v hv
theorem AllV.foldl {p : V → Prop} (rs : List Tn) : ∀ acc, AllV p acc → AllV p rs → AllV p (rs.foldl PP.push acc) := by
  induction rs with
  | nil => intro acc h _; exact h
  | cons r rs ih =>
    intro acc h hr
    exact ih _ (h.push (hr r List.mem_cons_self)) fun q hq => hr q (List.mem_cons_of_mem _ hq)
theorem AllV.fold {p : V → Prop} {rs : List Tn} (h : AllV p rs) : AllV p (fold rs) := AllV.foldl rs [] (fun _ z => nomatch z) h
/-! ### turns in the heap -/
inductive Tns (H : Hp) : List (Addr × Addr) → List Tn → Prop
  | nil : Tns H [] []
  | cons {t : Addr × Addr} {r : Tn} {ts : List (Addr × Addr)} {rs : List Tn} : H t.1 = some (.tup [.int r.1, .ref t.2]) → H t.2 = some (.lst r.2) → Tns H ts rs → Tns H (t :: ts) (r :: rs)
theorem Tns.len {H : Hp} : ∀ {ts : List (Addr × Addr)} {rs : List Tn}, Tns H ts rs → ts.length = rs.length
  | _, _, .nil => rfl
  | _, _, .cons _ _ h => by rw [List.length_cons, List.length_cons, h.len]
theorem Tns.get {H : Hp} : ∀ {ts : List (Addr × Addr)} {rs : List Tn}, Tns H ts rs → ∀ {i : Nat} {r : Tn}, rs[i]? = some r → ∃ t, ts[i]? = some t ∧ H t.1 = some (.tup [.int r.1, .ref t.2]) ∧ H t.2 = some (.lst r.2)
  | _, _, .nil, _, _, e => by simp at e
  | _, _, .cons h1 h2 h, 0, r, e => by
    simp at e
    subst e
    exact ⟨_, rfl, h1, h2⟩
  | _, _, .cons h1 h2 h, i + 1, r, e => by
    obtain ⟨t, g, k⟩ := h.get (i := i) (r := r) (by simpa using e)
    exact ⟨t, by simpa using g, k⟩
theorem Tns.snoc {H : Hp} {t : Addr × Addr} {r : Tn} (h1 : H t.1 = some (.tup [.int r.1, .ref t.2])) (h2 : H t.2 = some (.lst r.2)) : ∀ {ts : List (Addr × Addr)} {rs : List Tn}, Tns H ts rs → Tns H (ts ++ [t]) (rs ++ [r])
  | _, _, .nil => .cons h1 h2 .nil
  | _, _, .cons g1 g2 g => .cons g1 g2 (g.snoc h1 h2)
theorem Tns.last {H : Hp} : ∀ {ts : List (Addr × Addr)} {i : List Tn} {r : Tn}, Tns H ts (i ++ [r]) → ∃ js t, ts = js ++ [t] ∧ Tns H js i ∧ H t.1 = some (.tup [.int r.1, .ref t.2]) ∧ H t.2 = some (.lst r.2)
  | _, [], r, .cons h1 h2 h => by
    cases h
    exact ⟨[], _, rfl, .nil, h1, h2⟩
  | _, x :: i, r, .cons h1 h2 h => by
    obtain ⟨js, t, e, g, k⟩ := Tns.last (i := i) (r := r) h
    exact ⟨_ :: js, t, by rw [e]; rfl, .cons h1 h2 g, k⟩
/-- where the heap is otherwise elsewhere alone -/
theorem Tns.keep {H H' : Hp} : ∀ {ts : List (Addr × Addr)} {rs : List Tn}, Tns H ts rs → (∀ t ∈ ts, H' t.1 = H t.1 ∧ H' t.2 = H t.2) → Tns H' ts rs
  | _, _, .nil, _ => .nil
  | _, _, .cons h1 h2 h, k => by
    have q := k _ List.mem_cons_self
    exact .cons (q.1.trans h1) (q.2.trans h2) (h.keep fun t m => k t (List.mem_cons_of_mem _ m))
theorem Tns.mem {H : Hp} {ts : List (Addr × Addr)} {rs : List Tn} (h : Tns H ts rs) {t : Addr × Addr} (m : t ∈ ts) : ∃ r ∈ rs, H t.1 = some (.tup [.int r.1, .ref t.2]) ∧ H t.2 = some (.lst r.2) := by
  obtain ⟨i, hi, e⟩ := List.getElem_of_mem m
  have hl : i < rs.length := by rw [← h.len]; exact hi
  obtain ⟨t2, g, k⟩ := h.get (List.getElem?_eq_getElem hl)
  rw [List.getElem?_eq_getElem hi, e] at g
  cases g
  exact ⟨_, List.getElem_mem hl, k⟩
theorem Tns.same {H H' : Hp} {ts : List (Addr × Addr)} {rs : List Tn} (h : Tns H ts rs) (s : Same H H') : Tns H' ts rs := h.keep fun t m => by
  obtain ⟨r, _, h1, h2⟩ := h.mem m
  exact ⟨(s _ _ h1).trans h1.symm, (s _ _ h2).trans h2.symm⟩
/-- a store at a place that is none of its lists -/
theorem Tns.put {H : Hp} {q : Addr} {xs : List V} {o : HO} {ts : List (Addr × Addr)} {rs : List Tn} (h : Tns H ts rs) (hq : H q = some (.lst xs)) (n : ∀ t ∈ ts, t.2 ≠ q) : Tns (upd H q o) ts rs := h.keep fun t m => by
  obtain ⟨r, _, h1, h2⟩ := h.mem m
  exact ⟨upd_ne (ne_of h1 hq (by intro z; cases z)), upd_ne (n t m)⟩
/-- a list of turns at p -/
def RaceAt (H : Hp) (p : Addr) (ts : List (Addr × Addr)) (rs : List Tn) : Prop := H p = some (.lst (ts.map fun t => V.ref t.1)) ∧ Tns H ts rs
theorem RaceAt.same {H H' : Hp} {p : Addr} {ts : List (Addr × Addr)} {rs : List Tn} (h : RaceAt H p ts rs) (s : Same H H') : RaceAt H' p ts rs := ⟨s _ _ h.1, h.2.same s⟩
theorem RaceAt.at {H : Hp} {p : Addr} {ts : List (Addr × Addr)} {rs : List Tn} (h : RaceAt H p ts rs) {i : Nat} {x : V} (e : (ts.map fun t => V.ref t.1)[i]? = some x) :
    ∃ (t : Addr × Addr) (r : Tn), x = .ref t.1 ∧ rs[i]? = some r ∧ H t.1 = some (.tup [.int r.1, .ref t.2]) ∧ H t.2 = some (.lst r.2) := by
  rw [List.getElem?_map] at e
  obtain ⟨t, g, rfl⟩ := Option.map_eq_some_iff.mp e
  have hi := (List.getElem?_eq_some_iff.mp g).1
  rw [h.2.len] at hi
  obtain ⟨t2, g2, k⟩ := h.2.get (List.getElem?_eq_getElem hi)
  rw [g] at g2
  cases g2
  exact ⟨t, _, rfl, List.getElem?_eq_getElem hi, k⟩
theorem scPut : FnScope ["run", "turns", "hand", "choices"] ["run"] (defScope s_put_together) := ⟨rfl, rfl, rfl, by decide +kernel, rfl, by decide +kernel, by decide +kernel⟩
/-- new turns: none of them was there -/
def New (H : Hp) (p : Addr) (us : List (Addr × Addr)) : Prop := ∀ t ∈ us, H t.1 = none ∧ H t.2 = none ∧ t.2 ≠ p
theorem map_snoc (us : List (Addr × Addr)) (t : Addr × Addr) : ((us ++ [t]).map fun t => V.ref t.1) = (us.map fun t => V.ref t.1) ++ [.ref t.1] := by
  rw [List.map_append]
  rfl
section
variable {P : Program} {w : World} {K : PySem.W.Frag} {mg : Str → Option Value} {base : Heap}
def spPut : Sp := fun vs H Q _ => ∃ (a : Addr) (ts : List (Addr × Addr)) (rs : List Tn), vs = [.ref a] ∧ RaceAt H a ts rs ∧ rs.length ≤ 1000 ∧ tot rs ≤ 1000 ∧
  ∀ (H' : Hp) (p : Addr) (us : List (Addr × Addr)), Same H H' → H p = none → RaceAt H' p us (fold rs) → New H p us → Q (.ref p) H'
theorem ok_put {f : Addr} {fd : FuncData} {k : Nat} (F : Fun K "put_together" "put_together" s_put_together f fd) (ml : mg "list" = none) : FnOk P w K mg base CX0 (k + 1) f fd ["run"] spPut := by
  refine F.ok scPut (fun vs H Q E h => ?_) (fun cdv A outer s H vs Q E hr h => ?_)
  · obtain ⟨a, ts, rs, rfl, _⟩ := h
    rfl
  · obtain ⟨a, ts, rs, rfl, hR, hl, ht, q⟩ := h
    have nd := scPut.nd
    refine ⟨_, pss_cons (ps_set (i := 1) nd rfl (.inl rfl) (pe_lst pa_nil))
      (pss_cons (ps_for PassesOwn.never rfl (pi_list (pv 0)) (pg_tup rfl (pgs_cons (pg_name (i := 2) nd rfl (.inl rfl)) (pgs_cons (pg_name (i := 3) nd rfl (.inl rfl)) pgs_nil)))
        (pss_one (ps_if (PW.pt (pw_and (pt_truth (pv 1) (fun _ => rfl)) (pw_and1 (pt_cmpR op_eq (pe_ix ix_tup (pe_ix ix_list (pv 1) (pe_un un_neg pe_int) (fun _ _ => rfl)) pe_int (fun _ _ => rfl)) (pv 2) (nomark _)))))
          (pss_one (ps_expr (pe_bm PySem.F.plainAttrs_list PySem.F.slot_list_extend PySem.F.type_list_extend mt_extend (pe_ix ix_tup (pe_ix ix_list (pv 1) (pe_un un_neg pe_int) (fun _ _ => rfl)) pe_int (fun _ _ => rfl)) (pa_cons (pv 3) pa_nil))))
          (pss_one (ps_expr (pe_bm PySem.F.plainAttrs_list PySem.F.slot_list_append PySem.F.type_list_append mt_append (pv 1) (pa_cons (pe_tup (pa_cons (pv 2) (pa_cons (pe_callTy call_list_of (by rfl) ml (by decide +kernel) (pa_cons (pv 3) pa_nil)) pa_nil))) pa_nil)))))))
      (pss_one (ps_ret (pv 1)))), ?_⟩
    refine ⟨Nat.zero_le _, fun o no => ?_⟩
    have s1 : Same H (upd H o (.lst [])) := same_new no
    refine ⟨.ref a, rfl, a, rfl, ⟨_, SqL.of (s1 _ _ hR.1)⟩, for_list (xs := ts.map fun t => V.ref t.1)
      (fun i σ H3 => ∃ y2 y3 us, σ = [some (.ref a), some (.ref o), y2, y3] ∧ Same H H3 ∧ RaceAt H3 o us (fold (rs.take i)) ∧ New H o us ∧ (us.map (·.2)).Nodup)
      ⟨none, none, [], rfl, s1, ⟨upd_same, .nil⟩, fun _ z => (nomatch z), List.nodup_nil⟩ (fun i σ H3 _ hP => ?_) (fun i x σ H3 hx hP => ?_) (fun σ H3 hP => ?_)⟩
    · obtain ⟨_, _, _, _, sm, _⟩ := hP
      exact SqL.of (sm _ _ hR.1)
    · obtain ⟨y2, y3, us, rfl, sm, ⟨ho, hT⟩, hN, hD⟩ := hP
      obtain ⟨t, r, rfl, hr1, g1, g2⟩ := (hR.same sm).at hx
      have hfold := fold_take rs i r hr1
      have hrl : r.2.length ≤ tot rs := tot_mem (List.mem_of_getElem? hr1)
      have htl : tot (fold (rs.take i)) ≤ 1000 := by
        rw [tot_fold]
        exact Nat.le_trans (tot_take_le rs i) ht
      have hll : (fold (rs.take i)).length ≤ 1000 := Nat.le_trans (len_fold _) (by rw [List.length_take]; omega)
      have hlen := hT.len
      -- a new turn
      have app : ∀ (y : Int), y = r.1 → push (fold (rs.take i)) r = fold (rs.take i) ++ [r] → (tDrop (tBM K "list" rAppend (tVar 1) (tCons (tTup (tCons (tVar 2) (tCons (tCB (fun xs H Q => ∃ p ys, xs = [.ref p] ∧ (SqL K H p ys ∨ SqT K H p ys) ∧ ∀ l, H l = none → Q (.ref l) (upd H l (.lst ys))) (tCons (tVar 3) tNil)) tNil))) tNil)))
          { nx := (fun σ H3 => ∃ y2 y3 us, σ = [some (.ref a), some (.ref o), y2, y3] ∧ Same H H3 ∧ RaceAt H3 o us (fold (rs.take (i + 1))) ∧ New H o us ∧ (us.map (·.2)).Nodup), ct := (fun _ _ => False), bk := (fun _ _ => False), rt := Q } [some (.ref a), some (.ref o), some (.int y), some (.ref t.2)] H3 := by
        intro y hy hp
        subst hy
        refine ⟨_, rfl, .inl ⟨rfl, _, SqL.of ho⟩, _, rfl, _, rfl, t.2, _, rfl, .inl (SqL.of g2), fun c nc => ⟨by show 2 ≤ sizeLine; decide, fun d ndd => ?_⟩⟩
        have hdc : d ≠ c := fun e => by
          rw [e, upd_same] at ndd
          cases ndd
        have nd3 : H3 d = none := by
          rw [upd_ne hdc] at ndd
          exact ndd
        have hoc : o ≠ c := ne_of_none ho nc
        have hod : o ≠ d := ne_of_none ho nd3
        have s2 : Same H3 (upd (upd H3 c (.lst r.2)) d (.tup [.int r.1, .ref c])) := same_put (same_new nc) nd3
        have ho2 := s2 _ _ ho
        refine ⟨o, _, _, rfl, rfl, ho2, ?_, some (.int r.1), some (.ref t.2), us ++ [(d, c)], rfl, ?_, ⟨?_, ?_⟩, ?_, ?_⟩
        · rw [List.length_map]
          exact small1000 (by omega)
        · exact same_put (sm.trans s2) no
        · rw [map_snoc]
          exact upd_same
        · rw [hfold, hp]
          have hT2 : Tns (upd (upd H3 c (.lst r.2)) d (.tup [.int r.1, .ref c])) (us ++ [(d, c)]) (fold (rs.take i) ++ [r]) := Tns.snoc (t := (d, c)) (r := r) upd_same (by show upd _ d _ c = _; rw [upd_ne hdc.symm]; exact upd_same) (hT.same s2)
          refine hT2.put ho2 fun z hz => ?_
          rcases List.mem_append.mp hz with m | m
          · exact (hN z m).2.2
          · rw [List.mem_singleton.mp m]
            exact hoc.symm
        · intro z hz
          rcases List.mem_append.mp hz with m | m
          · exact hN z m
          · rw [List.mem_singleton.mp m]
            exact ⟨same_none sm nd3, same_none sm nc, hoc.symm⟩
        · rw [List.map_append, List.nodup_append]
          refine ⟨hD, List.nodup_cons.mpr ⟨List.not_mem_nil, List.nodup_nil⟩, fun b hb b' hb' => ?_⟩
          rw [List.mem_singleton.mp hb']
          obtain ⟨z, hz, rfl⟩ := List.mem_map.mp hb
          obtain ⟨_, _, _, hz2⟩ := hT.mem hz
          exact ne_of_none hz2 nc
      refine ⟨t.1, _, rfl, SqT.of g1, rfl, _, _, rfl, _, _, rfl, rfl, ?_⟩
      refine ⟨_, rfl, _, .inl ⟨_, SqL.of ho, rfl⟩, ?_⟩
      rcases snoc_cases (fold (rs.take i)) with e0 | ⟨ini, lt, e0⟩
      · rw [e0] at hT
        cases hT
        refine iteF (iteF ?_)
        exact app r.1 rfl (by rw [e0]; rfl)
      · obtain ⟨th, tc⟩ := lt
        rw [e0] at hT
        obtain ⟨js, u, rfl, hJ, u1, u2⟩ := hT.last
        have ho1 := ho
        rw [map_snoc] at ho
        have hne : (!((js ++ [u]).map fun t => V.ref t.1).isEmpty) = true := by
          rw [map_snoc]
          cases js <;> rfl
        rw [hne]
        refine iteT ⟨_, rfl, 1, rfl, o, _, -1, _, rfl, rfl, SqL.of ho, atI_last _ _, u.1, _, 0, _, rfl, rfl, SqT.of u1, atI_nat (j := 0) rfl, _, rfl, rfl, _, rfl, ite2 (fun e => ?_) (fun e => ?_)⟩
        · have eh : th = r.1 := V.int.inj (of_decide_eq_true e)
          obtain ⟨rh, rc⟩ := r
          subst eh
          have hcl : tc.length ≤ 1000 := Nat.le_trans (tot_mem (r := (th, tc)) (by rw [e0]; exact List.mem_append_right _ (List.mem_singleton.mpr rfl))) htl
          have hrc : rc.length ≤ 1000 := Nat.le_trans hrl ht
          have hu := hN u (List.mem_append_right _ (List.mem_singleton.mpr rfl))
          refine ⟨_, rfl, 1, rfl, o, _, -1, _, rfl, rfl, SqL.of ho, atI_last _ _, u.1, _, 1, _, rfl, rfl, SqT.of u1, atI_nat (j := 1) rfl, .inl ⟨rfl, _, SqL.of u2⟩, _, rfl, u.2, t.2, tc, rc, rfl, rfl, u2, g2, ?_, ?_⟩
          · exact Nat.le_trans (Nat.add_le_add hcl hrc) (by decide)
          · refine ⟨some (.int th), some (.ref t.2), js ++ [u], rfl, same_put sm hu.2.1, ⟨?_, ?_⟩, hN, hD⟩
            · rw [upd_ne (fun z => hu.2.2 z.symm)]
              exact ho1
            · rw [hfold, e0, push_same]
              have hJ2 : Tns (upd H3 u.2 (.lst (tc ++ rc))) js ini := hJ.put u2 fun z hz e2 => by
                rw [List.map_append, List.nodup_append] at hD
                exact hD.2.2 z.2 (List.mem_map_of_mem hz) u.2 (List.mem_singleton.mpr rfl) e2
              refine Tns.snoc (t := u) (r := (th, tc ++ rc)) ?_ upd_same hJ2
              rw [upd_ne (ne_of u1 u2 (by intro z; cases z))]
              exact u1
        · have eh : (th, tc).1 ≠ r.1 := fun z => e (decide_eq_true (congrArg V.int z))
          exact app r.1 rfl (by rw [e0]; exact push_other _ _ _ eh)
    · obtain ⟨y2, y3, us, rfl, sm, hU, hN, _⟩ := hP
      have et : rs.take (ts.map fun t => V.ref t.1).length = rs := List.take_of_length_le (by rw [List.length_map, hR.2.len]; exact Nat.le_refl _)
      rw [et] at hU
      exact ⟨_, rfl, q H3 o us sm no hU hN⟩
end
end PP

set_option maxHeartbeats 4000000
namespace PP
open PySem PySem.Spec PyProof.Rows L2 G3 G4 M0 PA
abbrev nWithin : List Str := ["limit", "run", "turns", "counts", "hand", "turn"]
theorem scWithin : FnScope nWithin ["limit", "run"] (defScope s_is_within) := ⟨rfl, rfl, rfl, by decide +kernel, rfl, by decide +kernel, by decide +kernel⟩
section
variable {P : Program} {w : World} {K : PySem.W.Frag} {mg : Str → Option Value} {base : Heap}
def spWithin (K : PySem.W.Frag) : Sp := fun vs H Q _ => ∃ (v : V) (a : Addr) (ts : List (Addr × Addr)) (rs : List Tn) (l : Lim), vs = [v, .ref a] ∧ Dp K H v (limD l) ∧ RaceAt H a ts rs ∧ rs.length ≤ 1000 ∧ tot rs ≤ 1000 ∧ l.2.length ≤ 100 ∧
  ∀ H', Same H H' → Q (.bl (coversB l (some (((fold rs).length : Nat) : Int), (List.range l.2.length).map fun h : Nat => (some ((((fold rs).filter fun r => decide (r.1 = (h : Int))).length : Nat) : Int) : Num)))) H'
set_option maxHeartbeats 8000000 in
theorem ok_within {f : Addr} {fd : FuncData} {k : Nat} (F : Fun K "is_within" "is_within" s_is_within f fd) (U : Def P w K mg base CX0 (k + 1) "put_together" ["run"] spPut) (C : Def P w K mg base CX0 (k + 1) "covers" ["one", "other"] (spCovers K)) (ml : mg "len" = none) (mr : mg "range" = none) (mt : mg "tuple" = none) : FnOk P w K mg base CX0 (k + 1 + 1) f fd ["limit", "run"] (spWithin K) := by
  refine F.ok scWithin (fun vs H Q E h => ?_) (fun cdv A outer s H vs Q E hr h => ?_)
  · obtain ⟨v, a, ts, rs, l, rfl, _⟩ := h
    rfl
  obtain ⟨v, a, ts, rs, l, rfl, hv, hR, hl, ht, hl2, q⟩ := h
  have nd := scWithin.nd
  refine ⟨_, pss_cons (ps_set (i := 2) nd rfl (.inr rfl) (pe_call U.ok hr (by rfl) U.g U.kp U.b .nil pass0 (pa_cons (pv 1) pa_nil)))
    (pss_cons (ps_setLc (i := 3) (own := [("hand", 4)]) (g := gName 4) (tt := tYes) (by rfl) nd rfl rfl (sw_true rfl rfl rfl (by decide +kernel)) (pi_range1 (by rfl) mr (pa_cons (pe_callB call_len_seq (by rfl) ml PySem.boot_len (pa_cons (pe_ix ix_tup (pv 0) pe_int (fun _ _ => rfl)) pa_nil)) pa_nil))
        (blkOk_by (N := nWithin) (sc := defScope s_is_within) (by decide +kernel)) (fun _ _ _ _ _ => pg_name (i := 4) nd rfl (.inr rfl)) (fun _ _ _ _ _ => pts_nil)
        (fun _ _ _ _ _ => pe_callB (r := fun xs H Q => ∃ p ys, xs = [.ref p] ∧ (SqL K H p ys ∨ SqT K H p ys) ∧ Q (.int ys.length) H) call_len_seq (by rfl) ml PySem.boot_len (pa_cons (pe_lc (wi := iList K (tVar 2)) (own := [("turn", 5)]) (g := gName 5) (by rfl) nd (pi_list (pv 2))
          (blkOk_by (N := nWithin) (sc := { kind := .function, names := [(".0", .local), ("hand", .cell), ("len", .globalImplicit), ("turns", .cell)], isGenerator := false, isCoroutine := false }) (by decide +kernel)) (fun _ _ _ _ _ => pg_name (i := 5) nd rfl (.inl rfl)) (fun _ _ _ _ _ => pts_one (pt_cmpR op_eq (pe_ix (r := rIxT K) ix_tup (pv 5) pe_int (fun _ _ => rfl)) (pv 4) (nomark _))) (fun _ _ _ _ _ => pv 5)) pa_nil)))
    (pss_one (ps_ret (pe_call C.ok hr (by rfl) C.g C.kp C.b .nil pass0 (pa_cons (pv 0) (pa_cons (pe_tup (pa_cons (pe_callB call_len_seq (by rfl) ml PySem.boot_len (pa_cons (pv 2) pa_nil)) (pa_cons (pe_callTy call_tuple_of (by rfl) mt (by decide +kernel) (pa_cons (pv 3) pa_nil)) pa_nil))) pa_nil)))))), ?_⟩
  obtain ⟨va, x1, x2, rfl, hva, d1, d2⟩ := dp2 hv
  obtain ⟨xa, xs, rfl, hxa, hxs⟩ := dp_tup d2
  have hxl : xs.length = l.2.length := by rw [dpAll_len hxs, List.length_map]
  refine ⟨_, rfl, a, ts, rs, rfl, hR, hl, ht, fun H1 o us s1 no hR1 hN => ?_⟩
  have fl := len_fold rs
  refine ⟨_, rfl, va, _, 1, _, rfl, rfl, same_tup s1 hva, atI_nat (j := 1) rfl, xa, _, rfl, .inr (same_tup s1 hxa), _, rfl, by omega, by omega, fun D nD => ?_⟩
  refine lc_range (n := ((xs.length : Nat) : Int).toNat) (fun j G => Same H1 G ∧ G D = some (.lst ((List.range j).map fun h : Nat => V.int ((((fold rs).filter fun r => decide (r.1 = (h : Int))).length : Nat) : Int))))
    ⟨same_new nD, upd_same⟩ (fun j G hj hQ => ?_) (fun G hQ => ?_)
  · obtain ⟨sG, hD⟩ := hQ
    refine ⟨rfl, ?_⟩
    dsimp only [tYes]
    rw [if_pos rfl]
    have hRG := hR1.same sG
    refine ⟨_, rfl, o, rfl, ⟨_, SqL.of hRG.1⟩, fun D2 nD2 => ?_⟩
    refine lc_it (walk_list (a := o) (xs := us.map fun t => V.ref t.1) (K := K)) (fun i G2 => Same G G2 ∧ ∃ acc : List V, G2 D2 = some (.lst acc) ∧ acc.length = (((fold rs).take i).filter fun r => decide (r.1 = (j : Int))).length)
      ⟨same_new nD2, [], upd_same, rfl⟩ (fun i G2 _ h => SqL.of (h.1 _ _ hRG.1)) (fun i x G2 G3 hi h y => ?_) (fun G2 h => ?_)
    · obtain ⟨sG2, acc, hacc, hal⟩ := h
      obtain ⟨rfl, ex⟩ := y
      obtain ⟨t, r, rfl, hr1, g1, g2⟩ := (hRG.same sG2).at ex
      have tk : (fold rs).take (i + 1) = (fold rs).take i ++ [r] := by rw [List.take_succ, hr1]; rfl
      refine ⟨rfl, ?_⟩
      refine ⟨_, rfl, t.1, _, 0, _, rfl, rfl, SqT.of g1, atI_nat (j := 0) rfl, _, rfl, rfl, _, rfl, ite2 (fun e => ?_) (fun e => ?_)⟩
      · have e1 : decide (r.1 = (j : Int)) = true := decide_eq_true (by have z := V.int.inj (of_decide_eq_true e); omega)
        have al := List.length_filter_le (fun r : Tn => decide (r.1 = (j : Int))) ((fold rs).take i)
        rw [List.length_take] at al
        refine ⟨_, rfl, acc, hacc, LC.small_line (by omega), same_put sG2 nD2, _, upd_same, ?_⟩
        rw [tk, List.filter_append, List.length_append, List.length_append, hal, List.filter_cons_of_pos (p := fun r : Tn => decide (r.1 = (j : Int))) e1]
        rfl
      · have e1 : ¬ decide (r.1 = (j : Int)) = true := fun z => e (decide_eq_true (congrArg V.int (by have z2 := of_decide_eq_true z; omega)))
        refine ⟨sG2, acc, hacc, ?_⟩
        rw [tk, List.filter_append, List.length_append, hal, List.filter_cons_of_neg (p := fun r : Tn => decide (r.1 = (j : Int))) e1]
        rfl
    · obtain ⟨sG2, acc, hacc, hal⟩ := h
      rw [List.length_map, hRG.2.len, List.take_length] at hal
      refine ⟨D2, acc, rfl, .inl (SqL.of hacc), _, sG2 _ _ hD, ?_, same_put (sG.trans sG2) nD, ?_⟩
      · rw [List.length_map, List.length_range]
        exact LC.small_line (by omega)
      · rw [upd_same, List.range_succ, List.map_append, hal]
        rfl
  · obtain ⟨sG, hD⟩ := hQ
    refine ⟨_, rfl, _, rfl, o, _, rfl, .inl (SqL.of (sG _ _ hR1.1)), _, rfl, D, _, rfl, .inl ⟨SqL.of hD, fun t nt => ⟨lz2, fun t2 nt2 => ?_⟩⟩⟩
    have s3 := same_new (o := .tup ((List.range ((xs.length : Nat) : Int).toNat).map fun h : Nat => V.int ((((fold rs).filter fun r => decide (r.1 = (h : Int))).length : Nat) : Int))) nt
    have s4 := same_new (o := .tup [.int (((us.map fun t => V.ref t.1).length : Nat) : Int), .ref t]) nt2
    have sH := (s1.trans sG).trans (s3.trans s4)
    have eu : (us.map fun t => V.ref t.1).length = (fold rs).length := by rw [List.length_map, hR1.2.len]
    have en : ((xs.length : Nat) : Int).toNat = l.2.length := by omega
    refine ⟨_, _, l, (some (((fold rs).length : Nat) : Int), (List.range l.2.length).map fun h : Nat => (some ((((fold rs).filter fun r => decide (r.1 = (h : Int))).length : Nat) : Int) : Num)), rfl, dp_same sH _ _ (.tup hva (.cons d1 (.cons d2 .nil))), ?_, hl2, fun H' s' => q _ (sH.trans s')⟩
    refine .tup (SqT.of upd_same) (.cons ?_ (.cons (.tup (same_tup s4 (SqT.of upd_same)) ?_) .nil))
    · rw [eu]
      exact .int _
    · rw [en, List.map_map]
      exact dpAll_map (f := fun h : Nat => V.int ((((fold rs).filter fun r => decide (r.1 = (h : Int))).length : Nat) : Int)) _ fun h _ => .int _
end
end PP

set_option maxHeartbeats 4000000
namespace PP
open PySem PySem.Spec PyProof.Rows L2 G3 G4 M0 PA
abbrev nLCounts : List Str := ["_law_race", "_law_found", "_law_who", "_law_picks"]
theorem scLCounts : FnScope nLCounts ["_law_race"] (defScope s_law_counts) := ⟨rfl, rfl, rfl, by decide +kernel, rfl, by decide +kernel, by decide +kernel⟩
def pushI (acc : List Int) (h : Int) : List Int := if acc.getLast? = some h then acc else acc ++ [h]
/-- whose turns come one behind the other -/
def counts (rs : List Tn) : List Int := (rs.map (·.1)).foldl pushI []
theorem push_fst (acc : List Tn) (r : Tn) : (push acc r).map (·.1) = pushI (acc.map (·.1)) r.1 := by
  rcases snoc_cases acc with rfl | ⟨i, t, rfl⟩
  · rfl
  · obtain ⟨th, tc⟩ := t
    obtain ⟨rh, rc⟩ := r
    unfold pushI
    rw [List.map_append, List.map_cons, List.map_nil, List.getLast?_concat]
    by_cases e : th = rh
    · subst e
      rw [push_same, if_pos rfl, List.map_append]
      rfl
    · rw [push_other _ _ _ e, if_neg (fun z => e (Option.some.inj z)), List.map_append, List.map_append]
      rfl
theorem foldl_fst (rs : List Tn) : ∀ acc : List Tn, (rs.foldl push acc).map (·.1) = (rs.map (·.1)).foldl pushI (acc.map (·.1)) := by
  induction rs with
  | nil => intro acc; rfl
  | cons r rs ih =>
    intro acc
    show (rs.foldl push (push acc r)).map (·.1) = _
    rw [ih, push_fst]
    rfl
theorem fold_fst (rs : List Tn) : (fold rs).map (·.1) = counts rs := foldl_fst rs []
theorem counts_len (rs : List Tn) : (counts rs).length = (fold rs).length := by rw [← fold_fst, List.length_map]
theorem counts_count (rs : List Tn) (h : Int) : (counts rs).count h = ((fold rs).filter fun r => decide (r.1 = h)).length := by
  rw [← fold_fst, List.count_eq_countP, List.countP_map, List.countP_eq_length_filter]
  congr 1
theorem counts_take (rs : List Tn) (i : Nat) (r : Tn) (h : rs[i]? = some r) : counts (rs.take (i + 1)) = pushI (counts (rs.take i)) r.1 := by
  unfold counts
  rw [List.take_add_one, h, List.map_append, List.foldl_append]
  rfl
theorem cut_last (xs : List V) (x : V) : cutV (xs ++ [x]) (some (-1)) none = [x] := by
  unfold cutV
  have e : HT.sIx (xs ++ [x]).length 0 (some (-1)) = xs.length := by
    have e1 : HT.sIx (xs ++ [x]).length 0 (some (-1)) = ((-1 : Int) + ((xs ++ [x]).length : Int)).toNat := rfl
    have e2 : (xs ++ [x]).length = xs.length + 1 := by rw [List.length_append]; rfl
    rw [e1, e2]
    omega
  rw [e, HT.sIx_none, List.drop_left, List.length_append]
  show List.take (xs.length + 1 - xs.length) [x] = [x]
  rw [Nat.add_sub_cancel_left]
  rfl
theorem one_shaped (i : Int) : SeqAt.shaped (.list [.int i]) = true := by
  unfold SeqAt.shaped
  simp [PyData.canLay0, PyData.canLayAll0, PyData.depth, PyData.depthAll]
section
variable {P : Program} {w : World} {K : PySem.W.Frag} {mg : Str → Option Value} {base : Heap}
def spLCounts : Sp := fun vs H Q _ => ∃ (a : Addr) (ts : List (Addr × Addr)) (rs : List Tn), vs = [.ref a] ∧ RaceAt H a ts rs ∧ rs.length ≤ 1000 ∧
  ∀ (H' : Hp) (o : Addr), Same H H' → H o = none → H' o = some (.lst ((counts rs).map V.int)) → Q (.ref o) H'
set_option maxHeartbeats 8000000 in
theorem ok_lcounts {f : Addr} {fd : FuncData} {k : Nat} (F : Fun K "_law_counts" "_law_counts" s_law_counts f fd) : FnOk P w K mg base CX0 (k + 1) f fd ["_law_race"] spLCounts := by
  refine F.ok scLCounts (fun vs H Q E h => ?_) (fun cdv A outer s H vs Q E hr h => ?_)
  · obtain ⟨a, ts, rs, rfl, _⟩ := h
    rfl
  obtain ⟨a, ts, rs, rfl, hR, hl, q⟩ := h
  have nd := scLCounts.nd
  refine ⟨_, pss_cons (ps_set (i := 1) nd rfl (.inl rfl) (pe_lst pa_nil))
    (pss_cons (ps_for PassesOwn.never rfl (pi_list (pv 0)) (pg_tup rfl (pgs_cons (pg_name (i := 2) nd rfl (.inl rfl)) (pgs_cons (pg_name (i := 3) nd rfl (.inl rfl)) pgs_nil)))
      (pss_one (ps_if (pt_cmpR (op_neD hr.units) (pe_slice sl_list (pv 1) (po_some (pe_un un_neg pe_int)) po_none) (pe_lst (pa_cons (pv 2) pa_nil)) (nomark _))
        (pss_one (ps_expr (pe_bm PySem.F.plainAttrs_list PySem.F.slot_list_append PySem.F.type_list_append mt_append (pv 1) (pa_cons (pv 2) pa_nil)))) pss_nil)))
    (pss_one (ps_ret (pv 1)))), ?_⟩
  refine ⟨Nat.zero_le _, fun o no => ?_⟩
  have s1 : Same H (upd H o (.lst [])) := same_new no
  refine ⟨.ref a, rfl, a, rfl, ⟨_, SqL.of (s1 _ _ hR.1)⟩, for_list (xs := ts.map fun t => V.ref t.1)
    (fun i σ H3 => ∃ y2 y3, σ = [some (.ref a), some (.ref o), y2, y3] ∧ Same H H3 ∧ H3 o = some (.lst ((counts (rs.take i)).map V.int)))
    ⟨none, none, rfl, s1, upd_same⟩ (fun i σ H3 _ hP => ?_) (fun i x σ H3 hx hP => ?_) (fun σ H3 hP => ?_)⟩
  · obtain ⟨_, _, _, sm, _⟩ := hP
    exact SqL.of (sm _ _ hR.1)
  · obtain ⟨y2, y3, rfl, sm, ho⟩ := hP
    obtain ⟨t, r, rfl, hr1, g1, g2⟩ := (hR.same sm).at hx
    have hc := counts_take rs i r hr1
    have hcl : (counts (rs.take i)).length ≤ 1000 := by
      rw [counts_len]
      refine Nat.le_trans (len_fold _) ?_
      rw [List.length_take]
      omega
    refine ⟨t.1, _, rfl, SqT.of g1, rfl, _, _, rfl, _, _, rfl, rfl, ?_⟩
    refine ⟨_, rfl, 1, rfl, -1, rfl, ?_⟩
    unfold tNoPart
    refine ⟨o, _, rfl, SqL.of ho, fun c nc => ⟨_, rfl, lz1, fun d ndd => ?_⟩⟩
    have s2 : Same H3 (upd H3 c (.lst (cutV ((counts (rs.take i)).map V.int) (some (-1)) none))) := same_new nc
    have s3 := same_new (o := .lst [.int r.1]) ndd
    have ho3 := s3 _ _ (s2 _ _ ho)
    have hc3 := s3 c _ upd_same
    have sm3 : Same H _ := sm.trans (s2.trans s3)
    have hd3 : upd (upd H3 c (.lst (cutV ((counts (rs.take i)).map V.int) (some (-1)) none))) d (.lst [.int r.1]) d = some (.lst [.int r.1]) := upd_same
    generalize upd (upd H3 c (.lst (cutV ((counts (rs.take i)).map V.int) (some (-1)) none))) d (.lst [.int r.1]) = H4 at ho3 hc3 sm3 hd3 ⊢
    rcases snoc_cases (counts (rs.take i)) with e0 | ⟨ini, lt, e0⟩
    · rw [e0] at hc3 ho3 hc
      refine ⟨.list [], .list [.int r.1], .lst (SqL.of hc3) .nil, .lst (SqL.of hd3) (.cons (.int _) .nil), nilL_shaped, one_shaped _, _, rfl, ?_⟩
      rw [show (!PyData.eqv (.list []) (.list [.int r.1])) = true by simp [PyData.eqv, PyData.eqvAll]]
      refine iteT ⟨_, rfl, .inl ⟨rfl, _, SqL.of ho3⟩, _, rfl, o, _, _, rfl, rfl, ho3, by show 0 < sizeLine; decide, _, _, rfl, same_put sm3 no, ?_⟩
      rw [upd_same, hc]
      rfl
    · have hc4 : H4 c = some (.lst [.int lt]) := by
        rw [e0, List.map_append, List.map_cons, List.map_nil, cut_last] at hc3
        exact hc3
      refine ⟨.list [.int lt], .list [.int r.1], .lst (SqL.of hc4) (.cons (.int _) .nil), .lst (SqL.of hd3) (.cons (.int _) .nil), one_shaped _, one_shaped _, _, rfl, ?_⟩
      by_cases e : lt = r.1
      · rw [show (!PyData.eqv (.list [.int lt]) (.list [.int r.1])) = false by rw [e]; simp [PyData.eqv, PyData.eqvAll]]
        refine iteF ⟨_, _, rfl, sm3, ?_⟩
        rw [hc, e0]
        unfold pushI
        rw [List.getLast?_concat, if_pos (by rw [e]), ← e0]
        exact ho3
      · rw [show (!PyData.eqv (.list [.int lt]) (.list [.int r.1])) = true by simp [PyData.eqv, PyData.eqvAll, e]]
        refine iteT ⟨_, rfl, .inl ⟨rfl, _, SqL.of ho3⟩, _, rfl, o, _, _, rfl, rfl, ho3, ?_, _, _, rfl, same_put sm3 no, ?_⟩
        · rw [List.length_map]
          exact LC.small_line (by omega)
        · rw [upd_same, hc, e0]
          unfold pushI
          rw [List.getLast?_concat, if_neg (fun z => e (Option.some.inj z)), List.map_append (l₂ := [r.1])]
          rfl
  · obtain ⟨y2, y3, rfl, sm, ho⟩ := hP
    have et : rs.take (ts.map fun t => V.ref t.1).length = rs := List.take_of_length_le (by rw [List.length_map, hR.2.len]; exact Nat.le_refl _)
    rw [et] at ho
    exact ⟨_, rfl, q H3 o sm no ho⟩
end
end PP

set_option maxHeartbeats 4000000
/-! list(zip(t, u)) of two tuples -/
namespace ZL
open PySem RZ
section
variable {prog : Program} {w : World} {A : Around} {E : Value → Shared → Prop} {s : Shared}
/-- its last pair stands somewhere -/
abbrev IsZipO (h : Heap) (z TI TO a : Addr) (f : Bool) : Prop :=
  h.get? z = some { cls := .type "zip", dict := none, data := .fields #[rawInt a, .bool f, .bool false, .ref TI, .ref TO], slots := #[] }
theorem out_item {z TI TO i1 i2 l1 l2 a : Addr} {f : Bool} {oa : Obj} {k1 k2 : Nat} {xs ys : Array Value} {x y : Value} {Q : Value → Shared → Prop} (D : ZipApart z TI TO i1 i2 l1 l2)
    (hz : IsZipO s.heap z TI TO a f) (ha : s.heap.get? a = some oa) (hTI : IsPair s.heap TI (.ref i1) (.ref i2))
    (h1 : s.heap.IsTupleIter i1 l1 k1) (h2 : s.heap.IsTupleIter i2 l2 k2) (hl1 : s.heap.IsTuple l1 xs) (hl2 : s.heap.IsTuple l2 ys) (hx : xs[k1]? = some x) (hy : ys[k2]? = some y)
    (hQ : ∀ h', IsZipO h' z TI TO a true → h'.IsTupleIter i1 l1 (k1 + 1) → h'.IsTupleIter i2 l2 (k2 + 1) → IsPair h' s.heap.objs.size x y → h'.objs.size = s.heap.objs.size + 1 →
      (∀ c o, c ≠ z → c ≠ i1 → c ≠ i2 → s.heap.get? c = some o → h'.get? c = some o) → Q (.ref s.heap.objs.size) { s with heap := h' }) :
    wpAny (model prog w) A (Builtin.«zip.__next__» ⟨[.ref z], []⟩) (fun fin s' => ∃ v, fin = .done (.ret v) ∧ Q v s') E s := by
  show wpAny _ _ (field (.ref z) 2 >>= _) _ _ _
  refine wpAny_bind (wpAny_field hz rfl (x := .bool false) rfl ?_)
  show wpAny _ _ (field (.ref z) 3 >>= _) _ _ _
  refine wpAny_bind (wpAny_field hz rfl (x := .ref TI) rfl ?_)
  refine wpAny_bind (wpAny_seqItems hTI rfl ?_)
  show wpAny _ _ (Builtin.SmallTypes.ownedTupleIsFree (.ref z) >>= _) _ _ _
  refine wpAny_bind ?_
  unfold Builtin.SmallTypes.ownedTupleIsFree
  refine wpAny_bind (wpAny_field hz rfl (x := rawInt a) rfl ?_)
  show wpAny _ _ (loadIfAlive ((a : Int).toNat) >>= _) _ _ _
  rw [Int.toNat_natCast]
  refine wpAny_bind (PySem.W.kdx_alive ha ?_)
  simp only [Option.isNone_some, Bool.false_eq_true, if_false]
  refine wpAny_bind (wpAny_field hz rfl (x := .bool f) rfl ?_)
  have go : ∀ {Q' : Bool → Shared → Prop}, (∀ h', IsZipO h' z TI TO a true → Heap.SameBut z s.heap h' → Q' false { s with heap := h' }) → wpAny (model prog w) A (do
      if (Value.bool f != Value.bool true) = true then setField (.ref z) 1 (.bool true)
      return false) Q' E s := by
    intro Q' k
    cases f with
    | true => exact wpAny_pure (k _ hz (Heap.SameBut.refl _ _))
    | false => exact wpAny_bind (wpAny_setField_rec hz (by simp) fun h₃ he₃ hs₃ => wpAny_pure (k _ he₃ hs₃))
  refine go fun h₁ hz₁ hs₁ => ?_
  simp only [Bool.false_eq_true, if_false]
  refine wpAny_bind ?_
  simp only [List.forIn_toArray, List.forIn_cons, List.forIn_nil]
  refine wpAny_bind (wpAny_bind (wpAny_holding ?_))
  show wpAny _ _ (Builtin.SmallTypes.nextOf (.ref i1) >>= _) _ _ _
  refine wpAny_bind (nextOf_tuple_item (h1.extBut hs₁.extBut D.i1z) (hl1.extBut hs₁.extBut D.l1z) hx fun h₂ h1₂ hs₂ => wpAny_pure ?_)
  refine wpAny_pure ?_
  refine wpAny_bind (wpAny_bind (wpAny_holding ?_))
  show wpAny _ _ (Builtin.SmallTypes.nextOf (.ref i2) >>= _) _ _ _
  refine wpAny_bind (nextOf_tuple_item ((h2.extBut hs₁.extBut D.i2z).extBut hs₂.extBut D.i12.symm) ((hl2.extBut hs₁.extBut D.l2z).extBut hs₂.extBut D.l2i1) hy fun h₃ h2₃ hs₃ => wpAny_pure ?_)
  refine wpAny_pure ?_
  refine wpAny_pure ?_
  refine wpAny_bind (wpAny_newTuple ?_ (by show 2 ≤ sizeLine; decide))
  have hsz : h₃.objs.size = s.heap.objs.size := by rw [hs₃.1, hs₂.1, hs₁.1]
  have up : ∀ c o, c ≠ z → c ≠ i1 → c ≠ i2 → s.heap.get? c = some o → h₃.get? c = some o := fun c o c1 c2 c3 e => hs₃.extBut _ _ c3 (hs₂.extBut _ _ c2 (hs₁.extBut _ _ c1 e))
  have hz₃ : IsZipO h₃ z TI TO a true := hs₃.extBut _ _ D.i2z.symm (hs₂.extBut _ _ D.i1z.symm hz₁)
  have h1₃ := h1₂.extBut hs₃.extBut D.i12
  refine wpAny_pure ⟨_, rfl, ?_⟩
  show Q (.ref h₃.objs.size) _
  rw [hsz]
  refine hQ _ (Heap.get?_push_of_some _ hz₃) (h1₃.at fun o e => Heap.get?_push_of_some _ e) (h2₃.at fun o e => Heap.get?_push_of_some _ e) ?_ (by rw [Heap.size_push, hsz]) fun c o c1 c2 c3 e => Heap.get?_push_of_some _ (up c o c1 c2 c3 e)
  rw [← hsz]
  exact Heap.get?_push_size _ rfl
theorem out_end {z TI TO i1 i2 l1 l2 a : Addr} {f : Bool} {oa : Obj} {k1 k2 : Nat} {xs ys : Array Value} {Q : Fin → Shared → Prop} (hh : A.handled = none) (D : ZipApart z TI TO i1 i2 l1 l2)
    (hz : IsZipO s.heap z TI TO a f) (ha : s.heap.get? a = some oa) (hTI : IsPair s.heap TI (.ref i1) (.ref i2))
    (h1 : s.heap.IsTupleIter i1 l1 k1) (h2 : s.heap.IsTupleIter i2 l2 k2) (hl1 : s.heap.IsTuple l1 xs) (hl2 : s.heap.IsTuple l2 ys) (hend : xs[k1]? = none ∨ ys[k2]? = none)
    (hE : ∀ h' e, (∀ c o, c ≠ z → c ≠ i1 → c ≠ i2 → s.heap.get? c = some o → h'.get? c = some o) → (∃ o, h'.get? e = some o ∧ o.cls = .type "StopIteration") → E (.ref e) { s with heap := h' }) :
    wpAny (model prog w) A (Builtin.«zip.__next__» ⟨[.ref z], []⟩) Q E s := by
  show wpAny _ _ (field (.ref z) 2 >>= _) _ _ _
  refine wpAny_bind (wpAny_field hz rfl (x := .bool false) rfl ?_)
  show wpAny _ _ (field (.ref z) 3 >>= _) _ _ _
  refine wpAny_bind (wpAny_field hz rfl (x := .ref TI) rfl ?_)
  refine wpAny_bind (wpAny_seqItems hTI rfl ?_)
  show wpAny _ _ (Builtin.SmallTypes.ownedTupleIsFree (.ref z) >>= _) _ _ _
  refine wpAny_bind ?_
  unfold Builtin.SmallTypes.ownedTupleIsFree
  refine wpAny_bind (wpAny_field hz rfl (x := rawInt a) rfl ?_)
  show wpAny _ _ (loadIfAlive ((a : Int).toNat) >>= _) _ _ _
  rw [Int.toNat_natCast]
  refine wpAny_bind (PySem.W.kdx_alive ha ?_)
  simp only [Option.isNone_some, Bool.false_eq_true, if_false]
  refine wpAny_bind (wpAny_field hz rfl (x := .bool f) rfl ?_)
  have go : ∀ {Q' : Bool → Shared → Prop}, (∀ h', IsZipO h' z TI TO a true → Heap.SameBut z s.heap h' → Q' false { s with heap := h' }) → wpAny (model prog w) A (do
      if (Value.bool f != Value.bool true) = true then setField (.ref z) 1 (.bool true)
      return false) Q' E s := by
    intro Q' k
    cases f with
    | true => exact wpAny_pure (k _ hz (Heap.SameBut.refl _ _))
    | false => exact wpAny_bind (wpAny_setField_rec hz (by simp) fun h₃ he₃ hs₃ => wpAny_pure (k _ he₃ hs₃))
  refine go fun h₁ hz₁ hs₁ => ?_
  simp only [Bool.false_eq_true, if_false]
  refine wpAny_bind ?_
  simp only [List.forIn_toArray, List.forIn_cons, List.forIn_nil]
  refine wpAny_bind (wpAny_bind (wpAny_holding ?_))
  show wpAny _ _ (Builtin.SmallTypes.nextOf (.ref i1) >>= _) _ _ _
  cases hx : xs[k1]? with
  | none => exact wpAny_bind (nextOf_tuple_end hh (h1.extBut hs₁.extBut D.i1z) (hl1.extBut hs₁.extBut D.l1z) hx fun h₂ e hs₂ he => hE h₂ e (fun c o c1 c2 _ x => hs₂ _ _ c2 (hs₁.extBut _ _ c1 x)) he)
  | some x =>
    have hy : ys[k2]? = none := by rcases hend with h | h; rw [hx] at h; cases h; exact h
    refine wpAny_bind (nextOf_tuple_item (h1.extBut hs₁.extBut D.i1z) (hl1.extBut hs₁.extBut D.l1z) hx fun h₂ h1₂ hs₂ => wpAny_pure ?_)
    refine wpAny_pure ?_
    refine wpAny_bind (wpAny_bind (wpAny_holding ?_))
    show wpAny _ _ (Builtin.SmallTypes.nextOf (.ref i2) >>= _) _ _ _
    exact wpAny_bind (nextOf_tuple_end hh ((h2.extBut hs₁.extBut D.i2z).extBut hs₂.extBut D.i12.symm) ((hl2.extBut hs₁.extBut D.l2z).extBut hs₂.extBut D.l2i1) hy fun h₃ e hs₃ he => hE h₃ e (fun c o c1 c2 c3 x => hs₃ _ _ c3 (hs₂.extBut _ _ c2 (hs₁.extBut _ _ c1 x))) he)
theorem next_item {z TI TO i1 i2 l1 l2 a : Addr} {f : Bool} {oa : Obj} {k1 k2 : Nat} {xs ys : Array Value} {x y : Value} {Q : Option Value → Shared → Prop} (D : ZipApart z TI TO i1 i2 l1 l2)
    (hz : IsZipO s.heap z TI TO a f) (ha : s.heap.get? a = some oa) (hTI : IsPair s.heap TI (.ref i1) (.ref i2))
    (h1 : s.heap.IsTupleIter i1 l1 k1) (h2 : s.heap.IsTupleIter i2 l2 k2) (hl1 : s.heap.IsTuple l1 xs) (hl2 : s.heap.IsTuple l2 ys) (hx : xs[k1]? = some x) (hy : ys[k2]? = some y)
    (hQ : ∀ h', IsZipO h' z TI TO a true → h'.IsTupleIter i1 l1 (k1 + 1) → h'.IsTupleIter i2 l2 (k2 + 1) → IsPair h' s.heap.objs.size x y → h'.objs.size = s.heap.objs.size + 1 →
      (∀ c o, c ≠ z → c ≠ i1 → c ≠ i2 → s.heap.get? c = some o → h'.get? c = some o) → Q (some (.ref s.heap.objs.size)) { s with heap := h' }) :
    wpAny (model prog w) A (pyNext (.ref z)) Q E s := by
  have hT : s.TypeIs (.ref z) "zip" := ⟨_, hz, rfl⟩
  unfold pyNext
  exact wpAny_bind (wpAny_attempt (wpAny_callSpecial?_slot (name := Str.ofString "__next__") hT F.slot_zip_next
    (wpAny_call_entry F.slot_zip_next hT F.entry_zip_next
      (out_item D hz ha hTI h1 h2 hl1 hl2 hx hy fun h' a1 a3 a4 a5 a6 a7 => wpAny_pure (hQ h' a1 a3 a4 a5 a6 a7)) (F.args_zip_next_1 _))))
theorem next_end {z TI TO i1 i2 l1 l2 a : Addr} {f : Bool} {oa : Obj} {k1 k2 : Nat} {xs ys : Array Value} {Q : Option Value → Shared → Prop} (hh : A.handled = none) (D : ZipApart z TI TO i1 i2 l1 l2)
    (hz : IsZipO s.heap z TI TO a f) (ha : s.heap.get? a = some oa) (hTI : IsPair s.heap TI (.ref i1) (.ref i2))
    (h1 : s.heap.IsTupleIter i1 l1 k1) (h2 : s.heap.IsTupleIter i2 l2 k2) (hl1 : s.heap.IsTuple l1 xs) (hl2 : s.heap.IsTuple l2 ys) (hend : xs[k1]? = none ∨ ys[k2]? = none)
    (hQ : ∀ h', (∀ c o, c ≠ z → c ≠ i1 → c ≠ i2 → s.heap.get? c = some o → h'.get? c = some o) → Q none { s with heap := h' }) : wpAny (model prog w) A (pyNext (.ref z)) Q E s := by
  have hT : s.TypeIs (.ref z) "zip" := ⟨_, hz, rfl⟩
  unfold pyNext
  refine wpAny_bind (wpAny_attempt (wpAny_callSpecial?_slot (name := Str.ofString "__next__") hT F.slot_zip_next
    (wpAny_call_entry F.slot_zip_next hT F.entry_zip_next (out_end hh D hz ha hTI h1 h2 hl1 hl2 hend fun h' e hk he => ?_) (F.args_zip_next_1 _))))
  obtain ⟨o, ho, hc⟩ := he
  refine wpAny_bind (wpAny_isInstance (T := "StopIteration") (b := true) ⟨o, ho, hc⟩ isSubtype_stop ?_)
  exact wpAny_pure (hQ _ hk)
theorem nolen_zip : typeLookup (.type "zip") "__len__" = pure none := by rw [typeLookup_type, builtinLookup_eq_fast]; kernel_rfl
theorem nohint_zip : typeLookup (.type "zip") "__length_hint__" = pure none := by rw [typeLookup_type, builtinLookup_eq_fast]; kernel_rfl
theorem zip_hint {z : Addr} (hT : s.TypeIs (.ref z) "zip") {Q : Bool → Shared → Prop} (h : Q true s) : wpAny (model prog w) A (Builtin.List.listLengthHint (.ref z)) Q E s := by
  unfold Builtin.List.listLengthHint
  refine wpAny_bind (wpAny_specialOf hT nolen_zip ?_)
  show wpAny _ A (specialOf (Value.ref z) (Str.ofString "__length_hint__") >>= _) _ _ _
  refine wpAny_bind (wpAny_specialOf hT nohint_zip ?_)
  exact wpAny_pure h
/-- where the zip stands: ahead of its first pair, or with its last pair out -/
def ZSt (h : Heap) (z TI TO i1 i2 l1 l2 S : Addr) (i : Nat) : Prop :=
  IsPair h TI (.ref i1) (.ref i2) ∧ h.IsTupleIter i1 l1 i ∧ h.IsTupleIter i2 l2 i ∧ (∃ o, h.get? TO = some o) ∧ ((IsZip h z TI TO .none ∧ IsPair h TO .none .none) ∨ ∃ a f oa, IsZipO h z TI TO a f ∧ h.get? a = some oa ∧ a ∉ [z, TI, TO, i1, i2] ∧ a ≠ S)
theorem ZSt.keep {h h' : Heap} {z TI TO i1 i2 l1 l2 S : Addr} {i : Nat} (x : ZSt h z TI TO i1 i2 l1 l2 S i) (nS : S ∉ [z, TI, TO, i1, i2]) (hk : ∀ b o, b ≠ S → h.get? b = some o → h'.get? b = some o) : ZSt h' z TI TO i1 i2 l1 l2 S i := by
  simp only [List.mem_cons, List.not_mem_nil, or_false, not_or] at nS
  obtain ⟨n1, n2, n3, n4, n5⟩ := nS
  obtain ⟨a, b, c, ⟨o, ho⟩, d⟩ := x
  refine ⟨hk _ _ (Ne.symm n2) a, b.at fun o e => hk _ o (Ne.symm n4) e, c.at fun o e => hk _ o (Ne.symm n5) e, ⟨o, hk _ _ (Ne.symm n3) ho⟩, ?_⟩
  rcases d with ⟨d, e⟩ | ⟨a, f, oa, d, e, g, g2⟩
  · exact .inl ⟨hk _ _ (Ne.symm n1) d, hk _ _ (Ne.symm n3) e⟩
  · exact .inr ⟨a, f, oa, hk _ _ (Ne.symm n1) d, hk _ _ g2 e, g, g2⟩
theorem ZSt.lt {h : Heap} {z TI TO i1 i2 l1 l2 S : Addr} {i : Nat} (x : ZSt h z TI TO i1 i2 l1 l2 S i) : ∀ b ∈ [z, TI, TO, i1, i2], b < h.objs.size := by
  obtain ⟨a, ⟨_, b, _⟩, ⟨_, c, _⟩, ⟨o, ho⟩, d⟩ := x
  intro y hy
  simp only [List.mem_cons, List.not_mem_nil, or_false] at hy
  rcases hy with rfl | rfl | rfl | rfl | rfl
  · rcases d with ⟨d, _⟩ | ⟨_, _, _, d, _⟩ <;> exact Heap.lt_size d
  · exact Heap.lt_size a
  · exact Heap.lt_size ho
  · exact Heap.lt_size b
  · exact Heap.lt_size c
theorem z_item {z TI TO i1 i2 l1 l2 S : Addr} {i : Nat} {xs ys : Array Value} {x y : Value} {Q : Option Value → Shared → Prop} (D : ZipApart z TI TO i1 i2 l1 l2) (st : ZSt s.heap z TI TO i1 i2 l1 l2 S i) (lS : S < s.heap.objs.size)
    (hl1 : s.heap.IsTuple l1 xs) (hl2 : s.heap.IsTuple l2 ys) (hx : xs[i]? = some x) (hy : ys[i]? = some y)
    (hQ : ∀ h', ZSt h' z TI TO i1 i2 l1 l2 S (i + 1) → IsPair h' s.heap.objs.size x y → h'.objs.size = s.heap.objs.size + 1 →
      (∀ c o, c ∉ [z, TI, TO, i1, i2] → s.heap.get? c = some o → h'.get? c = some o) → Q (some (.ref s.heap.objs.size)) { s with heap := h' }) :
    wpAny (model prog w) A (pyNext (.ref z)) Q E s := by
  obtain ⟨a, b, c, ⟨o, ho⟩, d⟩ := st
  have e1 := Heap.lt_size a
  have e2 : i1 < s.heap.objs.size := let ⟨_, e, _⟩ := b; Heap.lt_size e
  have e3 : i2 < s.heap.objs.size := let ⟨_, e, _⟩ := c; Heap.lt_size e
  rcases d with ⟨d, e⟩ | ⟨t, f, oa, d, e, g, g2⟩
  · have e4 := Heap.lt_size d
    have e5 := Heap.lt_size e
    refine pyNext_zipT_item D d a e b c hl1 hl2 hx hy fun h' q1 q2 q3 q4 q5 q6 q7 => hQ h' ⟨q7 _ _ D.TIz D.TITO D.TIi1 D.TIi2 a, q3, q4, ⟨_, q2⟩, .inr ⟨_, false, _, q1, q5, ?_, Nat.ne_of_gt lS⟩⟩ q5 q6 fun c o hc => ?_
    · simp only [List.mem_cons, List.not_mem_nil, or_false, not_or]
      exact ⟨Nat.ne_of_gt e4, Nat.ne_of_gt e1, Nat.ne_of_gt e5, Nat.ne_of_gt e2, Nat.ne_of_gt e3⟩
    · simp only [List.mem_cons, List.not_mem_nil, or_false, not_or] at hc
      exact q7 c o hc.1 hc.2.2.1 hc.2.2.2.1 hc.2.2.2.2
  · have g0 := g
    simp only [List.mem_cons, List.not_mem_nil, or_false, not_or] at g0
    refine next_item D d e a b c hl1 hl2 hx hy fun h' q1 q3 q4 q5 q6 q7 => hQ h' ⟨q7 _ _ D.TIz D.TIi1 D.TIi2 a, q3, q4, ⟨o, q7 _ _ D.TOz D.TOi1 D.TOi2 ho⟩, .inr ⟨t, true, oa, q1, q7 _ _ g0.1 g0.2.2.2.1 g0.2.2.2.2 e, g, g2⟩⟩ q5 q6 fun c o hc => ?_
    simp only [List.mem_cons, List.not_mem_nil, or_false, not_or] at hc
    exact q7 c o hc.1 hc.2.2.2.1 hc.2.2.2.2
theorem z_done {z TI TO i1 i2 l1 l2 S : Addr} {i : Nat} {xs ys : Array Value} {Q : Option Value → Shared → Prop} (hh : A.handled = none) (D : ZipApart z TI TO i1 i2 l1 l2) (st : ZSt s.heap z TI TO i1 i2 l1 l2 S i)
    (hl1 : s.heap.IsTuple l1 xs) (hl2 : s.heap.IsTuple l2 ys) (hend : xs[i]? = none ∨ ys[i]? = none)
    (hQ : ∀ h', (∀ c o, c ∉ [z, TI, TO, i1, i2] → s.heap.get? c = some o → h'.get? c = some o) → Q none { s with heap := h' }) : wpAny (model prog w) A (pyNext (.ref z)) Q E s := by
  obtain ⟨a, b, c, _, d⟩ := st
  rcases d with ⟨d, e⟩ | ⟨t, f, oa, d, e, g, g2⟩
  · refine pyNext_zipT_end hh D d a e b c hl1 hl2 hend fun h' q7 => hQ h' fun c o hc => ?_
    simp only [List.mem_cons, List.not_mem_nil, or_false, not_or] at hc
    exact q7 c o hc.1 hc.2.2.1 hc.2.2.2.1 hc.2.2.2.2
  · refine next_end hh D d e a b c hl1 hl2 hend fun h' q7 => hQ h' fun c o hc => ?_
    simp only [List.mem_cons, List.not_mem_nil, or_false, not_or] at hc
    exact q7 c o hc.1 hc.2.2.2.1 hc.2.2.2.2
end
open PySem.Spec PyProof.Rows L2 G3
section
variable {X : Cx} {pins : List (Addr × Obj)} {σ : L2.St}
/-- the pairs so far -/
def Pairs (H0 H : Hp) (xs ys : List V) (ts : List Addr) : Prop := ∀ (j : Nat) (t : Addr), ts[j]? = some t → ∃ x y, xs[j]? = some x ∧ ys[j]? = some y ∧ H0 t = none ∧ H t = some (.tup [x, y])
theorem z_loop {Rs : Result → Shared → Prop} {A1 : Around} {z TI TO i1 i2 l1 l2 S : Addr} {xs ys : List V} {H0 : Hp} (hh : A1.handled = none) (D : ZipApart z TI TO i1 i2 l1 l2) (nS : S ∉ [z, TI, TO, i1, i2]) (few : xs.length ≤ 1000) (n0 : H0 S = none)
    (hdone : ∀ ts H s, Inv X pins σ H s → Same H0 H → H S = some (.lst (ts.map V.ref)) → ts.length = min xs.length ys.length → Pairs H0 H xs ys ts → Rs (.ok (.ret .none)) s) (hx : SqT X.K H0 l1 xs) (hy : SqT X.K H0 l2 ys) :
    ∀ (m : Nat) (ts : List Addr) (H : Hp) (s : Shared), min xs.length ys.length - ts.length = m → ts.length ≤ min xs.length ys.length → Inv X pins σ H s → Same H0 H → ZSt s.heap z TI TO i1 i2 l1 l2 S ts.length → H S = some (.lst (ts.map V.ref)) → Pairs H0 H xs ys ts →
      (∀ b ∈ [z, TI, TO, i1, i2], FpOk X pins H b) → codeAny (model X.prog X.w) A1 (.builtin "list.extend.loop" ⟨[.ref S, .ref z, .none], []⟩) Rs s := by
  intro m
  induction m with
  | zero =>
    intro ts H s hm hle I sm st hS hP hf
    have hx1 := M0.same_tup sm hx
    have hy1 := M0.same_tup sm hy
    obtain ⟨its, rv, p, _⟩ := I.tuple hx1
    obtain ⟨its2, rv2, p2, _⟩ := I.tuple hy1
    have k1 := rv.length
    have k2 := rv2.length
    refine codeAny_builtin PySem.F.entry_extend_loop ?_
    rw [Around.under_plainId PySem.F.plain_extend_loop _]
    show wpAny _ A1.in1 (pyNext (.ref z) >>= _) _ _ s
    refine wpAny_bind (z_done (A := A1.in1) hh D st p p2 ?_ fun h' hk => ?_)
    · by_cases e : xs.length ≤ ts.length
      · exact .inl (by simp; omega)
      · exact .inr (by simp; omega)
    · exact wpAny_pure (hdone ts H _ (I.turnedL (t' := s.toks) (ch := [z, TI, TO, i1, i2]) hk hf) sm hS (by omega) hP)
  | succ m ih =>
    intro ts H s hm hle I sm st hS hP hf
    have hx1 := M0.same_tup sm hx
    have hy1 := M0.same_tup sm hy
    obtain ⟨its, rv, p, _⟩ := I.tuple hx1
    obtain ⟨its2, rv2, p2, _⟩ := I.tuple hy1
    have l1' : ts.length < xs.length := by omega
    have l2' : ts.length < ys.length := by omega
    obtain ⟨u, hu, ru⟩ := rv.get (List.getElem?_eq_getElem l1')
    obtain ⟨u2, hu2, ru2⟩ := rv2.get (List.getElem?_eq_getElem l2')
    obtain ⟨_, its3, kk, r3, _, e3⟩ := I.lstM hS
    have lS : S < s.heap.objs.size := Heap.lt_size e3
    refine codeAny_builtin PySem.F.entry_extend_loop ?_
    rw [Around.under_plainId PySem.F.plain_extend_loop _]
    show wpAny _ A1.in1 (pyNext (.ref z) >>= _) _ _ s
    refine wpAny_bind (z_item (A := A1.in1) D st lS p p2 (x := u) (y := u2) (by simpa using hu) (by simpa using hu2) fun h' st' hT hsz hk => ?_)
    have new : ObjOk X.prog X.w (upd H s.heap.objs.size (.tup [xs[ts.length], ys[ts.length]])) h' s.heap.objs.size (.tup [xs[ts.length], ys[ts.length]]) :=
      ⟨by show 2 ≤ sizeLine; decide, [u, u2], .cons ru (.cons ru2 .nil), ⟨_, hT, rfl, _, rfl⟩⟩
    have I1 := I.turnedNew (t' := s.toks) (ch := [z, TI, TO, i1, i2]) hk hf (Nat.le_refl _) new
    have fr : H s.heap.objs.size = none := I.hok.fresh (Nat.le_refl _)
    have hS1 : upd H s.heap.objs.size (.tup [xs[ts.length], ys[ts.length]]) S = some (.lst (ts.map V.ref)) := by rw [upd_ne (Nat.ne_of_lt lS)]; exact hS
    have lch := st.lt
    generalize s.heap.objs.size = T at hT hsz I1 fr hS1 lS new lch
    obtain ⟨_, its4, k4, r4, hl4, e4⟩ := I1.lstM hS1
    have tl : ts.length ≤ 1000 := by omega
    have sl : 1001 ≤ sizeLine := by decide
    rw [List.length_map] at hl4
    show wpAny _ A1.in1 (updateSeq S (·.push (.ref T)) >>= _) _ _ _
    refine wpAny_bind (wpAny_updateSeq e4 rfl (wpAny_pure ⟨plainId_quiet PySem.F.plain_extend_loop _, ?_⟩) (by rw [List.size_toArray]; omega) (by show (its4.toArray.push (.ref T)).size ≤ sizeLine + 1; rw [Array.size_push, List.size_toArray]; omega))
    have I2 := I1.lset (its' := its4 ++ [.ref T]) (ys := (ts ++ [T]).map V.ref) (f := (·.push (Value.ref T))) (t' := s.toks) hS1 e4 (by simp) (by rw [List.map_append]; exact r4.append (.cons rfl .nil)) (by rw [List.length_map, List.length_append, List.length_singleton]; omega)
    have nT : H0 T = none := same_none sm fr
    have sm2 : Same H0 (upd (upd H T (.tup [xs[ts.length], ys[ts.length]])) S (.lst ((ts ++ [T]).map V.ref))) := same_put (sm.trans (same_new fr)) n0
    refine ih (ts ++ [T]) _ _ (by rw [List.length_append, List.length_singleton]; omega) (by rw [List.length_append, List.length_singleton]; omega) I2 sm2 ?_ upd_same ?_ ?_
    · rw [List.length_append, List.length_singleton]
      exact st'.keep nS fun b o hb e => (Heap.get?_update_other _ _ (Ne.symm hb)).trans e
    · intro j t hj
      rcases Nat.lt_trichotomy j ts.length with h1 | h1 | h1
      · rw [List.getElem?_append_left h1] at hj
        obtain ⟨x, y, q1, q2, q3, q4⟩ := hP j t hj
        refine ⟨x, y, q1, q2, q3, ?_⟩
        rw [upd_ne (ne_of q4 hS (by intro z; cases z)), upd_ne (ne_of_none q4 fr)]
        exact q4
      · subst h1
        have ht : T = t := by simpa using hj
        subst ht
        exact ⟨_, _, List.getElem?_eq_getElem l1', List.getElem?_eq_getElem l2', nT, by rw [upd_ne (Ne.symm (Nat.ne_of_lt lS)), upd_same]⟩
      · rw [List.getElem?_eq_none (by rw [List.length_append, List.length_singleton]; omega)] at hj
        cases hj
    · intro b hb
      refine ⟨?_, (hf b hb).2⟩
      have nb := (hf b hb).1
      have n1 : b ≠ S := fun e => nS (e ▸ hb)
      rw [upd_ne n1]
      rw [upd_ne (Nat.ne_of_lt (lch b hb))]
      exact nb
def tListZip (K : PySem.W.Frag) (ta : TA) : TE := fun σ H Q => ta σ H fun vs H1 => ∃ (a b : Addr) (xs ys : List V), vs = [.ref a, .ref b] ∧ SqT K H1 a xs ∧ SqT K H1 b ys ∧ xs.length ≤ 1000 ∧
  ∀ (H' : Hp) (p : Addr) (ts : List Addr), Same H1 H' → H1 p = none → H' p = some (.lst (ts.map V.ref)) → ts.length = min xs.length ys.length → Pairs H1 H' xs ys ts → Q (.ref p) H'
theorem pe_listZip {e e2 : Expr} {ta : TA} {p p2 cpos pos : Pos} (hc : X.calm = true) (hg : Gl X "list") (hm : X.mg "list" = none) (hgz : Gl X "zip") (hmz : X.mg "zip" = none) (hv : bootBuiltins "list" = some (.type "list")) (ha : PA X [e, e2] ta)
    (hs : starEach [.Call (.Name "zip" p2) [e, e2] [] cpos] X.env = (false, eval (.Call (.Name "zip" p2) [e, e2] [] cpos) X.env) :: starEach [] X.env := by rfl)
    (hs2 : starEach [e, e2] X.env = (false, eval e X.env) :: starEach [e2] X.env := by rfl) (hpl : (backTo cpos (starEach [e2] X.env)).any (·.1) = false := by rfl) :
    PE X (.Call (.Name "list" p) [.Call (.Name "zip" p2) [e, e2] [] cpos] [] pos) (tListZip X.K ta) := by
  refine ⟨fun pins s σ H Q I hq => ?_⟩
  refine wpAny_Call_Name_kw (ld_blt I hg hm hv ?_)
  refine PyProof.Rows.callWith_type1 ?_ hs rfl
  rw [hs]
  show wpAny _ _ (spliced ((false, eval (.Call (.Name "zip" p2) [e, e2] [] cpos) X.env) :: backTo pos (starEach [] X.env))) _ _ s
  refine Calls.spliced_cons ?_
  refine Call_ (ld_blt I hgz hmz PyProof.Rows.boot_zip (PyProof.Rows.callWith_type1 (thn (ha.run cpos pins s σ H _ I hq) fun us s1 ⟨vs, H1, I1, r1, q1⟩ => ?_) hs2 hpl))
  obtain ⟨a, b, xs, ys, ex, hqx, hqy, few, q⟩ := q1
  subst ex
  cases r1 with
  | cons r rr =>
    cases rr with
    | cons r' rr =>
      cases rr
      cases r
      cases r'
      obtain ⟨its, rv, p1, _⟩ := I1.tuple hqx
      obtain ⟨its2, rv2, p3, _⟩ := I1.tuple hqy
      obtain ⟨o1, ho1, _⟩ := id p1
      obtain ⟨o2, ho2, _⟩ := id p3
      refine call_zipT (show s1.heap.IsTuple a its.toArray from p1) (show s1.heap.IsTuple b its2.toArray from p3) fun h' hz hTI hTO h1 h2 hsz hk => ?_
      have D := PySem.W.ktu_apart s1.heap.objs.size a b (Heap.lt_size ho1) (Heap.lt_size ho2)
      have I2 : Inv X pins σ H1 { s1 with heap := h' } := I1.kept (t' := s1.toks) hk
      have fp : ∀ c, c ∈ [s1.heap.objs.size + 4, s1.heap.objs.size + 2, s1.heap.objs.size + 3, s1.heap.objs.size, s1.heap.objs.size + 1] → FpOk X pins H1 c := fun c hcm => by
        have e' : c = s1.heap.objs.size + 4 ∨ c = s1.heap.objs.size + 2 ∨ c = s1.heap.objs.size + 3 ∨ c = s1.heap.objs.size ∨ c = s1.heap.objs.size + 1 := by simpa using hcm
        have hle : s1.heap.objs.size ≤ c := by
          rcases e' with z | z | z | z | z
          · rw [z]; exact Nat.le_add_right _ _
          · rw [z]; exact Nat.le_add_right _ _
          · rw [z]; exact Nat.le_add_right _ _
          · rw [z]; exact Nat.le_refl _
          · rw [z]; exact Nat.le_add_right _ _
        exact I1.fpOk hle (I1.hok.fresh hle)
      have st : ∀ S, ZSt h' (s1.heap.objs.size + 4) (s1.heap.objs.size + 2) (s1.heap.objs.size + 3) s1.heap.objs.size (s1.heap.objs.size + 1) a b S 0 := fun S => ⟨hTI, h1, h2, ⟨_, hTO⟩, .inl ⟨hz, hTO⟩⟩
      generalize s1.heap.objs.size + 4 = zz at D fp st hz
      generalize s1.heap.objs.size + 2 = TI at D fp st hTI hz
      generalize s1.heap.objs.size + 3 = TO at D fp st hTO hz
      generalize s1.heap.objs.size + 1 = i2 at D fp st h2 hTI
      generalize s1.heap.objs.size = i1 at D fp st h1 hTI
      refine Calls.spliced_nil ?_
      have lts := (st 0).lt
      have hT : Shared.TypeIs { s1 with heap := h' } (.ref zz) "zip" := ⟨_, hz, rfl⟩
      refine callType_codes (Q₁ := fun obj s₁ => obj = .ref h'.objs.size ∧ s₁ = { s1 with heap := h'.push { cls := .type "list", data := .seq #[] } }) PySem.F.called_list (PySem.F.typeCall_list_1 _) PySem.F.entry_list_init
        (code_list_new _ ⟨rfl, rfl⟩) fun obj s₁ h₁ => ?_
      obtain ⟨rfl, rfl⟩ := h₁
      have hS : (h'.push { cls := .type "list", data := .seq #[] }).get? h'.objs.size = some { cls := .type "list", data := .seq #[] } := Heap.get?_push_size _ rfl
      refine ⟨⟨_, hS, rfl⟩, PySem.F.args_list_init_2 _ _, ?_⟩
      have fr : H1 h'.objs.size = none := I2.hok.fresh (Nat.le_refl _)
      have I3 : Inv X pins σ (upd H1 h'.objs.size (.lst [])) { s1 with heap := h'.push { cls := .type "list", data := .seq #[] } } := I2.lnew (its := []) (t' := s1.toks) .nil (Nat.zero_le _)
      have nS : h'.objs.size ∉ [zz, TI, TO, i1, i2] := fun z => Nat.lt_irrefl _ (lts _ z)
      have st3 : ZSt (h'.push { cls := .type "list", data := .seq #[] }) zz TI TO i1 i2 a b h'.objs.size 0 := (st h'.objs.size).keep nS fun b o _ e => Heap.get?_push_of_some _ e
      have hT3 : Shared.TypeIs { s1 with heap := h'.push { cls := .type "list", data := .seq #[] } } (.ref zz) "zip" := ⟨_, Heap.get?_push_of_some _ hz, rfl⟩
      generalize h'.objs.size = S at hS fr I3 nS st3
      have hz3 : IsZip (h'.push { cls := .type "list", data := .seq #[] }) zz TI TO .none := Heap.get?_push_of_some _ hz
      generalize h'.push { cls := .type "list", data := .seq #[] } = h3 at hS I3 st3 hT3 hz3
      show wpAny _ _ (do let old ← Builtin.List.listItems (.ref S); Builtin.List.listUpdate (.ref S) (fun _ => #[]); letGo old.toList.reverse; Builtin.List.listExtendWith (.ref S) (.ref zz) .none) _ _ _
      refine wpAny_bind ?_
      unfold Builtin.List.listItems
      refine wpAny_bind (wpAny_seqItems hS rfl (wpAny_pure ?_))
      show wpAny _ _ (updateSeq S (fun _ => #[]) >>= fun _ => letGo (#[] : Array Value).toList.reverse >>= fun _ => Builtin.List.listExtendWith (.ref S) (.ref zz) .none) _ _ _
      refine wpAny_bind (wpAny_updateSeq hS rfl ?_)
      have I4 := I3.lset (f := fun _ => #[]) (its := []) (its' := []) (ys := []) (t' := s1.toks) upd_same hS rfl .nil (Nat.zero_le _)
      rw [upd_upd] at I4
      have st4 := st3.keep (h' := h3.update S (Obj.mapSeq fun _ => #[])) nS fun b o hb e => (Heap.get?_update_other _ _ (Ne.symm hb)).trans e
      have nz : S ≠ zz := fun e => nS (e ▸ List.mem_cons_self)
      have hz4 : IsZip (h3.update S (Obj.mapSeq fun _ => #[])) zz TI TO .none := (Heap.get?_update_other _ _ nz).trans hz3
      have hT4 : Shared.TypeIs { s1 with heap := h3.update S (Obj.mapSeq fun _ => #[]) } (.ref zz) "zip" := ⟨_, hz4, rfl⟩
      refine wpAny_bind (wpAny_letGo ?_)
      generalize h3.update S (Obj.mapSeq fun _ => #[]) = h4 at I4 st4 hz4 hT4
      have hh : X.A.in1.handled = none := I.ok.hd hc
      have fp4 : ∀ b ∈ [zz, TI, TO, i1, i2], FpOk X pins (upd H1 S (.lst [])) b := fun b hb => ⟨by rw [upd_ne (fun e : b = S => nS (by rw [← e]; exact hb))]; exact (fp b hb).1, (fp b hb).2⟩
      have fin : ∀ (s' : Shared), Inv X pins σ (upd H1 S (.lst [])) s' → ZSt s'.heap zz TI TO i1 i2 a b S 0 → codeAny (model X.prog X.w) X.A.in1 (.builtin "list.extend.loop" ⟨[.ref S, .ref zz, .none], []⟩) (wants (fun r s₂ => r = .none ∧ EP X pins σ Q (.ref S) s₂) X.xe) s' := fun s' I' st' =>
        z_loop (H0 := H1) hh D nS few fr (fun ts H2 s2 I2 sm hS2 hl hP => ⟨rfl, .ref S, H2, I2, rfl, q H2 S ts sm fr hS2 hl hP⟩) hqx hqy _ [] _ s' rfl (Nat.zero_le _) I' (same_new fr) st' upd_same (fun j t h => by simp at h) fp4
      unfold Builtin.List.listExtendWith
      refine wpAny_bind (wpAny_typeOf (T := "zip") hT4 ?_)
      have h1 : Builtin.List.listSameRef (.ref S) (.ref zz) = false := by simp [Builtin.List.listSameRef, nz]
      have h2 : (Value.type "zip" == Value.type "list") = false := by decide
      have h3 : (Value.type "zip" == Value.type "tuple") = false := by decide
      simp only [h1, h2, h3, Bool.or_false, Bool.false_eq_true, if_false]
      refine wpAny_bind (wpAny_pyIter_zip hz4 ?_)
      refine wpAny_bind (wpAny_holding (zip_hint hT4 ?_))
      refine wpAny_ite_split (fun _ => ?_) (fun _ => wpAny_pure ⟨plainId_quiet PySem.F.plain_extend_loop _, fin _ I4 st4⟩)
      obtain ⟨_, its3, kk, r3, hl3, e3⟩ := I4.lstM upd_same
      cases r3
      refine wpAny_bind (wpAny_rule ?_)
      refine wpAny_bind ?_
      show wpAny _ _ (updateSeq S (·.push .none) >>= fun _ => updateSeq S (·.pop)) _ _ _
      refine wpAny_bind (wpAny_updateSeq e3 rfl ?_)
      have I5 := I4.lset (f := (·.push Value.none)) (its' := [Value.none]) (ys := [.non]) (t' := s1.toks) upd_same e3 (by simp) (.cons rfl .nil) (by rw [List.length_singleton, sizeLine_eq]; decide)
      have st5 := st4.keep (h' := h4.update S (Obj.mapSeq (·.push Value.none))) nS fun b o hb e => (Heap.get?_update_other _ _ (Ne.symm hb)).trans e
      obtain ⟨_, its4, k4, r4, hl4, e4⟩ := I5.lstM upd_same
      obtain ⟨u4, rfl, ru4⟩ := r4.one
      refine wpAny_updateSeq e4 rfl ?_ (by show 1 ≤ sizeLine; rw [sizeLine_eq]; decide) (by show 0 ≤ sizeLine + 1; exact Nat.zero_le _)
      have I6 := I5.lset (f := (·.pop)) (its := [u4]) (its' := []) (ys := []) (t' := s1.toks) upd_same e4 (by rfl) .nil (Nat.zero_le _)
      rw [upd_upd, upd_upd] at I6
      refine wpAny_pure ⟨plainId_quiet PySem.F.plain_extend_loop _, fin _ I6 (st5.keep nS fun b o hb e => (Heap.get?_update_other _ _ (Ne.symm hb)).trans e)⟩
end
end ZL

set_option maxHeartbeats 4000000
namespace PP
open PySem PySem.Spec PyProof.Rows L2 G3 G4 M0 PA
theorem dpAll_of {K : PySem.W.Frag} {H : Hp} : ∀ {vs : List V} {ds : List PyData}, vs.length = ds.length → (∀ (i : Nat) (v : V) (d : PyData), vs[i]? = some v → ds[i]? = some d → Dp K H v d) → DpAll K H vs ds
  | [], [], _, _ => .nil
  | v :: vs, d :: ds, hl, h => .cons (h 0 v d rfl rfl) (dpAll_of (Nat.succ.inj hl) fun i v d h1 h2 => h (i + 1) v d h1 h2)
  | [], _ :: _, hl, _ => by cases hl
  | _ :: _, [], hl, _ => by cases hl
/-- [x for x in l if not m(x)], l a list -/
theorem lc_siftL {K : PySem.W.Frag} {a : Addr} {xs : List V} {ds : List PyData} {m : PyData → Bool} {g : TG} {tt : TT} {te : TE} {vs : List Nat} {σ : L2.St} {H1 : Hp} {D : Addr} {Qd : Hp → Prop}
    (hx : SqL K H1 a xs) (hd : DpAll K H1 xs ds) (len : ds.length ≤ 100000) (nD : H1 D = none)
    (turn : ∀ x d H (R : L2.St → Bool → Hp → Prop), d ∈ ds → Dp K H x d → (∀ σ2 H', Same H H' → (∀ Q' : VK, Q' x H' → te σ2 H' Q') → R σ2 (!m d) H') → g x (wipe σ vs) H fun σ2 H2 => wipe σ2 vs = wipe σ vs ∧ tt σ2 H2 (R σ2))
    (fin : ∀ H' ys, Same H1 H' → H' D = some (.lst ys) → DpAll K H1 ys (ds.filter fun d => !m d) → Qd H') :
    ∃ W : Nat → Nat → Hp → Prop, (∃ m, W 0 m (upd H1 D (.lst []))) ∧ ∀ i m H, W i m H →
      ((Itl K a).stop i H ∧ Qd H) ∨ ((Itl K a).go i H ∧ ∃ Nx : Hp → Prop, (∀ H', Nx H' → ∃ m', m' < m ∧ W (i + 1) m' H') ∧ ∀ x H', (Itl K a).yld i H x H' → g x (wipe σ vs) H' fun σ2 H2 => wipe σ2 vs = wipe σ vs ∧ tt σ2 H2 fun b H3 =>
        if b = true then te σ2 H3 fun y H4 => ∃ acc, H4 D = some (.lst acc) ∧ acc.length < sizeLine ∧ Nx (upd H4 D (.lst (acc ++ [y]))) else Nx H3) := by
  have hl := dpAll_len hd
  refine lc_it (walk_list (a := a) (xs := xs) (K := K)) (fun i H => Same H1 H ∧ ∃ ys, H D = some (.lst ys) ∧ DpAll K H1 ys ((ds.take i).filter fun d => !m d)) ⟨same_new nD, [], upd_same, .nil⟩ (fun i H _ h => h.1.seq hx) (fun i x H H0 hi h e => ?_) (fun H h => ?_)
  · obtain ⟨rfl, e⟩ := e
    obtain ⟨d, ed, hxd⟩ := dpAll_get hd e
    obtain ⟨sm, ys, hD, hy⟩ := h
    have hlt : i < ds.length := (List.getElem?_eq_some_iff.mp ed).1
    have tk : ds.take (i + 1) = ds.take i ++ [d] := by rw [List.take_succ, ed]; rfl
    refine turn x d H0 (fun σ2 b H3 => if b = true then te σ2 H3 fun y H4 => ∃ acc, H4 D = some (.lst acc) ∧ acc.length < sizeLine ∧ (Same H1 (upd H4 D (.lst (acc ++ [y]))) ∧ ∃ ys, (upd H4 D (.lst (acc ++ [y]))) D = some (.lst ys) ∧ DpAll K H1 ys ((ds.take (i + 1)).filter fun d => !m d))
      else Same H1 H3 ∧ ∃ ys, H3 D = some (.lst ys) ∧ DpAll K H1 ys ((ds.take (i + 1)).filter fun d => !m d)) (List.mem_of_getElem? ed) (dp_same sm _ _ hxd) (fun σ2 H' s t => ?_)
    refine ite2 (fun e1 => ?_) (fun e1 => ?_)
    · refine t _ ⟨ys, s _ _ hD, ?_, same_put (sm.trans s) nD, ys ++ [x], upd_same, ?_⟩
      · have := dpAll_len hy
        have z := List.length_filter_le (fun d => !m d) (ds.take i)
        rw [List.length_take] at z
        exact small_line (by omega)
      · rw [tk, List.filter_append]
        have ef : [d].filter (fun d => !m d) = [d] := by
          rw [List.filter_cons_of_pos (p := fun d => !m d) e1]
          rfl
        rw [ef]
        exact dpAll_app hy (.cons hxd .nil)
    · refine ⟨sm.trans s, ys, s _ _ hD, ?_⟩
      rw [tk, List.filter_append]
      have ef : [d].filter (fun d => !m d) = [] := by
        rw [List.filter_cons_of_neg (p := fun d => !m d) e1]
        rfl
      rw [ef, List.append_nil]
      exact hy
  · obtain ⟨sm, ys, hD, hy⟩ := h
    have e : ds.take xs.length = ds := List.take_of_length_le (by omega)
    rw [e] at hy
    exact fin H ys sm hD hy
/-- a pair of numbers -/
def pd (p : Num × Num) : PyData := .tuple [p.1.d, p.2.d]
def mPair : PyData → Bool
  | .tuple [.none, _] => true
  | .tuple [.int i, .int j] => decide (j ≤ i)
  | _ => false
theorem mPair_pd (p : Num × Num) : mPair (pd p) = noLess p.1 p.2 := by
  obtain ⟨x, y⟩ := p
  cases x with
  | none => cases y <;> rfl
  | some i => cases y <;> rfl
theorem zip_all : ∀ a b : List Num, ((List.zip a b).map pd).all mPair = (List.zipWith noLess a b).all id
  | [], _ => by simp
  | _ :: _, [] => by simp
  | x :: a, y :: b => by
    rw [List.zip_cons_cons, List.map_cons, List.all_cons, List.zipWith_cons_cons, List.all_cons, zip_all a b, mPair_pd]
    rfl
theorem num_lay (n : Num) : n.d.canLay0 = true ∧ n.d.depth = 0 := by
  cases n <;> simp [Num.d, PyData.canLay0, PyData.depth]
theorem pd_lay (p : Num × Num) : (pd p).canLay0 = true ∧ (pd p).depth ≤ 1 := by
  obtain ⟨x, y⟩ := p
  unfold pd
  simp [PyData.canLay0, PyData.canLayAll0, PyData.depth, PyData.depthAll, num_lay]
theorem pd_shaped {ds : List PyData} (h : ∀ d ∈ ds, ∃ p, d = pd p) : SeqAt.shaped (.list ds) = true := by
  unfold SeqAt.shaped
  have e1 : (PyData.list ds).canLay0 = true := by
    simp only [PyData.canLay0]
    exact lay_all fun x hx => by
      obtain ⟨p, rfl⟩ := h x hx
      exact (pd_lay p).1
  have e2 : (PyData.list ds).depth ≤ 64 := Nat.le_trans (depth_list (k := 1) fun x hx => by
      obtain ⟨p, rfl⟩ := h x hx
      exact (pd_lay p).2) (by decide)
  rw [e1, decide_eq_true e2]
  rfl
abbrev nLSpans : List Str := ["_law_item_a", "_law_item_b", "_law_some", "_law_pair"]
theorem scLSpans : FnScope nLSpans ["_law_item_a", "_law_item_b"] (defScope s_law_spans) := ⟨rfl, rfl, rfl, by decide +kernel, rfl, by decide +kernel, by decide +kernel⟩
section
variable {P : Program} {w : World} {K : PySem.W.Frag} {mg : Str → Option Value} {base : Heap}
set_option maxHeartbeats 8000000 in
theorem ok_lspans {f : Addr} {fd : FuncData} {k : Nat} (F : Fun K "_law_spans" "_law_spans" s_law_spans f fd) (ml : mg "list" = none) (mz : mg "zip" = none) : FnOk P w K mg base CX0 (k + 1) f fd ["_law_item_a", "_law_item_b"] (spCovers K) := by
  refine F.ok scLSpans (fun vs H Q E h => ?_) (fun cdv A outer s H vs Q E hr h => ?_)
  · obtain ⟨v, u, a, b, rfl, _⟩ := h
    rfl
  obtain ⟨v, u, a, b, rfl, hv, hu, la, q⟩ := h
  have nd := scLSpans.nd
  refine ⟨_, pss_cons (ps_set (i := 2) nd rfl (.inl rfl) (pe_op op_cat (pe_lst (pa_cons (pe_tup (pa_cons (pe_ix ix_tup (pv 0) pe_int (fun _ _ => rfl)) (pa_cons (pe_ix ix_tup (pv 1) pe_int (fun _ _ => rfl)) pa_nil))) pa_nil))
      (ZL.pe_listZip rfl (by rfl) ml (by rfl) mz (by decide +kernel) (pa_cons (pe_ix ix_tup (pv 0) pe_int (fun _ _ => rfl)) (pa_cons (pe_ix ix_tup (pv 1) pe_int (fun _ _ => rfl)) pa_nil)))))
    (pss_one (ps_ret (pe_cmpR (op_eqD hr.units) (pe_lc (own := [("_law_pair", 3)]) (g := gName 3) (by rfl) nd (pi_list (pv 2))
        (blkOk_by (N := nLSpans) (sc := defScope s_law_spans) (by decide +kernel)) (fun _ _ _ _ _ => pg_name (i := 3) nd rfl (.inl rfl))
        (fun _ _ _ _ _ => pts_one (PW.pt (pw_and (pt_cmpR op_notN (pe_ix (r := rIxT K) ix_tup (pv 3) pe_int (fun _ _ => rfl)) pe_non (nomark _))
          (pw_and1 (PW.pt (pw_or (pt_cmpR op_isN (pe_ix (r := rIxT K) ix_tup (pv 3) pe_int (fun _ _ => rfl)) pe_non (nomark _))
            (pw_or1 (pt_cmpR op_lt (pe_ix (r := rIxT K) ix_tup (pv 3) pe_int (fun _ _ => rfl)) (pe_ix (r := rIxT K) ix_tup (pv 3) pe_int (fun _ _ => rfl)) (nomark _)))))))))
        (fun _ _ _ _ _ => pv 3)) (pe_lst pa_nil) (nomark _)))), ?_⟩
  obtain ⟨va, x1, x2, rfl, hva, d1, d2⟩ := dp2 hv
  obtain ⟨ua, y1, y2, rfl, hua, e1, e2⟩ := dp2 hu
  cases dp_num d1
  cases dp_num e1
  obtain ⟨xa, xs, rfl, hxa, hxs⟩ := dp_tup d2
  obtain ⟨ya, ys, rfl, hya, hys⟩ := dp_tup e2
  cases dp_nums hxs
  cases dp_nums hys
  refine ⟨_, rfl, va, _, 0, _, rfl, rfl, hva, atI_nat (j := 0) rfl, _, rfl, ua, _, 0, _, rfl, rfl, hua, atI_nat (j := 0) rfl, lz2, fun t0 n0 => ⟨lz1, fun l0 n1 => ?_⟩⟩
  have s0 : Same H (upd H t0 (.tup [a.1.v, b.1.v])) := same_new n0
  have s1 : Same (upd H t0 (.tup [a.1.v, b.1.v])) (upd (upd H t0 (.tup [a.1.v, b.1.v])) l0 (.lst [.ref t0])) := same_new n1
  have ht0 := s1 t0 _ upd_same
  have hl0 : upd (upd H t0 (.tup [a.1.v, b.1.v])) l0 (.lst [.ref t0]) l0 = some (.lst [.ref t0]) := upd_same
  have sA := s0.trans s1
  generalize upd (upd H t0 (.tup [a.1.v, b.1.v])) l0 (.lst [.ref t0]) = H1 at ht0 hl0 sA ⊢
  refine ⟨_, rfl, va, _, 1, _, rfl, rfl, same_tup sA hva, atI_nat (j := 1) rfl, _, rfl, ua, _, 1, _, rfl, rfl, same_tup sA hua, atI_nat (j := 1) rfl, xa, ya, _, _, rfl, same_tup sA hxa, same_tup sA hya, ?_, fun H2 p ts s2 np hp hl hP => ?_⟩
  · rw [List.length_map]
    omega
  rw [List.length_map, List.length_map] at hl
  have hl1 : H2 l0 = some (.lst [.ref t0]) := s2 _ _ hl0
  refine ⟨l0, p, _, _, rfl, rfl, hl1, hp, ?_, fun c nc => ?_⟩
  · rw [List.length_map]
    exact small_le (show 1 + ts.length ≤ 1000000 by omega)
  have s3 : Same H2 (upd H2 c (.lst ([.ref t0] ++ ts.map V.ref))) := same_new nc
  have hc : upd H2 c (.lst ([.ref t0] ++ ts.map V.ref)) c = some (.lst ([.ref t0] ++ ts.map V.ref)) := upd_same
  have hP3 : ∀ (j : Nat) (t : Addr), ts[j]? = some t → ∃ x y, (a.2.map Num.v)[j]? = some x ∧ (b.2.map Num.v)[j]? = some y ∧ upd H2 c (.lst ([.ref t0] ++ ts.map V.ref)) t = some (.tup [x, y]) := fun j t h => by
    obtain ⟨x, y, q1, q2, _, q4⟩ := hP j t h
    exact ⟨x, y, q1, q2, s3 _ _ q4⟩
  have ht3 := s3 _ _ (s2 _ _ ht0)
  have sB := sA.trans (s2.trans s3)
  generalize upd H2 c (.lst ([.ref t0] ++ ts.map V.ref)) = H3 at hc hP3 ht3 sB ⊢
  have hdp : DpAll K H3 ([.ref t0] ++ ts.map V.ref) (((a.1, b.1) :: List.zip a.2 b.2).map pd) := by
    refine .cons (.tup (SqT.of ht3) (.cons (Num.dp _) (.cons (Num.dp _) .nil))) (dpAll_of ?_ fun i v d h1 h2 => ?_)
    · show (ts.map V.ref).length = ((List.zip a.2 b.2).map pd).length
      rw [List.length_map, List.length_map, List.length_zip, hl]
    · have h1' : (ts.map V.ref)[i]? = some v := h1
      rw [List.getElem?_map] at h1' h2
      obtain ⟨t, g1, rfl⟩ := Option.map_eq_some_iff.mp h1'
      obtain ⟨pr, g2, rfl⟩ := Option.map_eq_some_iff.mp h2
      obtain ⟨x, y, q1, q2, q4⟩ := hP3 i t g1
      obtain ⟨x', y'⟩ := pr
      rw [List.getElem?_zip_eq_some] at g2
      rw [List.getElem?_map, g2.1] at q1
      rw [List.getElem?_map, g2.2] at q2
      cases q1
      cases q2
      exact .tup (SqT.of q4) (.cons (Num.dp _) (.cons (Num.dp _) .nil))
  refine ⟨_, rfl, c, rfl, ⟨_, SqL.of hc⟩, fun D nD => ?_⟩
  have zl : (List.zip a.2 b.2).length ≤ 100 := by rw [List.length_zip]; omega
  refine lc_siftL (m := mPair) (SqL.of hc) hdp ?_ nD (fun x d G R md hd fin => ⟨rfl, ?_⟩) (fun G ys sG hD hy => ?_)
  · rw [List.length_map, List.length_cons]
    omega
  · obtain ⟨⟨n1, n2⟩, _, rfl⟩ := List.mem_map.mp md
    obtain ⟨ta, v1, v2, rfl, hta, g1, g2⟩ := dp2 hd
    cases dp_num g1
    cases dp_num g2
    have z := fin
    rw [mPair_pd] at z
    refine ⟨_, rfl, ta, _, 0, _, rfl, rfl, hta, atI_nat (j := 0) rfl, rfl, _, rfl, ?_⟩
    cases n1 with
    | none => exact iteF (z _ G (Same.refl G) fun Q' h => ⟨_, rfl, h⟩)
    | some i =>
      refine iteT ⟨_, rfl, ta, _, 1, _, rfl, rfl, hta, atI_nat (j := 1) rfl, rfl, _, rfl, ?_⟩
      cases n2 with
      | none => exact iteT (z _ G (Same.refl G) fun Q' h => ⟨_, rfl, h⟩)
      | some j =>
        refine iteF ⟨_, rfl, ta, _, 0, _, rfl, rfl, hta, atI_nat (j := 0) rfl, _, rfl, ta, _, 1, _, rfl, rfl, hta, atI_nat (j := 1) rfl, i, j, rfl, rfl, _, rfl, ?_⟩
        have e : (!noLess (some i) (some j)) = decide (i < j) := by
          show (!decide (j ≤ i)) = _
          by_cases h : i < j
          · rw [decide_eq_true h, decide_eq_false (by omega)]
            rfl
          · rw [decide_eq_false h, decide_eq_true (by omega)]
            rfl
        rw [e] at z
        exact z _ G (Same.refl G) fun Q' h => ⟨_, rfl, h⟩
  · refine ⟨Nat.zero_le _, fun e0 n0 => ?_⟩
    have s4 : Same G (upd G e0 (.lst [])) := same_new n0
    refine ⟨_, _, .lst (SqL.of (s4 _ _ hD)) (dpAll_same (sG.trans s4) _ _ hy), .lst (SqL.of upd_same) .nil, pd_shaped (fun d hd => ?_), nilL_shaped, ?_⟩
    · obtain ⟨pr, _, rfl⟩ := List.mem_map.mp (List.mem_filter.mp hd).1
      exact ⟨pr, rfl⟩
    · rw [sift_all, List.map_cons, List.all_cons, mPair_pd, zip_all]
      exact q _ (sB.trans (sG.trans s4))
end
end PP

set_option maxHeartbeats 4000000
/-! errors without fields, calls with keywords that may raise, isinstance of an error that is kept, tuple times int -/
namespace QA
open PySem PySem.Spec PyProof.Rows L2 G3 G5 E2 E3 E4 E5 E7 E8 E9 EB EC EE
section
variable {X : Cx}
/-- an error's own dict, where there is one -/
def DictOf (H : Hp) (d : Option Addr) : Prop := d = none ∨ ∃ (dd : Addr) (fs : List (Str × V)), d = some dd ∧ H dd = some (.xd fs)
theorem pmk_new0 {nm : Str} {p pos : Pos} (S : Err X.prog X.w X.K X.mg X.base nm []) (hr : Room 2 X.A) (hg : Gl X nm) (hdb : (nm == ("__debug__" : Str)) = false := by decide) :
    PMk X (.Call (.Name nm p) [] [] pos) (fun _ H Q => ∀ (d : Option Addr) H', Same H H' → DictOf H' d → Q (.ref S.C) d H') := by
  intro pins s σ H Q I hyp
  refine wpAny_Call_Name_kw (ld_glob I hg S.g ?_ hdb)
  refine PySem.W.callWith_K0 I.kIn S.T.kC (EA.run_mk (us := []) (vs := []) S.T S.ok hr S.kb I .nil (by decide) fun a na => ⟨a, [], rfl, rfl, upd_same, fun H2 gr en => ⟨rfl, ?_⟩⟩)
  rcases en with ⟨_, ea⟩ | ⟨dx, ea, ed, nd⟩
  · refine .inr ⟨ea, hyp _ _ (fun b o hb => ?_) (.inl rfl)⟩
    have nba := ne_of_none hb na
    rw [del_ne nba]
    exact gr b o (by rw [upd_ne nba]; exact hb) nba
  · have ne : dx ≠ a := fun e => by
      rw [e, upd_same] at nd
      cases nd
    have nd1 : H dx = none := by
      rw [upd_ne ne] at nd
      exact nd
    refine .inl ⟨dx, _, ea, ed, nd1, hyp _ _ (fun b o hb => ?_) (.inr ⟨dx, _, rfl, upd_same⟩)⟩
    have nba := ne_of_none hb na
    rw [upd_ne (ne_of_none hb nd1), del_ne nba]
    exact gr b o (by rw [upd_ne nba]; exact hb) nba
theorem ps_raise0 {nm : Str} {p pos pos' : Pos} {W : WX} (hc : X.calm = true) (tk : Takes X W) (S : Err X.prog X.w X.K X.mg X.base nm []) (hr : Room 2 X.A) (hg : Gl X nm) (hdb : (nm == ("__debug__" : Str)) = false := by decide) :
    PS X (.Raise (some (.Call (.Name nm p) [] [] pos)) none pos') (fun _ σ H => ∀ (d : Option Addr) H', Same H H' → DictOf H' d → W (.ref S.C) d σ H') := ps_raise hc tk (pmk_new0 S hr hg hdb)
/-- isinstance(e, c), e an error that was caught and kept -/
def rIsKept (K : PySem.W.Frag) : List V → Hp → VK → Prop := fun xs H Q => ∃ (a C : Addr) (d : Option Addr) (c : V) (u : Value) (b : Bool), xs = [.ref a, c] ∧ H a = some (exk a (.ref C) d) ∧ DictOf H d ∧ ExcC K C ∧ ClsV c u ∧ PySem.W.kitOne K (.ref C) u = some b ∧ Q (.bl b) H
theorem call_isKept : CallR X (.builtin "isinstance") (rIsKept X.K) := by
  intro pins s σ H xs us Q I r hyp
  obtain ⟨a, C, d, c, u, b, rfl, ea, dd, T, cv, e, q⟩ := hyp
  cases r with
  | cons rx rr =>
    cases rr with
    | cons rt rr =>
      cases rr
      cases rx
      have ec := cv.eq rt
      subst ec
      have hcl : (PySem.W.clsIn X.K C).isSome = true := by
        obtain ⟨cd, hc, _⟩ := PySem.W.any_some T.hd
        rw [hc]
        rfl
      obtain ⟨oe, vs, at0, z0, dt⟩ := exk_at I.hok ea
      have fin : ∀ {od : Option Obj}, PySem.W.InstAt s.heap a oe C od → wpAny (model X.prog X.w) X.A (call (.builtin "isinstance") [.ref a, _]) (EP X pins σ Q) X.xe s := fun {od} J =>
        PySem.W.kia_one (PySem.W.kitx_exc hcl T.hg T.hk T.hs T.ha T.hn T.ht T.hm) I.kIn J e (fun z => nomatch z) fun tk => ⟨.bl b, H, I.kept (t' := tk) fun _ _ z => z, rfl, q⟩
      rcases dd with rfl | ⟨dd, fs, rfl, ed⟩
      · exact fin (od := none) ⟨at0, z0.1, by unfold PySem.W.notCls; rw [dt] <;> rfl, by rw [z0.2]; trivial⟩
      · obtain ⟨mA, nsD, rel⟩ := (show ObjOk X.prog X.w H s.heap dd (.xd fs) from I.hok dd _ ed)
        obtain ⟨od, ho, hl⟩ := lookIn_ns nsD
        exact fin (od := some od) ⟨at0, z0.1, by unfold PySem.W.notCls; rw [dt] <;> rfl, by rw [z0.2]; exact ho⟩
/-- f(e, .., k = v, ..) that may raise, wished for at the caller's slots -/
def tCallKS (sp : Sp) (gV : List V → List V → List V) (E : L2.St → XK) (t tk : TA) : TE := fun σ H Q => t σ H fun vs H1 => tk σ H1 fun zs H2 => sp (gV vs zs) H2 Q (E σ)
theorem pe_callKS {CX : CXT} {k : Nat} {f : Addr} {fd : FuncData} {ps ks : List Str} {sp : Sp} {E : L2.St → XK} {x : Str} {p pos : Pos} {e : Expr} {es : List Expr} {kws : List Keyword} {t tk : TA} {g : List Value → List Value → List Value} {gV : List V → List V → List V}
    (F : FnOk X.prog X.w X.K X.mg X.base CX k f fd ps sp) (hr : Room k X.A) (hg : Gl X x) (hm : X.mg x = some (.ref f)) (hk : PySem.W.keepIn X.K (.ref f) = true) (hb : KBinds X.K fd ps ks g gV) (hx : ∀ σ, PassesAt CX X σ (E σ))
    (ha : PA X (e :: es) t) (hkw : PK X kws tk) (hall : (backToKw pos (keywordEach kws X.env)).all (·.1.isSome) = true := by rfl) (hks : (backToKw pos (keywordEach kws X.env)).filterMap (·.1) = ks := by rfl)
    (hdb : (x == ("__debug__" : Str)) = false := by decide) (he : starEach (e :: es) X.env = (false, eval e X.env) :: starEach es X.env := by rfl)
    (hpl : ((backTo pos (starEach (e :: es) X.env)).any (·.1) || (backToKw pos (keywordEach kws X.env)).any (·.1.isNone)) = false := by rfl) :
    PE X (.Call (.Name x p) (e :: es) kws pos) (tCallKS sp gV E t tk) := by
  refine ⟨fun pins s σ H Q I h => ?_⟩
  refine wpAny_Call_Name_kw (ld_glob I hg hm ?_ hdb)
  refine PySem.W.callWith_KW (h₀ := X.base) I.ok.mod.kin hk hall (thn (ha.run pos pins s σ H _ I h) fun us s1 ⟨vs, H1, I1, r, q⟩ => ?_) hpl he
  refine thn (hkw.run pos pins s1 σ H1 _ I1 q) fun ws s2 ⟨zs, H2, I2, rz, q2⟩ => ⟨I2.kIn, ?_⟩
  rw [hks]
  have r2 := hb.rel r rz
  have hl : (g us ws).length = ps.length := by rw [← r2.length]; exact F.len _ _ _ _ q2
  refine wpAny_call (codeAny_mono (F.run X.A X.stack s2 H2 ⟨us, ks.zip ws⟩ (g us ws) (gV vs zs) Q (E σ) hr I2.env0 (hb.to s2 us ws I2.kIn hl) r2 q2) fun r s' hq => ?_)
  cases r with
  | error e => exact hx σ pins H2 s2 e s' I2 hq
  | ok fl =>
    cases fl with
    | ret u => exact I2.after hq
    | next => exact False.elim hq
    | brk => exact False.elim hq
    | cont => exact False.elim hq
/-- two promises of one def -/
theorem fn_or {P : Program} {w : World} {K : PySem.W.Frag} {mg : Str → Option Value} {base : Heap} {CX : CXT} {k : Nat} {f : Addr} {fd : FuncData} {ps : List Str} {sp sp2 : Sp} (F : FnOk P w K mg base CX k f fd ps sp) (G : FnOk P w K mg base CX k f fd ps sp2) : FnOk P w K mg base CX k f fd ps (fun vs H Q E => sp vs H Q E ∨ sp2 vs H Q E) :=
  ⟨fun vs H Q E h => h.elim (F.len vs H Q E) (G.len vs H Q E), fun A outer s H args us vs Q E hr e0 b r h => h.elim (F.run A outer s H args us vs Q E hr e0 b r) (G.run A outer s H args us vs Q E hr e0 b r)⟩
theorem op_or {f : Value → Value → Sem Value} {r1 r2 : R2} (h1 : OpR X f r1) (h2 : OpR X f r2) : OpR X f (fun x y H Q => r1 x y H Q ∨ r2 x y H Q) := by
  intro pins s σ H x y v u Q I rx ry h
  exact h.elim (h1 pins s σ H x y v u Q I rx ry) (h2 pins s σ H x y v u Q I rx ry)
theorem op_repA : OpR X (binaryOp .Mult) (fun x y H Q => TM.rRep01 X.K x y H Q ∨ rRepT X.K x y H Q) := op_or TM.op_rep01 op_repT
theorem rep_any {K : PySem.W.Frag} {G : Hp} {t : Addr} {x : V} {n : Nat} {T : VK} (h : SqT K G t [x]) (n1 : 1 ≤ n) (n2 : n ≤ 1000) (go : ∀ ot G', SqT K G' ot (List.replicate n x) → Same G G' → T (.ref ot) G') : TM.rRep01 K (.ref t) (.int n) G T ∨ rRepT K (.ref t) (.int n) G T := by
  by_cases e : n = 1
  · subst e
    exact .inl ⟨t, _, _, rfl, rfl, h, by simp, .inl ⟨rfl, go t G h (Same.refl G)⟩⟩
  · refine .inr ⟨t, n, _, rfl, rfl, h, by simp, by omega, by omega, by simp, fun p np => ?_⟩
    have e2 : (List.replicate ((n : Nat) : Int).toNat [x]).flatten = List.replicate n x := by
      rw [Int.toNat_natCast, List.flatten_replicate_singleton]
    rw [e2]
    exact go p _ (SqT.of upd_same) (same_new np)
end
section
variable {X : Cx}
theorem call_reprBl : CallR X (.builtin "repr") (fun xs H Q => ∃ b, xs = [.bl b] ∧ Q (.str (if b then "True" else "False")) H) := by
  intro pins s σ H xs us Q I rel hyp
  obtain ⟨b, rfl, fin⟩ := hyp
  obtain ⟨u, rfl, ru⟩ := vals1 rel
  cases ru
  exact PySem.P.repr_of_bool ⟨.str _, H, I.tok _, ⟨_, rfl⟩, fin⟩
end
/-! how keywords come to parameters -/
def g21 {α : Type} : List α → List α → List α
  | [a, b], [c] => [a, b, c]
  | _, _ => []
def gS2 {α : Type} : List α → List α → List α
  | [], [c, d] => [c, d]
  | _, _ => []
def gR2 {α : Type} : List α → List α → List α
  | [], [c, d] => [d, c]
  | _, _ => []
def gR3 {α : Type} : List α → List α → List α
  | [], [c, d, e] => [e, d, c]
  | _, _ => []
theorem g21_rel {vs zs : List V} {us ws : List Value} (r : Vals vs us) (rz : Vals zs ws) : Vals (g21 vs zs) (g21 us ws) := by
  match vs, us, r, zs, ws, rz with
  | _, _, .cons r1 (.cons r2 .nil), _, _, .cons r3 .nil => exact .cons r1 (.cons r2 (.cons r3 .nil))
  | _, _, .nil, _, _, _ => exact .nil
  | _, _, .cons _ .nil, _, _, _ => exact .nil
  | _, _, .cons _ (.cons _ (.cons _ _)), _, _, _ => exact .nil
  | _, _, .cons _ (.cons _ .nil), _, _, .nil => exact .nil
  | _, _, .cons _ (.cons _ .nil), _, _, .cons _ (.cons _ _) => exact .nil
theorem gS2_rel {vs zs : List V} {us ws : List Value} (r : Vals vs us) (rz : Vals zs ws) : Vals (gS2 vs zs) (gS2 us ws) := by
  match vs, us, r, zs, ws, rz with
  | _, _, .nil, _, _, .cons r1 (.cons r2 .nil) => exact .cons r1 (.cons r2 .nil)
  | _, _, .cons _ _, _, _, _ => exact .nil
  | _, _, .nil, _, _, .nil => exact .nil
  | _, _, .nil, _, _, .cons _ .nil => exact .nil
  | _, _, .nil, _, _, .cons _ (.cons _ (.cons _ _)) => exact .nil
theorem gR2_rel {vs zs : List V} {us ws : List Value} (r : Vals vs us) (rz : Vals zs ws) : Vals (gR2 vs zs) (gR2 us ws) := by
  match vs, us, r, zs, ws, rz with
  | _, _, .nil, _, _, .cons r1 (.cons r2 .nil) => exact .cons r2 (.cons r1 .nil)
  | _, _, .cons _ _, _, _, _ => exact .nil
  | _, _, .nil, _, _, .nil => exact .nil
  | _, _, .nil, _, _, .cons _ .nil => exact .nil
  | _, _, .nil, _, _, .cons _ (.cons _ (.cons _ _)) => exact .nil
theorem gR3_rel {vs zs : List V} {us ws : List Value} (r : Vals vs us) (rz : Vals zs ws) : Vals (gR3 vs zs) (gR3 us ws) := by
  match vs, us, r, zs, ws, rz with
  | _, _, .nil, _, _, .cons r1 (.cons r2 (.cons r3 .nil)) => exact .cons r3 (.cons r2 (.cons r1 .nil))
  | _, _, .cons _ _, _, _, _ => exact .nil
  | _, _, .nil, _, _, .nil => exact .nil
  | _, _, .nil, _, _, .cons _ .nil => exact .nil
  | _, _, .nil, _, _, .cons _ (.cons _ .nil) => exact .nil
  | _, _, .nil, _, _, .cons _ (.cons _ (.cons _ (.cons _ _))) => exact .nil
theorem g21_len {α : Type} {us ws : List α} (h : (g21 us ws).length = 3) : ∃ a b c, us = [a, b] ∧ ws = [c] := by
  unfold g21 at h
  split at h
  · exact ⟨_, _, _, rfl, rfl⟩
  · simp at h
theorem gS2_len {α : Type} {us ws : List α} (h : (gS2 us ws).length = 2) : ∃ c d, us = [] ∧ ws = [c, d] := by
  unfold gS2 at h
  split at h
  · exact ⟨_, _, rfl, rfl⟩
  · simp at h
theorem gR2_len {α : Type} {us ws : List α} (h : (gR2 us ws).length = 2) : ∃ c d, us = [] ∧ ws = [c, d] := by
  unfold gR2 at h
  split at h
  · exact ⟨_, _, rfl, rfl⟩
  · simp at h
theorem gR3_len {α : Type} {us ws : List α} (h : (gR3 us ws).length = 3) : ∃ c d e, us = [] ∧ ws = [c, d, e] := by
  unfold gR3 at h
  split at h
  · exact ⟨_, _, _, rfl, rfl⟩
  · simp at h
end QA

set_option maxHeartbeats 4000000
namespace PP
open PySem PySem.Spec PyProof.Rows L2 G3 G4 M0 PA EE QA
abbrev nLimitOf : List Str := ["program", "many", "each"]
theorem scLimitOf : FnScope nLimitOf nLimitOf (defScope s_limit_of) := ⟨rfl, rfl, rfl, by decide +kernel, rfl, by decide +kernel, by decide +kernel⟩
section
variable {P : Program} {w : World} {K : PySem.W.Frag} {mg : Str → Option Value} {base : Heap}
/-- asked of a dict, False is told -/
def spDictNo : Sp := fun vs H Q _ => ∃ (a : Addr) (kvs : List (Key × V)), vs = [.ref a] ∧ H a = some (.dK kvs) ∧ Q (.bl false) H
theorem dict_len : ∀ vs H Q E, spDictNo vs H Q E → vs.length = 1 := fun vs H Q E h => by
  obtain ⟨a, kvs, rfl, _⟩ := h
  rfl
theorem ok_wholeD {f : Addr} {fd : FuncData} {k : Nat} (F : Fun K "is_whole" "is_whole" s_is_whole f fd) (mi : mg "isinstance" = none) (mn : mg "int" = none) : FnOk P w K mg base CX0 (k + 1) f fd ["thing"] spDictNo := by
  refine F.ok scWhole dict_len (fun cdv A outer s H vs Q E hr h => ?_)
  obtain ⟨a, kvs, rfl, ha, q⟩ := h
  have nd := scWhole.nd
  refine ⟨_, pss_one (ps_ret (pe_and (pe_callB call_isi (by rfl) mi PyProof.Rows.boot_isinstance (pa_cons (pv 0) (pa_cons (pe_bltn (by rfl) mn (u := .type "int") (by decide +kernel) (show RelV (.ty "int") (.type "int") from rfl)) pa_nil)))
    (pe_one pe_dead))), ?_⟩
  exact ⟨_, rfl, _, _, _, _, _, rfl, .ty "int", .base (.dK ha), (show PySem.W.kitOne K (.type "dict") (.type "int") = some false by kernel_rfl), _, rfl, iteF q⟩
theorem ok_noughtD {f : Addr} {fd : FuncData} {k : Nat} (F : Fun K "is_from_nought" "is_from_nought" s_is_from_nought f fd) (W : Def P w K mg base CX0 (k + 1) "is_whole" ["thing"] spDictNo) : FnOk P w K mg base CX0 (k + 1 + 1) f fd ["thing"] spDictNo := by
  refine F.ok scNought dict_len (fun cdv A outer s H vs Q E hr h => ?_)
  obtain ⟨a, kvs, rfl, ha, q⟩ := h
  have nd := scNought.nd
  refine ⟨_, pss_one (ps_ret (pe_and (pe_call W.ok hr (by rfl) W.g W.kp W.b .nil pass0 (pa_cons (pv 0) pa_nil)) (pe_one pe_dead))), ?_⟩
  exact ⟨_, rfl, a, kvs, rfl, ha, _, rfl, iteF q⟩
theorem ok_numberD {f : Addr} {fd : FuncData} {k : Nat} (F : Fun K "is_number" "is_number" s_is_number f fd) (N : Def P w K mg base CX0 (k + 1) "is_from_nought" ["thing"] spDictNo) : FnOk P w K mg base CX0 (k + 1 + 1) f fd ["thing"] spDictNo := by
  refine F.ok scNumber dict_len (fun cdv A outer s H vs Q E hr h => ?_)
  obtain ⟨a, kvs, rfl, ha, q⟩ := h
  have nd := scNumber.nd
  refine ⟨_, pss_one (ps_ret (pe_or (pe_cmpR op_isN (pv 0) pe_non (nomark _)) (pe_one (pe_call N.ok hr (by rfl) N.g N.kp N.b .nil pass0 (pa_cons (pv 0) pa_nil))))), ?_⟩
  exact ⟨_, rfl, rfl, _, rfl, iteF ⟨_, rfl, a, kvs, rfl, ha, q⟩⟩
/-- is_number of anything, a dict too -/
def spNumA (K : PySem.W.Frag) : Sp := fun vs H Q E => spAsk K mNumber vs H Q E ∨ spDictNo vs H Q E
/-- no number of turns -/
def NotNum (K : PySem.W.Frag) (H : Hp) (x : V) : Prop := (∃ d, Dp K H x d ∧ Fit d ∧ mNumber d = false) ∨ ∃ a kvs, x = .ref a ∧ H a = some (.dK kvs)
theorem NotNum.same {H H' : Hp} {x : V} (h : NotNum K H x) (s : Same H H') : NotNum K H' x := by
  rcases h with ⟨d, h1, h2, h3⟩ | ⟨a, kvs, rfl, h⟩
  · exact .inl ⟨d, dp_same s _ _ h1, h2, h3⟩
  · exact .inr ⟨a, kvs, rfl, s _ _ h⟩
theorem ask_no {H : Hp} {x : V} {Q : VK} {E : XK} (h : NotNum K H x) (q : ∀ H', Same H H' → Q (.bl false) H') : spNumA K [x] H Q E := by
  rcases h with ⟨d, h1, h2, h3⟩ | ⟨a, kvs, rfl, h⟩
  · exact .inl ⟨x, d, rfl, h1, h2, fun H' s => by rw [h3]; exact q H' s⟩
  · exact .inr ⟨a, kvs, rfl, h, q H (Same.refl H)⟩
theorem fit_num (n : Num) : Fit n.d := by
  cases n with
  | none => exact ⟨by simp only [Num.d, PyData.canLay0], by simp only [Num.d, PyData.depth]; decide, by simp only [Num.d, PyData.bulk]; decide⟩
  | some i => exact fit_int i
theorem ask_yes {H : Hp} {n : Num} {Q : VK} {E : XK} (h : mNumber n.d = true) (q : ∀ H', Same H H' → Q (.bl true) H') : spNumA K [n.v] H Q E :=
  .inl ⟨n.v, n.d, rfl, Num.dp n, fit_num n, fun H' s => by rw [h]; exact q H' s⟩
def spLimOf (K : PySem.W.Frag) (C : Addr) : Sp := fun vs H Q E => ∃ (v x y : V) (p : Prog), vs = [v, x, y] ∧ Dp K H v (progD p) ∧ ProgOk p ∧
  ((∃ a b : Num, x = a.v ∧ y = b.v ∧ mNumber a.d = true ∧ mNumber b.d = true ∧ ∀ H' u, Same H H' → Dp K H' u (limD (a, List.replicate p.2.length b)) → Q u H') ∨
   ((NotNum K H x ∨ ∃ a : Num, x = a.v ∧ mNumber a.d = true ∧ NotNum K H y) ∧ ∀ d H', Same H H' → DictOf H' d → E (.ref C) d H'))
theorem ok_limitof {f : Addr} {fd : FuncData} {k : Nat} {dvs : List V} {kws : List (Str × V)} (F : FunD K "limit_of" "limit_of" (defArgs s_limit_of) (defBody s_limit_of) (defScope s_limit_of) dvs kws f fd) (S : Err P w K mg base "NoLimit" []) (L : Def P w K mg base CX0 (k + 2) "look_at_program" ["thing"] (spLook K)) (N : Def P w K mg base CX0 (k + 2) "is_number" ["thing"] (spNumA K)) (ml : mg "len" = none) :
    FnOk P w K mg base (L2.CX P w) (k + 2 + 1) f fd ["program", "many", "each"] (spLimOf K S.C) := by
  refine F.ok scLimitOf (fun vs H Q E h => ?_) (fun cdv A outer s H vs Q E hr h => ?_)
  · obtain ⟨v, x, y, p, rfl, _⟩ := h
    rfl
  obtain ⟨v, x, y, p, rfl, hv, ok, h⟩ := h
  have nd := scLimitOf.nd
  refine ⟨_, pss_cons (ps_expr (pe_call L.ok hr (by rfl) L.g L.kp L.b .nil pass0 (pa_cons (pv 0) pa_nil)))
    (pss_cons (ps_if (PW.pt (pw_or (pt_not (pt_val (pe_call N.ok hr (by rfl) N.g N.kp N.b .nil pass0 (pa_cons (pv 1) pa_nil))))
      (pw_or1 (pt_not (pt_val (pe_call N.ok hr (by rfl) N.g N.kp N.b .nil pass0 (pa_cons (pv 2) pa_nil)))))))
      (pss_one (ps_raise0 rfl (takes_of rfl rfl rfl rfl) S (hr.mono (by omega)) (by rfl))) pss_nil)
    (pss_one (ps_ret (pe_tup (pa_cons (pv 1) (pa_cons (pe_op op_repA (pe_tup (pa_cons (pv 2) pa_nil)) (pe_callB call_len_seq (by rfl) ml PySem.boot_len (pa_cons (pe_ix ix_tup (pv 0) pe_int (fun _ _ => rfl)) pa_nil))) pa_nil)))))), ?_⟩
  refine ⟨_, rfl, v, p, rfl, hv, ok, fun H1 s1 => ?_⟩
  rcases h with ⟨a, b, rfl, rfl, ha, hb, q⟩ | ⟨bad, q⟩
  · refine ⟨_, rfl, ask_yes ha fun H2 s2 => ⟨_, rfl, iteF ⟨_, rfl, ask_yes hb fun H3 s3 => ⟨_, rfl, iteF ?_⟩⟩⟩⟩
    have s13 := s1.trans (s2.trans s3)
    obtain ⟨va, x1, x2, rfl, hva, d1, d2⟩ := dp2 hv
    obtain ⟨xa, xs, rfl, hxa, hxs⟩ := dp_tup d2
    have hxl : xs.length = p.2.length := by rw [dpAll_len hxs, List.length_map]
    have o1 := ok.one
    have o2 := ok.few
    refine ⟨_, rfl, _, rfl, lz1, fun t nt => ?_⟩
    have s4 := same_new (o := .tup [b.v]) nt
    have s14 := s13.trans s4
    refine ⟨_, rfl, va, _, 1, _, rfl, rfl, same_tup s14 hva, atI_nat (j := 1) rfl, xa, _, rfl, .inr (same_tup s14 hxa), ?_⟩
    rw [hxl]
    refine rep_any (SqT.of upd_same) o1 (by omega) fun ot G hot sG => ⟨lz2, fun u nu => ?_⟩
    have s5 := same_new (o := .tup [a.v, .ref ot]) nu
    refine q _ _ (s14.trans (sG.trans s5)) (.tup (SqT.of upd_same) (.cons (Num.dp a) (.cons (.tup (xs := List.replicate p.2.length b.v) (same_tup s5 hot) ?_) .nil)))
    show DpAll K _ (List.replicate p.2.length b.v) ((List.replicate p.2.length b).map Num.d)
    rw [show List.replicate p.2.length b.v = (List.replicate p.2.length b).map Num.v by rw [List.map_replicate]]
    exact dpAll_map _ fun n _ => Num.dp n
  · rcases bad with bad | ⟨a, rfl, ha, bad⟩
    · exact ⟨_, rfl, ask_no (bad.same s1) fun H2 s2 => ⟨_, rfl, iteT (iteT fun d H' s' => q d H' (s1.trans (s2.trans s')))⟩⟩
    · exact ⟨_, rfl, ask_yes ha fun H2 s2 => ⟨_, rfl, iteF ⟨_, rfl, ask_no (bad.same (s1.trans s2)) fun H3 s3 => ⟨_, rfl, iteT fun d H' s' => q d H' (s1.trans (s2.trans (s3.trans s')))⟩⟩⟩⟩
end
end PP

set_option maxHeartbeats 4000000
namespace PP
open PySem PySem.Spec PyProof.Rows L2 G3 G4 M0 PA EE QA EC
structure FitN (n m : Nat) (d : PyData) : Prop where
  lay : d.canLay0 = true
  dep : d.depth ≤ n
  blk : d.bulk ≤ m
theorem FitN.up {n m n2 m2 : Nat} {d : PyData} (h : FitN n m d) (a : n ≤ n2) (b : m ≤ m2) : FitN n2 m2 d := ⟨h.lay, Nat.le_trans h.dep a, Nat.le_trans h.blk b⟩
theorem FitN.fit {n m : Nat} {d : PyData} (h : FitN n m d) (a : n ≤ 20) (b : m ≤ 100000) : Fit d := ⟨h.lay, Nat.le_trans h.dep a, Nat.le_trans h.blk b⟩
theorem FitN.tup {n m : Nat} {ds : List PyData} (h : ∀ x ∈ ds, FitN n m x) (hk : ds.length ≤ 5) : FitN (n + 1) ((m + 1) * 5) (.tuple ds) :=
  ⟨by simp only [PyData.canLay0]; exact lay_all fun x hx => (h x hx).lay, depth_tuple fun x hx => (h x hx).dep, bulk_tuple (fun x hx => (h x hx).blk) hk⟩
theorem FitN.lst {n m : Nat} {ds : List PyData} (h : ∀ x ∈ ds, FitN n m x) (hk : ds.length ≤ 5) : FitN (n + 1) ((m + 1) * 5) (.list ds) :=
  ⟨by simp only [PyData.canLay0]; exact lay_all fun x hx => (h x hx).lay, depth_list fun x hx => (h x hx).dep, bulk_list (fun x hx => (h x hx).blk) hk⟩
theorem fitn_num (n : Num) : FitN 1 10 n.d := by
  cases n with
  | none => exact ⟨by simp only [Num.d, PyData.canLay0], by simp only [Num.d, PyData.depth]; decide, by simp only [Num.d, PyData.bulk]; decide⟩
  | some i => exact ⟨by simp only [Num.d, PyData.canLay0], by simp only [Num.d, PyData.depth]; decide, by simp only [Num.d, PyData.bulk]; decide⟩
theorem dp_new {K : PySem.W.Frag} {G : Hp} {t : Addr} {vs : List V} {ds : List PyData} (nt : G t = none) (h : DpAll K G vs ds) : Dp K (upd G t (.tup vs)) (.ref t) (.tuple ds) := .tup (SqT.of upd_same) (dpAll_same (same_new nt) _ _ h)
abbrev nOdd : List Str := ["_law_pool_here", "_law_prog", "_law_bound_here", "_law_odd", "_law_some", "_law_item", "_law_bad", "_law_number_here", "_law_own", "_law_kept", "e"]
theorem scOdd : FnScope nOdd ["_law_pool_here", "_law_prog", "_law_bound_here"] (defScope s_law_odd_right) := ⟨rfl, rfl, rfl, by decide +kernel, rfl, by decide +kernel, by decide +kernel⟩
/-- what may be asked about -/
def Good (K : PySem.W.Frag) (H : Hp) (x : V) : Prop := ∃ d, Dp K H x d ∧ Fit d
theorem Good.same {K : PySem.W.Frag} {H H' : Hp} {x : V} (h : Good K H x) (s : Same H H') : Good K H' x := by
  obtain ⟨d, h1, h2⟩ := h
  exact ⟨d, dp_same s _ _ h1, h2⟩
theorem two_ix {α : Type} {a b x : α} {i : Nat} (h : [a, b][i]? = some x) : x = a ∨ x = b := by
  have := List.mem_of_getElem? h
  simpa using this
section
variable {P : Program} {w : World} {K : PySem.W.Frag} {mg : Str → Option Value} {base : Heap}
def spOdd (K : PySem.W.Frag) : Sp := fun vs H Q _ => ∃ (p : Addr) (v u : V) (pr : Prog) (l : Lim), vs = [.ref p, v, u] ∧ Pool H p ∧ Dp K (off p H) v (progD pr) ∧ ProgOk pr ∧ Dp K (off p H) u (limD l) ∧ l.2.length = pr.2.length ∧
  ∀ H', Pool H' p → Same (off p H) (off p H') → Q (.bl true) H'
/-- a def that is called by names alone, or with what it has by default -/
structure DefK (P : Program) (w : World) (K : PySem.W.Frag) (mg : Str → Option Value) (base : Heap) (CX : CXT) (k : Nat) (x : Str) (ps : List Str) (sp : Sp) where
  f : Addr
  d : FuncData
  ok : FnOk P w K mg base CX k f d ps sp
  g : mg x = some (.ref f)
  kp : PySem.W.keepIn K (.ref f) = true
/-- what the law finds about errors -/
structure OddX (P : Program) (w : World) (K : PySem.W.Frag) (mg : Str → Option Value) (base : Heap) where
  S : Err P w K mg base "NoLimit" []
  cT : Addr
  gT : mg "TurnsError" = some (.ref cT)
  ex : PySem.W.exmOne K (.ref S.C) (.ref S.C) = some true
  kt : PySem.W.kitOne K (.ref S.C) (.ref cT) = some true
  dL : DefK P w K mg base (L2.CX P w) 6 "limit_of" ["program", "many", "each"] (spLimOf K S.C)
  kL : KBinds K dL.d ["program", "many", "each"] ["each"] g21 g21
set_option maxHeartbeats 16000000 in
theorem ok_odd {f : Addr} {fd : FuncData} (F : Fun K "_law_odd_right" "_law_odd_right" s_law_odd_right f fd) (Y : OddX P w K mg base) (T : Def P w K mg base CX0 6 "_law_take" ["_law_pool_here", "_law_total"] spTake)
    (I : Def P w K mg base CX0 6 "is_limit" ["program", "thing"] (spLimit K)) (B : Def P w K mg base CX0 6 "_law_is_bound" ["_law_prog", "_law_item"] (spLimit K)) (ml : mg "list" = none) (mr : mg "repr" = none) (mi : mg "isinstance" = none) :
    FnOk P w K mg base CX0 (6 + 1) f fd ["_law_pool_here", "_law_prog", "_law_bound_here"] (spOdd K) := by
  refine F.ok scOdd (fun vs H Q E h => ?_) (fun cdv A outer s H vs Q E hr h => ?_)
  · obtain ⟨p, v, u, pr, l, rfl, _⟩ := h
    rfl
  obtain ⟨p, v, u, pr, l, rfl, pl, hv, ok, hu, hl, q⟩ := h
  have nd := scOdd.nd
  refine ⟨_, pss_cons (ps_set (i := 3) nd rfl (.inl rfl) (pe_ix ix_list (pe_lst (pa_cons pe_bl (pa_cons (pe_un un_neg pe_int) (pa_cons pe_str (pa_cons (pe_tup pa_nil) (pa_cons (pe_lst (pa_cons pe_int pa_nil)) (pa_cons pe_int (pa_cons pe_non pa_nil)))))))) (pe_call T.ok hr (by rfl) T.g T.kp T.b .nil pass0 (pa_cons (pv 0) (pa_cons pe_int pa_nil))) (fun _ _ => rfl)))
    (pss_cons (ps_set (i := 4) nd rfl (.inl rfl) (pe_lst (pa_cons (pv 2)
      (pa_cons (pe_tup (pa_cons (pv 3) (pa_cons (pe_ix ix_tup (pv 2) pe_int (fun _ _ => rfl)) pa_nil)))
      (pa_cons (pe_tup (pa_cons (pe_ix ix_tup (pv 2) pe_int (fun _ _ => rfl)) (pa_cons (pe_op op_catA (pe_tup (pa_cons (pv 3) pa_nil)) (pe_slice sl_tupA (pe_ix ix_tup (pv 2) pe_int (fun _ _ => rfl)) (po_some pe_int) po_none)) pa_nil)))
      (pa_cons (pe_tup (pa_cons (pe_ix ix_tup (pv 2) pe_int (fun _ _ => rfl)) (pa_cons (pv 3) pa_nil)))
      (pa_cons (pe_slice sl_tupA (pv 2) po_none (po_some pe_int))
      (pa_cons (pe_callTy call_list_of (by rfl) ml (by decide +kernel) (pa_cons (pv 2) pa_nil))
      (pa_cons (pv 3) pa_nil)))))))))
    (pss_cons (ps_set (i := 4) nd rfl (.inl rfl) (pe_op op_cat (pv 4) (pe_lst
      (pa_cons (pe_tup (pa_cons (pe_ix ix_tup (pv 2) pe_int (fun _ _ => rfl)) (pa_cons (pe_op op_catA (pe_ix ix_tup (pv 2) pe_int (fun _ _ => rfl)) (pe_tup (pa_cons pe_int pa_nil))) pa_nil)))
      (pa_cons (pe_tup (pa_cons (pe_ix ix_tup (pv 2) pe_int (fun _ _ => rfl)) (pa_cons (pe_slice sl_tupA (pe_ix ix_tup (pv 2) pe_int (fun _ _ => rfl)) (po_some pe_int) po_none) pa_nil)))
      (pa_cons (pe_op op_catA (pv 2) (pe_tup (pa_cons pe_non pa_nil))) pa_nil))))))
    (pss_cons (ps_for PassesOwn.never rfl (pi_list (pv 4)) (pg_name (i := 5) nd rfl (.inl rfl))
      (pss_one (ps_if (pt_cmpR op_ne (pe_callB call_reprBl (by rfl) mr (by decide +kernel) (pa_cons (pe_call I.ok hr (by rfl) I.g I.kp I.b .nil pass0 (pa_cons (pv 1) (pa_cons (pv 5) pa_nil))) pa_nil)) (pe_callB call_reprBl (by rfl) mr (by decide +kernel) (pa_cons (pe_call B.ok hr (by rfl) B.g B.kp B.b .nil pass0 (pa_cons (pv 1) (pa_cons (pv 5) pa_nil))) pa_nil)) (nomark _)) (pss_one (ps_ret pe_bl)) pss_nil)))
    (pss_cons (ps_for PassesOwn.never rfl (pi_list (pe_lst (pa_cons pe_bl (pa_cons (pe_un un_neg pe_int) (pa_cons pe_str (pa_cons (pe_tup pa_nil) (pa_cons (pe_lst pa_nil) (pa_cons pe_dnewK pa_nil)))))))) (pg_name (i := 6) nd rfl (.inl rfl))
      (pss_one (ps_for PassesOwn.never rfl (pi_list (pe_lst (pa_cons (pe_tup (pa_cons (pv 6) (pa_cons pe_int pa_nil))) (pa_cons (pe_tup (pa_cons pe_int (pa_cons (pv 6) pa_nil))) pa_nil)))) (pg_tup rfl (pgs_cons (pg_name (i := 7) nd rfl (.inl rfl)) (pgs_cons (pg_name (i := 8) nd rfl (.inl rfl)) pgs_nil)))
        (pss_cons (ps_set (i := 9) nd rfl (.inl rfl) pe_non)
        (pss_cons (ps_try_kept (i := 10) (c := .ref Y.S.C) (tb := fun W => tDrop (tCallKS (spLimOf K Y.S.C) g21 (WE W) (tCons (tVar 1) (tCons (tVar 7) tNil)) (tCons (tVar 8) tNil))) (ts := fun a cls d => tAsg (tVar 10) (gName 9)) rfl rfl nd rfl rfl ⟨by rfl, by decide, .inl Y.S.g⟩ rfl
            (fun W pn xe tk po => pss_one (ps_expr (pe_callKS Y.dL.ok hr (by rfl) Y.dL.g Y.dL.kp Y.kL (fun σ => passAt tk σ) (pa_cons (pv 1) (pa_cons (pv 7) pa_nil)) (pk_cons (pv 8) pk_nil))))
            (fun a oe cls d pn hz hf => pss_one (ps_set (i := 9) nd rfl (.inl rfl) (pv 10))))
        (pss_one (ps_if (pt_not (pt_val (pe_callB call_isKept (by rfl) mi PyProof.Rows.boot_isinstance (pa_cons (pv 9) (pa_cons (pe_glob (v := .ref Y.cT) (by rfl) Y.gT rfl) pa_nil))))) (pss_one (ps_ret pe_bl)) pss_nil)))))))
    (pss_one (ps_ret pe_bl)))))), ?_⟩
  -- what is drawn
  refine ⟨1, rfl, Nat.zero_le _, fun t1 n1 => ⟨lz1, fun t2 n2 => ⟨by show 7 ≤ sizeLine; decide, fun x nx => ?_⟩⟩⟩
  have s1 := same_new (o := .tup []) n1
  have s2 := same_new (o := .lst [.int 1]) n2
  have s3 := same_new (o := .lst [.bl true, .int (-1), .str "1", .ref t1, .ref t2, .int 1, .non]) nx
  have a1 := s3 t1 _ (s2 _ _ upd_same)
  have a2 := s3 t2 _ upd_same
  have a3 : upd (upd (upd H t1 (.tup [])) t2 (.lst [.int 1])) x (.lst [.bl true, .int (-1), .str "1", .ref t1, .ref t2, .int 1, .non]) x = some (.lst [.bl true, .int (-1), .str "1", .ref t1, .ref t2, .int 1, .non]) := upd_same
  have sA := s1.trans (s2.trans s3)
  have pl1 := pool_same pl sA
  have x1 : t1 ≠ p := pool_ne pl n1
  have x2 : t2 ≠ p := pool_ne (pool_same pl s1) n2
  have x3 : x ≠ p := pool_ne (pool_same pl (s1.trans s2)) nx
  generalize upd (upd (upd H t1 (.tup [])) t2 (.lst [.int 1])) x (.lst [.bl true, .int (-1), .str "1", .ref t1, .ref t2, .int 1, .non]) = H1 at a1 a2 a3 sA pl1 ⊢
  clear s1 s2 s3 n1 n2 nx
  refine ⟨_, rfl, p, 7, rfl, pl1, by decide, by decide, fun H2 r pl2 o2 r0 r1 => ?_⟩
  have sB : Same (off p H) (off p H2) := by
    rw [o2]
    exact off_mono sA
  have b1 : H2 t1 = some (.tup []) := off_sub _ _ (by rw [o2, off_ne x1]; exact a1)
  have b2 : H2 t2 = some (.lst [.int 1]) := off_sub _ _ (by rw [o2, off_ne x2]; exact a2)
  have b3 : H2 x = some (.lst [.bl true, .int (-1), .str "1", .ref t1, .ref t2, .int 1, .non]) := off_sub _ _ (by rw [o2, off_ne x3]; exact a3)
  have hv2 : Dp K H2 v (progD pr) := dp_same (sB.trans off_sub) _ _ hv
  have hu2 : Dp K H2 u (limD l) := dp_same (sB.trans off_sub) _ _ hu
  obtain ⟨od, dd, hat, hod, fod⟩ : ∃ (od : V) (dd : PyData), atI [V.bl true, .int (-1), .str "1", .ref t1, .ref t2, .int 1, .non] r = some od ∧ Dp K H2 od dd ∧ FitN 1 10 dd := by
    have : r = 0 ∨ r = 1 ∨ r = 2 ∨ r = 3 ∨ r = 4 ∨ r = 5 ∨ r = 6 := by omega
    rcases this with rfl | rfl | rfl | rfl | rfl | rfl | rfl
    · exact ⟨_, _, atI_nat (j := 0) rfl, .bl true, ⟨by simp [PyData.canLay0], by simp [PyData.depth], by simp [PyData.bulk]⟩⟩
    · exact ⟨_, _, atI_nat (j := 1) rfl, .int (-1), ⟨by simp [PyData.canLay0], by simp [PyData.depth], by simp [PyData.bulk]⟩⟩
    · exact ⟨_, _, atI_nat (j := 2) rfl, .str "1", ⟨by decide +kernel, by simp [PyData.depth], by decide +kernel⟩⟩
    · exact ⟨_, _, atI_nat (j := 3) rfl, .tup (SqT.of b1) .nil, ⟨by simp [PyData.canLay0, PyData.canLayAll0], by simp [PyData.depth, PyData.depthAll], by simp [PyData.bulk, PyData.bulkAll]⟩⟩
    · exact ⟨_, _, atI_nat (j := 4) rfl, .lst (SqL.of b2) (.cons (.int 1) .nil), ⟨by simp [PyData.canLay0, PyData.canLayAll0], by simp [PyData.depth, PyData.depthAll], by simp [PyData.bulk, PyData.bulkAll]⟩⟩
    · exact ⟨_, _, atI_nat (j := 5) rfl, .int 1, ⟨by simp [PyData.canLay0], by simp [PyData.depth], by simp [PyData.bulk]⟩⟩
    · exact ⟨_, _, atI_nat (j := 6) rfl, .non, ⟨by simp [PyData.canLay0], by simp [PyData.depth], by simp [PyData.bulk]⟩⟩
  refine ⟨x, _, r, _, rfl, rfl, SqL.of b3, hat, ?_⟩
  clear hat b1 b2 b3 a1 a2 a3 o2 pl1 sA hv hu x1 x2 x3
  obtain ⟨ba, c1, c2, rfl, hba, d1, d2⟩ := dp2 hu2
  cases dp_num d1
  obtain ⟨na, ns, rfl, hna, hns⟩ := dp_tup d2
  have hnl : ns.length = l.2.length := by rw [dpAll_len hns, List.length_map]
  have l4 : l.2.length ≤ 4 := by have := ok.few; omega
  -- the first seven
  refine ⟨_, rfl, _, rfl, _, rfl, ba, _, 1, _, rfl, rfl, hba, atI_nat (j := 1) rfl, lz2, fun t1 n1 => ?_⟩
  have e1 : Dp K _ _ _ := dp_new n1 (.cons hod (.cons d2 .nil))
  have s1 := same_new (o := .tup [od, .ref na]) n1
  generalize upd H2 t1 (.tup [od, .ref na]) = G1 at e1 s1 ⊢
  refine ⟨_, rfl, ba, _, 0, _, rfl, rfl, same_tup s1 hba, atI_nat (j := 0) rfl, _, rfl, lz1, fun t2 n2 => ?_⟩
  have s2 := same_new (o := .tup [od]) n2
  have e2 : SqT K _ t2 [od] := SqT.of (H := upd G1 t2 (.tup [od])) upd_same
  generalize upd G1 t2 (.tup [od]) = G2 at e2 s2 ⊢
  have s12 := s1.trans s2
  refine ⟨_, rfl, ba, _, 1, _, rfl, rfl, same_tup s12 hba, atI_nat (j := 1) rfl, 1, rfl, ?_⟩
  unfold tNoPart
  refine sl_any (same_tup s12 hna) fun c3 G3 hc3 s3 => ?_
  have l3 := cutV_length ns (some (1 : Int)) none
  refine cat_two (same_tup s3 e2) hc3 (by show 1 + _ ≤ 1000; omega) fun c4 G4 hc4 s4 => ⟨lz2, fun t5 n5 => ?_⟩
  have ld : ∀ d ∈ l.2.map Num.d, FitN 1 10 d := fun d hd => by
    obtain ⟨n, _, rfl⟩ := List.mem_map.mp hd
    exact fitn_num n
  have s14 := s12.trans (s3.trans s4)
  have e3 : DpAll K G4 ([od] ++ cutV ns (some 1) none) (dd :: (l.2.map Num.d).drop 1) := .cons (dp_same s14 _ _ hod) (by
    have z := dpAll_drop 1 (dpAll_same s14 _ _ hns)
    rw [← cut_drop] at z
    exact z)
  have f3 : FitN 2 55 (.tuple (dd :: (l.2.map Num.d).drop 1)) := FitN.tup (n := 1) (m := 10) (fun d hd => by
    rcases List.mem_cons.mp hd with rfl | hd
    · exact fod
    · exact ld d (List.mem_of_mem_drop hd)) (by rw [List.length_cons, List.length_drop, List.length_map]; omega)
  have e5 : Dp K _ _ _ := dp_new (vs := [l.1.v, .ref c4]) n5 (.cons (Num.dp l.1) (.cons (.tup hc4 e3) .nil))
  have s5 := same_new (o := .tup [l.1.v, .ref c4]) n5
  generalize upd G4 t5 (.tup [l.1.v, .ref c4]) = G5 at e5 s5 ⊢
  have s15 := s14.trans s5
  refine ⟨_, rfl, ba, _, 0, _, rfl, rfl, same_tup s15 hba, atI_nat (j := 0) rfl, _, rfl, lz2, fun t6 n6 => ?_⟩
  have e6 : Dp K _ _ _ := dp_new (vs := [l.1.v, od]) n6 (.cons (Num.dp l.1) (.cons (dp_same s15 _ _ hod) .nil))
  have s6 := same_new (o := .tup [l.1.v, od]) n6
  generalize upd G5 t6 (.tup [l.1.v, od]) = G6 at e6 s6 ⊢
  have s16 := s15.trans s6
  refine ⟨_, rfl, 1, rfl, sl_any (same_tup s16 hba) fun c7 G7 hc7 s7 => ?_⟩
  have s17 := s16.trans s7
  refine ⟨_, rfl, ba, _, rfl, .inr (same_tup s17 hba), fun l8 n8 => ⟨_, rfl, by show 7 ≤ sizeLine; decide, fun S nS => ?_⟩⟩
  have e7 : Dp K G7 (.ref c7) (.tuple [l.1.d]) := .tup hc7 (.cons (Num.dp l.1) .nil)
  have s8 := same_new (o := .lst [l.1.v, .ref na]) n8
  have e8 : Dp K (upd G7 l8 (.lst [l.1.v, .ref na])) (.ref l8) (.list [l.1.d, .tuple (l.2.map Num.d)]) := .lst (SqL.of upd_same) (.cons (Num.dp l.1) (.cons (dp_same (s17.trans s8) _ _ d2) .nil))
  generalize upd G7 l8 (.lst [l.1.v, .ref na]) = G8 at e8 s8 nS ⊢
  have s18 := s17.trans s8
  have s9 := same_new (o := .lst [.ref ba, .ref t1, .ref t5, .ref t6, .ref c7, .ref l8, od]) nS
  have hS : upd G8 S (.lst [.ref ba, .ref t1, .ref t5, .ref t6, .ref c7, .ref l8, od]) S = some (.lst [.ref ba, .ref t1, .ref t5, .ref t6, .ref c7, .ref l8, od]) := upd_same
  generalize upd G8 S (.lst [.ref ba, .ref t1, .ref t5, .ref t6, .ref c7, .ref l8, od]) = G9 at s9 hS ⊢
  have s19 := s18.trans s9
  -- three more
  refine ⟨_, rfl, _, rfl, ba, _, 0, _, rfl, rfl, same_tup s19 hba, atI_nat (j := 0) rfl, _, rfl, ba, _, 1, _, rfl, rfl, same_tup s19 hba, atI_nat (j := 1) rfl, lz1, fun q1 nq1 => ?_⟩
  have u1 := same_new (o := .tup [.int 0]) nq1
  have hq1 : SqT K (upd G9 q1 (.tup [.int 0])) q1 [.int 0] := SqT.of upd_same
  generalize upd G9 q1 (.tup [.int 0]) = K1 at u1 hq1 ⊢
  refine cat_two (same_tup (s19.trans u1) hna) hq1 (by show _ + 1 ≤ 1000; omega) fun q2 K2 hq2 u2 => ⟨lz2, fun q3 nq3 => ?_⟩
  have v2 := s19.trans (u1.trans u2)
  have g2 : DpAll K K2 (ns ++ [.int 0]) (l.2.map Num.d ++ [.int 0]) := dpAll_app (dpAll_same v2 _ _ hns) (.cons (.int 0) .nil)
  have k2 : FitN 2 55 (.tuple (l.2.map Num.d ++ [.int 0])) := FitN.tup (n := 1) (m := 10) (fun d hd => by
    rcases List.mem_append.mp hd with hd | hd
    · exact ld d hd
    · rw [List.mem_singleton.mp hd]
      exact fitn_num (some 0)) (by rw [List.length_append, List.length_map]; show l.2.length + 1 ≤ 5; omega)
  have g3 : Dp K _ _ _ := dp_new (vs := [l.1.v, .ref q2]) nq3 (.cons (Num.dp l.1) (.cons (.tup hq2 g2) .nil))
  have u3 := same_new (o := .tup [l.1.v, .ref q2]) nq3
  generalize upd K2 q3 (.tup [l.1.v, .ref q2]) = K3 at g3 u3 ⊢
  have v3 := v2.trans u3
  refine ⟨_, rfl, ba, _, 0, _, rfl, rfl, same_tup v3 hba, atI_nat (j := 0) rfl, _, rfl, ba, _, 1, _, rfl, rfl, same_tup v3 hba, atI_nat (j := 1) rfl, 1, rfl, ?_⟩
  dsimp only
  refine sl_any (same_tup v3 hna) fun q4 K4 hq4 u4 => ⟨lz2, fun q5 nq5 => ?_⟩
  have v4 := v3.trans u4
  have g4 : DpAll K K4 (cutV ns (some 1) none) ((l.2.map Num.d).drop 1) := by
    have z := dpAll_drop 1 (dpAll_same v4 _ _ hns)
    rw [← cut_drop] at z
    exact z
  have k4 : FitN 2 55 (.tuple ((l.2.map Num.d).drop 1)) := FitN.tup (n := 1) (m := 10) (fun d hd => ld d (List.mem_of_mem_drop hd)) (by rw [List.length_drop, List.length_map]; omega)
  have g5 : Dp K _ _ _ := dp_new (vs := [l.1.v, .ref q4]) nq5 (.cons (Num.dp l.1) (.cons (.tup hq4 g4) .nil))
  have u5 := same_new (o := .tup [l.1.v, .ref q4]) nq5
  generalize upd K4 q5 (.tup [l.1.v, .ref q4]) = K5 at g5 u5 ⊢
  have v5 := v4.trans u5
  refine ⟨_, rfl, lz1, fun q6 nq6 => ?_⟩
  have u6 := same_new (o := .tup [.non]) nq6
  have hq6 : SqT K (upd K5 q6 (.tup [.non])) q6 [.non] := SqT.of upd_same
  generalize upd K5 q6 (.tup [.non]) = K6 at u6 hq6 ⊢
  refine cat_two (same_tup (v5.trans u6) hba) hq6 (by show 2 + 1 ≤ 1000; decide) fun q7 K7 hq7 u7 => ⟨lz3, fun q8 nq8 => ?_⟩
  have v7 := v5.trans (u6.trans u7)
  have u8 := same_new (o := .lst [.ref q3, .ref q5, .ref q7]) nq8
  have hS8 : upd K7 q8 (.lst [.ref q3, .ref q5, .ref q7]) S = some (.lst [.ref ba, .ref t1, .ref t5, .ref t6, .ref c7, .ref l8, od]) := u8 _ _ (u7 _ _ (u6 _ _ (u5 _ _ (u4 _ _ (u3 _ _ (u2 _ _ (u1 _ _ hS)))))))
  refine ⟨S, q8, _, _, rfl, rfl, hS8, upd_same, by show 7 + 3 ≤ sizeLine; decide, fun W nW => ?_⟩
  have u9 := same_new (o := .lst ([.ref ba, .ref t1, .ref t5, .ref t6, .ref c7, .ref l8, od] ++ [.ref q3, .ref q5, .ref q7])) nW
  have hW : upd (upd K7 q8 (.lst [.ref q3, .ref q5, .ref q7])) W (.lst ([.ref ba, .ref t1, .ref t5, .ref t6, .ref c7, .ref l8, od] ++ [.ref q3, .ref q5, .ref q7])) W = some (.lst ([.ref ba, .ref t1, .ref t5, .ref t6, .ref c7, .ref l8, od] ++ [.ref q3, .ref q5, .ref q7])) := upd_same
  generalize upd (upd K7 q8 (.lst [.ref q3, .ref q5, .ref q7])) W (.lst ([.ref ba, .ref t1, .ref t5, .ref t6, .ref c7, .ref l8, od] ++ [.ref q3, .ref q5, .ref q7])) = KW at u9 hW ⊢
  have zK7 := u8.trans u9
  have zK5 := u6.trans (u7.trans zK7)
  have zK3 := u4.trans (u5.trans zK5)
  have zG9 := u1.trans (u2.trans (u3.trans zK3))
  have zG8 := s9.trans zG9
  have zG7 := s8.trans zG8
  have zG6 := s7.trans zG7
  have zG5 := s6.trans zG6
  have zG1 := s2.trans (s3.trans (s4.trans (s5.trans zG5)))
  have zH2 := s1.trans zG1
  have fl2 : FitN 2 55 (.tuple (l.2.map Num.d)) := FitN.tup (n := 1) (m := 10) ld (by rw [List.length_map]; omega)
  have fn2 : ∀ n : Num, FitN 2 55 n.d := fun n => (fitn_num n).up (by decide) (by decide)
  have fo2 : FitN 2 55 dd := fod.up (by decide) (by decide)
  have two : ∀ {a b : PyData}, FitN 2 55 a → FitN 2 55 b → Fit (.tuple [a, b]) := fun {a b} ha hb => (FitN.tup (n := 2) (m := 55) (fun d hd => by
    rcases List.mem_cons.mp hd with rfl | hd
    · exact ha
    · rw [List.mem_singleton.mp hd]
      exact hb) (by show 2 ≤ 5; decide)).fit (by decide) (by decide)
  have good : ∀ y ∈ [V.ref ba, .ref t1, .ref t5, .ref t6, .ref c7, .ref l8, od] ++ [.ref q3, .ref q5, .ref q7], Good K KW y := fun y hy => by
    simp only [List.cons_append, List.nil_append, List.mem_cons, List.not_mem_nil, or_false] at hy
    rcases hy with rfl | rfl | rfl | rfl | rfl | rfl | rfl | rfl | rfl | rfl
    · exact ⟨_, dp_same zH2 _ _ hu2, two (fn2 _) fl2⟩
    · exact ⟨_, dp_same zG1 _ _ e1, two fo2 fl2⟩
    · exact ⟨_, dp_same zG5 _ _ e5, two (fn2 _) f3⟩
    · exact ⟨_, dp_same zG6 _ _ e6, two (fn2 _) fo2⟩
    · exact ⟨_, dp_same zG7 _ _ e7, (FitN.tup (n := 2) (m := 55) (fun d hd => by rw [List.mem_singleton.mp hd]; exact fn2 _) (by show 1 ≤ 5; decide)).fit (by decide) (by decide)⟩
    · exact ⟨_, dp_same zG8 _ _ e8, (FitN.lst (n := 2) (m := 55) (fun d hd => by
        rcases List.mem_cons.mp hd with rfl | hd
        · exact fn2 _
        · rw [List.mem_singleton.mp hd]
          exact fl2) (by show 2 ≤ 5; decide)).fit (by decide) (by decide)⟩
    · exact ⟨_, dp_same zH2 _ _ hod, fod.fit (by decide) (by decide)⟩
    · exact ⟨_, dp_same zK3 _ _ g3, two (fn2 _) k2⟩
    · exact ⟨_, dp_same zK5 _ _ g5, two (fn2 _) k4⟩
    · exact ⟨.tuple ([l.1.d, .tuple (l.2.map Num.d)] ++ [.none]), dp_same zK7 _ _ (.tup hq7 (dpAll_app (.cons (Num.dp l.1) (.cons (dp_same v7 _ _ d2) .nil)) (.cons .non .nil))), (FitN.tup (n := 2) (m := 55) (fun d hd => by
        simp only [List.cons_append, List.nil_append, List.mem_cons, List.not_mem_nil, or_false] at hd
        rcases hd with rfl | rfl | rfl
        · exact fn2 _
        · exact fl2
        · exact fn2 none) (by show 3 ≤ 5; decide)).fit (by decide) (by decide)⟩
  have sKW : Same (off p H) (off p KW) := sB.trans (off_mono zH2)
  have plW : Pool KW p := pool_same pl2 zH2
  have hvW : Dp K KW v (progD pr) := dp_same zH2 _ _ hv2
  clear zK7 zK5 zK3 zG9 zG8 zG7 zG6 zG5 zG1 zH2 e1 e2 e3 e5 e6 e7 e8 g2 g3 g4 g5 u1 u2 u3 u4 u5 u6 u7 u8 u9 s1 s2 s3 s4 s5 s6 s7 s8 s9 s12 s14 s15 s16 s17 s18 s19 v2 v3 v4 v5 v7 hS hS8 hv2 hu2 hod sB
  generalize [V.ref ba, .ref t1, .ref t5, .ref t6, .ref c7, .ref l8, od] ++ [.ref q3, .ref q5, .ref q7] = items at hW good
  -- each of them
  refine ⟨_, rfl, W, rfl, ⟨_, SqL.of hW⟩, for_list (xs := items) (fun i σ G => ∃ y5, σ = [some (.ref p), some v, some (.ref ba), some od, some (.ref W), y5, none, none, none, none, none] ∧ Same KW G)
    ⟨none, rfl, Same.refl KW⟩ (fun i σ G _ hP => ?_) (fun i y σ G hy hP => ?_) (fun σ G hP => ?_)⟩
  · obtain ⟨_, _, sG⟩ := hP
    exact SqL.of (sG _ _ hW)
  · obtain ⟨y5, rfl, sG⟩ := hP
    obtain ⟨d, hd, ft⟩ := (good y (List.mem_of_getElem? hy)).same sG
    refine ⟨_, rfl, _, rfl, v, y, pr, d, rfl, dp_same sG _ _ hvW, ok, hd, ft, fun G2 sg2 => ⟨_, rfl, ?_⟩⟩
    refine ⟨_, rfl, _, rfl, v, y, pr, d, rfl, dp_same (sG.trans sg2) _ _ hvW, ok, dp_same sg2 _ _ hd, ft, fun G3 sg3 => ⟨_, rfl, rfl, _, rfl, ?_⟩⟩
    exact iteNS rfl ⟨_, rfl, sG.trans (sg2.trans sg3)⟩
  obtain ⟨y5, rfl, sG⟩ := hP
  -- what is no number
  refine ⟨1, rfl, Nat.zero_le _, fun t1 n1 => ⟨Nat.zero_le _, fun t2 n2 t3 n3 => ⟨by show 6 ≤ sizeLine; decide, fun L nL => ?_⟩⟩⟩
  have s1 := same_new (o := .tup []) n1
  have s2 := same_new (o := .lst []) n2
  have s3 := same_new (o := .dK []) n3
  have s4 := same_new (o := .lst [.bl true, .int (-1), .str "1", .ref t1, .ref t2, .ref t3]) nL
  have a1 := s4 t1 _ (s3 _ _ (s2 _ _ upd_same))
  have a2 := s4 t2 _ (s3 _ _ upd_same)
  have a3 := s4 t3 _ upd_same
  have hL : upd (upd (upd (upd G t1 (.tup [])) t2 (.lst [])) t3 (.dK [])) L (.lst [.bl true, .int (-1), .str "1", .ref t1, .ref t2, .ref t3]) L = some (.lst [.bl true, .int (-1), .str "1", .ref t1, .ref t2, .ref t3]) := upd_same
  have sL := sG.trans (s1.trans (s2.trans (s3.trans s4)))
  generalize upd (upd (upd (upd G t1 (.tup [])) t2 (.lst [])) t3 (.dK [])) L (.lst [.bl true, .int (-1), .str "1", .ref t1, .ref t2, .ref t3]) = GL at a1 a2 a3 hL sL ⊢
  have bad : ∀ y ∈ [V.bl true, .int (-1), .str "1", .ref t1, .ref t2, .ref t3], NotNum K GL y := fun y hy => by
    simp only [List.mem_cons, List.not_mem_nil, or_false] at hy
    rcases hy with rfl | rfl | rfl | rfl | rfl | rfl
    · exact .inl ⟨_, .bl true, ⟨by simp [PyData.canLay0], by simp [PyData.depth], by simp [PyData.bulk]⟩, rfl⟩
    · exact .inl ⟨_, .int (-1), fit_int _, rfl⟩
    · exact .inl ⟨_, .str "1", ⟨by decide +kernel, by simp [PyData.depth], by decide +kernel⟩, rfl⟩
    · exact .inl ⟨_, .tup (SqT.of a1) .nil, ⟨by simp [PyData.canLay0, PyData.canLayAll0], by simp [PyData.depth, PyData.depthAll], by simp [PyData.bulk, PyData.bulkAll]⟩, rfl⟩
    · exact .inl ⟨_, .lst (SqL.of a2) .nil, ⟨by simp [PyData.canLay0, PyData.canLayAll0], by simp [PyData.depth, PyData.depthAll], by simp [PyData.bulk, PyData.bulkAll]⟩, rfl⟩
    · exact .inr ⟨_, _, rfl, a3⟩
  have hvL := dp_same sL _ _ hvW
  generalize [V.bl true, .int (-1), .str "1", .ref t1, .ref t2, .ref t3] = bads at hL bad
  clear s1 s2 s3 s4 a1 a2 a3 n1 n2 n3 nL
  refine ⟨L, rfl, ⟨_, SqL.of hL⟩, for_list (xs := bads) (fun i σ G => ∃ y5 y6 y7 y8 y9, σ = [some (.ref p), some v, some (.ref ba), some od, some (.ref W), y5, y6, y7, y8, y9, none] ∧ Same GL G)
    ⟨_, _, _, _, _, rfl, Same.refl GL⟩ (fun i σ G _ hP => ?_) (fun i y σ G hy hP => ?_) (fun σ G hP => ?_)⟩
  · obtain ⟨_, _, _, _, _, _, sg⟩ := hP
    exact SqL.of (sg _ _ hL)
  · obtain ⟨y5, y6, y7, y8, y9, rfl, sg⟩ := hP
    have by0 := (bad y (List.mem_of_getElem? hy)).same sg
    refine ⟨_, rfl, lz2, fun ta na => ⟨_, rfl, lz2, fun tb nb => ⟨lz2, fun M nM => ?_⟩⟩⟩
    have s1 := same_new (o := .tup [y, .int 1]) na
    have s2 := same_new (o := .tup [.int 1, y]) nb
    have s3 := same_new (o := .lst [.ref ta, .ref tb]) nM
    have a1 := s3 ta _ (s2 _ _ upd_same)
    have a2 := s3 tb _ upd_same
    have hM : upd (upd (upd G ta (.tup [y, .int 1])) tb (.tup [.int 1, y])) M (.lst [.ref ta, .ref tb]) M = some (.lst [.ref ta, .ref tb]) := upd_same
    have sM := s1.trans (s2.trans s3)
    generalize upd (upd (upd G ta (.tup [y, .int 1])) tb (.tup [.int 1, y])) M (.lst [.ref ta, .ref tb]) = GM at a1 a2 hM sM ⊢
    have by1 := by0.same sM
    clear s1 s2 s3 na nb nM
    refine ⟨M, rfl, ⟨_, SqL.of hM⟩, for_list (xs := [.ref ta, .ref tb]) (fun i σ G => ∃ y7 y8 y9, σ = [some (.ref p), some v, some (.ref ba), some od, some (.ref W), y5, some y, y7, y8, y9, none] ∧ Same GM G)
      ⟨_, _, _, rfl, Same.refl GM⟩ (fun i σ G2 _ hP => ?_) (fun i z σ G2 hz hP => ?_) (fun σ G2 hP => ?_)⟩
    · obtain ⟨_, _, _, _, sg2⟩ := hP
      exact SqL.of (sg2 _ _ hM)
    · obtain ⟨y7, y8, y9, rfl, sg2⟩ := hP
      obtain ⟨tt, n, o, rfl, htt, hno⟩ : ∃ (tt : Addr) (n o : V), z = .ref tt ∧ G2 tt = some (.tup [n, o]) ∧ (NotNum K G2 n ∨ ∃ a : Num, n = a.v ∧ mNumber a.d = true ∧ NotNum K G2 o) := by
        rcases two_ix hz with rfl | rfl
        · exact ⟨ta, _, _, rfl, sg2 _ _ a1, .inl (by1.same sg2)⟩
        · exact ⟨tb, _, _, rfl, sg2 _ _ a2, .inr ⟨some 1, rfl, rfl, by1.same sg2⟩⟩
      refine ⟨tt, _, rfl, SqT.of htt, rfl, _, _, rfl, _, _, rfl, rfl, ?_⟩
      have hv3 := dp_same (sg.trans (sM.trans sg2)) _ _ hvL
      refine ⟨_, rfl, _, rfl, _, rfl, v, n, o, pr, rfl, hv3, ok, .inr ⟨hno, fun d G3 s3 dd3 => ?_⟩⟩
      refine ⟨true, Y.ex, fun _ a na => ?_, fun z => nomatch z⟩
      refine ⟨_, rfl, na, ?_⟩
      have s4 := same_new (o := exk a (.ref Y.S.C) d) na
      have dd4 : DictOf (upd G3 a (exk a (.ref Y.S.C) d)) d := by
        rcases dd3 with rfl | ⟨e, fs, rfl, he⟩
        · exact .inl rfl
        · exact .inr ⟨e, fs, rfl, s4 _ _ he⟩
      refine ⟨_, rfl, a, Y.S.C, d, _, _, true, rfl, upd_same, dd4, Y.S.E, .own _, Y.kt, _, rfl, iteF ?_⟩
      exact ⟨_, _, _, rfl, sg2.trans (s3.trans s4)⟩
    · obtain ⟨_, _, _, rfl, sg2⟩ := hP
      exact ⟨_, _, _, _, _, rfl, sg.trans (sM.trans sg2)⟩
  · obtain ⟨_, _, _, _, _, rfl, sg⟩ := hP
    exact q _ (pool_same plW (sL.trans sg)) (sKW.trans (off_mono (sL.trans sg)))
end
end PP

set_option maxHeartbeats 4000000
namespace EN
open PySem PySem.Spec PyProof.Rows L2 G3 M0
/-- enumerate(v) made -/
theorem new1 {v : Value} {o : Obj} {H : Heap → Prop} (B : Begins v o H) :
    Meets (Builtin.«enumerate.__new__» ⟨[.type "enumerate", v], []⟩) (fun _ R s => H s.heap ∧
      R (.ok (.ret (.ref (s.heap.push o).objs.size))) { s with heap := (s.heap.push o).push { cls := .type "enumerate", data := .fields #[.none, .bool false, .ref s.heap.objs.size, rawInt 0, .none, .none] } }) :=
  .of_wp fun prog w A R s h => by
    obtain ⟨hp, g, d, tk, os⟩ := s
    obtain ⟨h1, h⟩ := h
    have z1 := sub_enumerate
    have z2 : ∀ {A' : Around} {E : Value → Shared → Prop} {Q : Value → Shared → Prop}, Q (.ref hp.objs.size) ⟨hp.push o, g, d, tk, os⟩ → wpAny (model prog w) A' (pyIter v) Q E ⟨hp, g, d, tk, os⟩ := fun q => B.iter prog w _ _ ⟨hp, g, d, tk, os⟩ _ h1 q
    wp_walk using z2
    refine wpAny_stack_any fun st => wpAny_pure ?_
    split
    · rename_i c _ _ _ _ _
      cases (c == Value.type "enumerate") <;> (wp_walk using z2; exact ⟨_, rfl, h⟩)
    · wp_walk using z2
      exact ⟨_, rfl, h⟩
section
variable {prog : Program} {w : World} {A : Around} {E : Value → Shared → Prop} {s : Shared}
theorem begun1 {v : Value} {o : Obj} {H : Heap → Prop} {Q : Value → Shared → Prop} (B : Begins v o H) (h1 : H s.heap)
    (h : ∀ h', IsEnum h' (s.heap.objs.size + 1) s.heap.objs.size 0 .none → h'.get? s.heap.objs.size = some o → (∀ b o, s.heap.get? b = some o → h'.get? b = some o) → Q (.ref (s.heap.objs.size + 1)) { s with heap := h' }) :
    wpAny (model prog w) A (call (.type "enumerate") [v]) Q E s := by
  refine callType_new F.called_enumerate (by decide) (F.typeCall_enumerate_1 _) (F.newCall_enumerate_1 _) (fun obj => F.args_object_init_2 obj _) F.entry_enumerate_new (new1 B) ⟨h1, ?_⟩
  have hz : (s.heap.push o).objs.size = s.heap.objs.size + 1 := Heap.size_push ..
  show _ ∧ _
  rw [hz]
  have he : IsEnum ((s.heap.push o).push { cls := .type "enumerate", data := .fields #[.none, .bool false, .ref s.heap.objs.size, rawInt 0, .none, .none] }) (s.heap.objs.size + 1) s.heap.objs.size 0 .none := by
    have z := Heap.get?_push_size (s.heap.push o) (o := { cls := .type "enumerate", data := .fields #[.none, .bool false, .ref s.heap.objs.size, rawInt 0, .none, .none] }) rfl
    rw [hz] at z
    exact z
  exact ⟨⟨_, he, rfl⟩, h _ he (Heap.get?_push_of_some _ (Heap.get?_push_size _ B.free)) fun b o x => Heap.get?_push_of_some _ (Heap.get?_push_of_some _ x)⟩
end
/-- the tuple at a, each item in a new pair -/
def Iet (K : PySem.W.Frag) (a : Addr) : It :=
  ⟨fun i H => ∃ (xs : List V) (x : V), SqT K H a xs ∧ xs[i]? = some x, fun i H v H' => ∃ T x, v = .ref T ∧ H T = none ∧ H' = upd H T (.tup [.int (i : Nat), x]) ∧ ∀ xs, SqT K H a xs → xs[i]? = some x, fun i H => ∃ xs : List V, SqT K H a xs ∧ xs.length = i⟩
theorem apart {h : Heap} {a b : Addr} {o o' : Obj} {x y : String} (h1 : h.get? a = some o) (c1 : o.cls = .type x) (h2 : h.get? b = some o') (c2 : o'.cls = .type y) (ne : x ≠ y) : a ≠ b := fun e => by
  subst e
  rw [h1] at h2
  cases h2
  rw [c1] at c2
  cases c2
  exact ne rfl
theorem turn_enumT {P : Program} {w : World} {K : PySem.W.Frag} {elts : List Expr} {kk : Nat} {tpos : Pos} (a e it : Addr) :
    Turn P w K (.Tuple elts kk tpos) (Iet K a) [e, it] e (fun i h => (∃ old, IsEnum h e it ((i : Nat) : Int) old) ∧ h.IsTupleIter it a i ∧ e ≠ it) where
  mem := by simp
  obj := fun i h st b hb => by
    obtain ⟨⟨old, he⟩, ⟨o, ho, hc, hd⟩, _⟩ := st
    have e' : b = e ∨ b = it := by simpa using hb
    rcases e' with z | z
    · rw [z]; exact ⟨_, he, fun v q => nomatch q⟩
    · rw [z]; exact ⟨o, ho, fun v q => by rw [hd] at q; cases q⟩
  keep := fun i h h' st k => let ⟨⟨old, he⟩, hi, hne⟩ := st; ⟨⟨old, k e (by simp) _ he⟩, hi.at fun o q => k it (by simp) o q, hne⟩
  item := by
    intro X hP hw hK hc i pins s σ H E I hf st hg
    subst hP hw hK
    obtain ⟨⟨old, he⟩, hit, hne⟩ := st
    obtain ⟨xs, x, hq, hx⟩ := hg
    obtain ⟨its, rv, p, hz⟩ := I.tuple hq
    obtain ⟨u, hu, ru⟩ := rv.get hx
    have hel : e < s.heap.objs.size := Heap.lt_size he
    have hil : it < s.heap.objs.size := by obtain ⟨_, q, _⟩ := hit; exact Heap.lt_size q
    have ai : a ≠ it := by
      obtain ⟨o1, p1, p2, _⟩ := p
      obtain ⟨o2, q1, q2, _⟩ := hit
      exact apart p1 p2 q1 q2 (by decide)
    have ae : e ∉ [it, a] := by
      obtain ⟨o1, p1, p2, _⟩ := p
      have z : e ≠ a := apart he rfl p1 p2 (by decide)
      intro m
      rcases List.mem_cons.mp m with y | y
      · exact hne y
      · exact z (List.mem_singleton.mp y)
    have lt : i < its.toArray.size := by
      have := (List.getElem?_eq_some_iff.mp hu).1
      simpa using this
    refine wpAny_pyNext_enum_itemD (Draws.tuple (A := X.A.in1) (by have z := I.ok.hd hc; simpa using z) it a ai its.toArray) he ⟨hit, p⟩ lt hne ae fun u2 h' tk pu ho st' hT hsz hk => ?_
    have eu : u2 = u := by
      have z : its[i]? = some u2 := by simpa using pu
      rw [hu] at z
      exact (Option.some.inj z).symm
    subst eu
    refine ⟨_, rfl, wpAny_letOwnedTupleGo_enum (s := { s with heap := h', toks := tk + 1 }) ho fun h'' he' sb => ?_⟩
    have hT2 : h''.get? s.heap.objs.size = some { cls := .type "tuple", data := .seq #[.int i tk, u2] } := (sb.2 _ (Nat.ne_of_gt hel)).trans hT
    have new : ObjOk X.prog X.w (upd H s.heap.objs.size (.tup [.int (i : Nat), x])) h'' s.heap.objs.size (.tup [.int (i : Nat), x]) :=
      ⟨by show 2 ≤ sizeLine; decide, [.int i tk, u2], .cons ⟨_, rfl⟩ (.cons ru .nil), ⟨_, hT2, rfl, _, rfl⟩⟩
    have I1 : Inv X pins σ (upd H s.heap.objs.size (.tup [.int (i : Nat), x])) { s with heap := h'', toks := tk + 1 } :=
      I.turnedNew (ch := [e, it]) (fun b ob hb q => (sb.2 b (fun z => hb (by simp [z]))).trans (hk b ob (fun z => hb (by simp [z])) (fun z => hb (by simp [z])) q)) hf (Nat.le_refl _) new
    refine ⟨.ref s.heap.objs.size, _, I1, rfl, ⟨_, x, rfl, I.hok.fresh (Nat.le_refl _), rfl, fun ys hy => by rw [I.tuple_inj hy hq]; exact hx⟩, ⟨⟨u2, ?_⟩, st'.1.at fun o q => (sb.2 it (Ne.symm hne)).trans q, hne⟩, fun b hb => ?_⟩
    · have e1 : ((i + 1 : Nat) : Int) = (i : Int) + 1 := by omega
      rw [e1]; exact he'
    · have hb' : b < s.heap.objs.size := by
        have e' : b = e ∨ b = it := by simpa using hb
        rcases e' with z | z
        · rw [z]; exact hel
        · rw [z]; exact hil
      rw [upd_ne (Nat.ne_of_lt hb')]
      exact (hf b hb).1
  done := by
    intro X hP hw hK hc i pins s σ H E I hf st hg
    subst hP hw hK
    obtain ⟨⟨old, he⟩, hit, hne⟩ := st
    obtain ⟨xs, hq, hx⟩ := hg
    obtain ⟨its, rv, p, hz⟩ := I.tuple hq
    obtain ⟨f0, f1, f2, f3, f4, f5⟩ := hf it (by simp)
    have hl := rv.length
    have ai : a ≠ it := by
      obtain ⟨o1, p1, p2, _⟩ := p
      obtain ⟨o2, q1, q2, _⟩ := hit
      exact apart p1 p2 q1 q2 (by decide)
    have ei : its.toArray.size = i := by rw [List.size_toArray]; omega
    refine wpAny_pyNext_enum_endD (Draws.tuple (A := X.A.in1) (by have z := I.ok.hd hc; simpa using z) it a ai its.toArray) he (by rw [ei]; exact ⟨hit, p⟩) fun h' eb => ⟨rfl, I.turned (t' := s.toks) (fun b o hb q => eb b o hb q) f0 f1 f3 f4 f5⟩
  self := fun A i s Q E st h => let ⟨⟨_, he⟩, _⟩ := st; wpAny_pyIter_enum he h
def iEnumT (K : PySem.W.Frag) (ta : TA) : TI := fun σ H R => ta σ H fun vs H1 => ∃ a xs, vs = [.ref a] ∧ SqT K H1 a xs ∧ R (Iet K a) H1
theorem pi_enumT {X : Cx} {e : Expr} {ta : TA} {p pos tpos : Pos} {elts : List Expr} {kk : Nat} (hg : Gl X "enumerate") (hm : X.mg "enumerate" = none) (ha : PA X [e] ta) (hs : starEach [e] X.env = [(false, eval e X.env)] := by rfl) :
    PI X (.Tuple elts kk tpos) (.Call (.Name "enumerate" p) [e] [] pos) (iEnumT X.K ta) := by
  refine ⟨fun pins s σ H R I h => ?_⟩
  refine Call_ (ld_blt I hg hm boot_enumerate (PyProof.Rows.callWith_type1 (thn (ha.run pos pins s σ H _ I h) fun us s1 ⟨vs, H1, I1, r1, q1⟩ => ?_) hs rfl))
  obtain ⟨a, xs, ex, hq, q⟩ := q1
  subst ex
  cases r1 with
  | cons r rr =>
    cases rr
    cases r
    obtain ⟨its, rv, p', hz⟩ := I1.tuple hq
    refine begun1 (begins_tuple a its.toArray) p' fun h' he hit hk => wpAny_pyIter_enum he ?_
    have I2 : Inv X pins σ H1 { s1 with heap := h' } := I1.kept (t' := s1.toks) hk
    refine ⟨s1.heap.objs.size + 1, [s1.heap.objs.size + 1, s1.heap.objs.size], _, _, H1, rfl, I2, turn_enumT a (s1.heap.objs.size + 1) s1.heap.objs.size, ⟨⟨.none, he⟩, ⟨_, hit, rfl, rfl⟩, Nat.succ_ne_self _⟩, fun b hb => ?_, q⟩
    have e' : b = s1.heap.objs.size + 1 ∨ b = s1.heap.objs.size := by simpa using hb
    have hle : s1.heap.objs.size ≤ b := by
      rcases e' with z | z
      · rw [z]; exact Nat.le_add_right _ _
      · rw [z]; exact Nat.le_refl _
    exact I1.fpOk hle (I1.hok.fresh hle)
theorem for_enumT {K : PySem.W.Frag} {a : Addr} {xs : List V} {g : TG} {tb : TS} {D : Ends} {σ : L2.St} {H : Hp} (Pv : Nat → L2.St → Hp → Prop) (h0 : Pv 0 σ H) (hl : ∀ i σ H, Pv i σ H → SqT K H a xs)
    (hs : ∀ (i : Nat) (x : V) (T : Addr) (σ : L2.St) (H : Hp), xs[i]? = some x → Pv i σ H → H T = none → g (.ref T) σ (upd H T (.tup [.int (i : Nat), x])) fun σ2 H2 => tb { D with nx := Pv (i + 1), ct := Pv (i + 1), bk := D.nx } σ2 H2) (hd : ∀ σ H, Pv xs.length σ H → D.nx σ H) :
    ∃ W : Nat → Nat → L2.St → Hp → Prop, (∃ m, W 0 m σ H) ∧ ∀ i m σ H, W i m σ H →
      ((Iet K a).stop i H ∧ D.nx σ H) ∨ ((Iet K a).go i H ∧ ∃ N : L2.St → Hp → Prop, (∀ σ' H', N σ' H' → ∃ m', m' < m ∧ W (i + 1) m' σ' H') ∧ ∀ x H', (Iet K a).yld i H x H' → g x σ H' fun σ2 H2 => tb { D with nx := N, ct := N, bk := D.nx } σ2 H2) := by
  refine ⟨fun i m σ H => m = xs.length - i ∧ i ≤ xs.length ∧ Pv i σ H, ⟨xs.length, rfl, Nat.zero_le _, h0⟩, ?_⟩
  rintro i m σ H ⟨rfl, hi, p⟩
  have q := hl i σ H p
  by_cases hlt : i < xs.length
  · refine .inr ⟨⟨xs, xs[i], q, by simp [hlt]⟩, Pv (i + 1), fun σ' H' p' => ⟨xs.length - (i + 1), by omega, rfl, hlt, p'⟩, fun v H' y => ?_⟩
    obtain ⟨T, x, rfl, hT, rfl, y⟩ := y
    exact hs i x T σ H (y xs q) p hT
  · have e : i = xs.length := by omega
    subst e
    exact .inl ⟨⟨xs, q, rfl⟩, hd σ H p⟩
end EN

set_option maxHeartbeats 8000000
namespace PP
open PySem PySem.Spec PyProof.Rows L2 G0 G1 G3 G4 M0 PA EE QA
theorem walk_enumT {K : PySem.W.Frag} {a : Addr} {xs : List V} : Walk (EN.Iet K a) xs.length (fun H => SqT K H a xs) (YPair (fun i => some (.int (i : Nat))) (fun i => xs[i]?)) := by
  refine ⟨fun i _ hi q => ⟨xs, xs[i], q, by simp [hi]⟩, fun _ q => ⟨xs, q, rfl⟩, fun i H v H' _ q y => ?_⟩
  obtain ⟨T, x, h1, h2, h3, h4⟩ := y
  exact ⟨T, .int (i : Nat), x, h1, h2, h3, rfl, h4 xs q⟩
abbrev nLaw : List Str := ["_law_script", "_law_k", "_law_pool_here", "_law_prog", "_law_turn", "_law_bound_here", "_law_wider", "_law_number_here", "_law_own", "_law_who", "_law_due", "_law_race", "_law_counts_here", "_law_used", "_law_at", "_law_part", "_law_goes"]
theorem scLaw : FnScope nLaw ["_law_script"] (defScope s_law) := ⟨rfl, rfl, rfl, by decide +kernel, rfl, by decide +kernel, by decide +kernel⟩
/-- what the law's text finds about it -/
structure Facts (P : Program) (w : World) (K : PySem.W.Frag) (mg : Str → Option Value) (base : Heap) where
  Y : OddX P w K mg base
  dO : Def P w K mg base CX0 1 "_law_pool" ["_law_script", "_law_k"] (spPool K)
  dP : Def P w K mg base CX0 5 "_law_program" ["_law_pool_here", "_law_most", "_law_deep"] (spProg K)
  dT : Def P w K mg base CX0 1 "_law_take" ["_law_pool_here", "_law_total"] spTake
  dN : Def P w K mg base CX0 2 "_law_number" ["_law_pool_here"] spLNumber
  dB : Def P w K mg base CX0 3 "_law_bound" ["_law_pool_here", "_law_prog"] (spLBnd K)
  dW : Def P w K mg base CX0 1 "_law_lower" ["_law_number_here"] spOneLess
  dS : Def P w K mg base CX0 1 "_law_spans" ["_law_item_a", "_law_item_b"] (spCovers K)
  dC : Def P w K mg base CX0 2 "covers" ["one", "other"] (spCovers K)
  dL : Def P w K mg base CX0 4 "less" ["limit", "hand"] (spLess K)
  dM : Def P w K mg base CX0 1 "_law_counts" ["_law_race"] spLCounts
  dI : Def P w K mg base CX0 3 "is_within" ["limit", "run"] (spWithin K)
  dD : Def P w K mg base CX0 7 "_law_odd_right" ["_law_pool_here", "_law_prog", "_law_bound_here"] (spOdd K)
  b0 : Binds K Y.dL.d ["program", "many", "each"] [.none]
  kR : KBinds K Y.dL.d ["program", "many", "each"] ["each", "many", "program"] gR3 gR3
  kL : KBinds K dL.d ["limit", "hand"] ["hand", "limit"] gR2 gR2
  kC : KBinds K dC.d ["one", "other"] ["one", "other"] gS2 gS2
  kI : KBinds K dI.d ["limit", "run"] ["run", "limit"] gR2 gR2
  mlen : mg "len" = none
  mmax : mg "max" = none
  mmin : mg "min" = none
  mran : mg "range" = none
  mrep : mg "repr" = none
  mtup : mg "tuple" = none
  menu : mg "enumerate" = none
theorem noless_refl (n : Num) : noLess n n = true := by
  cases n with
  | none => rfl
  | some i => exact decide_eq_true (Int.le_refl i)
theorem covers_refl (l : Lim) : coversB l l = true := by
  unfold coversB
  rw [noless_refl, Bool.true_and]
  have : ∀ ns : List Num, (List.zipWith noLess ns ns).all id = true := fun ns => by
    induction ns with
    | nil => rfl
    | cons n ns ih => rw [List.zipWith_cons_cons, List.all_cons, ih, noless_refl]; rfl
  exact this _
theorem lim_shaped {l : Lim} : SeqAt.shaped (limD l) = true := by
  unfold SeqAt.shaped limD
  have e1 : (PyData.tuple (l.2.map Num.d)).canLay0 = true := by
    simp only [PyData.canLay0]
    exact lay_all fun x hx => by
      obtain ⟨n, _, rfl⟩ := List.mem_map.mp hx
      exact (num_lay n).1
  have e2 : (PyData.tuple (l.2.map Num.d)).depth ≤ 1 := depth_tuple (k := 0) fun x hx => by
    obtain ⟨n, _, rfl⟩ := List.mem_map.mp hx
    exact Nat.le_of_eq (num_lay n).2
  have e3 : (PyData.tuple [l.1.d, .tuple (l.2.map Num.d)]).canLay0 = true := by
    simp only [PyData.canLay0, PyData.canLayAll0, (num_lay l.1).1, Bool.true_and, Bool.and_true]
    simp only [PyData.canLay0] at e1
    exact e1
  have e4 : (PyData.tuple [l.1.d, .tuple (l.2.map Num.d)]).depth ≤ 2 := depth_tuple (k := 1) fun x hx => by
    rcases List.mem_cons.mp hx with rfl | hx
    · rw [(num_lay l.1).2]
      exact Nat.zero_le _
    · rw [List.mem_singleton.mp hx]
      exact e2
  rw [e3, decide_eq_true (show (PyData.tuple [l.1.d, .tuple (l.2.map Num.d)]).depth ≤ 64 by omega)]
  rfl
/-- a def's own loop, its body -/
def forBody : Stmt → List Stmt
  | .For _ _ b _ _ => b
  | _ => []
end PP

set_option maxHeartbeats 16000000
namespace PP
open PySem PySem.Spec PyProof.Rows L2 G0 G1 G3 G4 M0 PA EE QA
def sTurns : List Stmt := forBody ((forBody ((defBody s_law).headD (.Pass ⟨0, 0, 0, 0⟩))).getD 2 (.Pass ⟨0, 0, 0, 0⟩))
theorem six_num {n : Num} (h : n ∈ sixN) : mNumber n.d = true := by
  simp only [sixN, List.mem_cons, List.not_mem_nil, or_false] at h
  rcases h with rfl | rfl | rfl | rfl | rfl | rfl <;> rfl
theorem dp_lim {K : PySem.W.Frag} {G : Hp} {ot t : Addr} {a b : Num} {n : Nat} (hot : SqT K G ot (List.replicate n b.v)) (nt : G t = none) : Dp K (upd G t (.tup [a.v, .ref ot])) (.ref t) (limD (a, List.replicate n b)) := by
  refine .tup (SqT.of upd_same) (.cons (Num.dp a) (.cons (.tup (same_tup (same_new nt) hot) ?_) .nil))
  show DpAll K _ (List.replicate n b.v) ((List.replicate n b).map Num.d)
  rw [show List.replicate n b.v = (List.replicate n b).map Num.v by rw [List.map_replicate]]
  exact dpAll_map _ fun n _ => Num.dp n
theorem same_eqv (l : Lim) : (!PyData.eqv (limD l) (limD l)) = false := by
  rw [SeqAt.eqv_refl _ (Bool.and_eq_true_iff.mp lim_shaped).1]
  rfl
theorem less_set {l : Lim} {h : Nat} (hh : h < l.2.length) : (lessL l h).2 = l.2.set h (oneLess ((l.2[h]?).getD none)) := by
  show l.2.take h ++ [oneLess ((l.2[h]?).getD none)] ++ l.2.drop (h + 1) = _
  rw [List.set_eq_take_append_cons_drop, if_pos hh, List.append_assoc]
  rfl
theorem less_take {l : Lim} {h i : Nat} (hh : h < l.2.length) (hi : i < l.2.length) : (lessL l h).2.take (i + 1) = (lessL l h).2.take i ++ [if i = h then oneLess l.2[i] else l.2[i]] := by
  rw [List.take_succ, less_set hh, List.getElem?_set]
  congr 1
  by_cases e : h = i
  · subst e
    rw [if_pos rfl, if_pos hh, if_pos rfl, List.getElem?_eq_getElem hh]
    rfl
  · rw [if_neg e, if_neg (fun z => e z.symm), List.getElem?_eq_getElem hi]
    rfl
theorem less_len {l : Lim} {h : Nat} (hh : h < l.2.length) : (lessL l h).2.length = l.2.length := by rw [less_set hh, List.length_set]
section
variable {P : Program} {w : World} {K : PySem.W.Frag} {mg : Str → Option Value} {base : Heap}
theorem law_turn (X : Facts P w K mg base) {fa : Addr} {cdv : Value} {s : Shared} {H0 : Hp} (hr : Room 7 (callerA.deeper (envOfC "law" (defScope s_law) s.heap.objs.size fa cdv))) :
    ∃ t, PSs (cxOf CX0 P w K mg base nLaw "law" (defScope s_law) fa cdv callerA [] s H0 (fun _ _ _ => False)).nox sTurns t ∧
      ∀ (D : Ends) (H : Hp) (a p : Addr) (v : V) (pr : Prog) (k n : Int) (y5 y6 y7 y8 y9 y10 y11 y12 y13 : Option V), Pool H p → Dp K (off p H) v (progD pr) → ProgOk pr →
        (∀ H' y5 y6 y7 y8 y9 y10 y11 y12 y13, Pool H' p → Same (off p H) (off p H') → D.nx [some (.ref a), some (.int k), some (.ref p), some v, some (.int n), y5, y6, y7, y8, y9, y10, y11, y12, y13, none, none, none] H') →
        t D [some (.ref a), some (.int k), some (.ref p), some v, some (.int n), y5, y6, y7, y8, y9, y10, y11, y12, y13, none, none, none] H := by
  have nd := scLaw.nd
  have hr1 := hr.mono (show 1 ≤ 7 by decide)
  have hr2 := hr.mono (show 2 ≤ 7 by decide)
  have hr3 := hr.mono (show 3 ≤ 7 by decide)
  have hr4 := hr.mono (show 4 ≤ 7 by decide)
  have hr6 := hr.mono (show 6 ≤ 7 by decide)
  refine ⟨_, pss_cons (ps_par (i := 5) (j := 6) (by rfl) nd rfl rfl (by decide) rfl rfl (pa_cons (pe_call X.dB.ok hr3 (by rfl) X.dB.g X.dB.kp X.dB.b .nil pass0 (pa_cons (pv 2) (pa_cons (pv 3) pa_nil))) (pa_cons (pe_call X.dB.ok hr3 (by rfl) X.dB.g X.dB.kp X.dB.b .nil pass0 (pa_cons (pv 2) (pa_cons (pv 3) pa_nil))) pa_nil)) (by rfl))
    (pss_cons (ps_if (PW.pt (pw_or (pt_not (pt_val (pe_call X.dD.ok hr (by rfl) X.dD.g X.dD.kp X.dD.b .nil pass0 (pa_cons (pv 2) (pa_cons (pv 3) (pa_cons (pv 5) pa_nil))))))
      (pw_or1 (pt_cmpR op_ne (pe_callB call_reprBl (by rfl) X.mrep (by decide +kernel) (pa_cons (pe_call X.dC.ok hr2 (by rfl) X.dC.g X.dC.kp X.dC.b .nil pass0 (pa_cons (pv 5) (pa_cons (pv 6) pa_nil))) pa_nil)) (pe_callB call_reprBl (by rfl) X.mrep (by decide +kernel) (pa_cons (pe_call X.dS.ok hr1 (by rfl) X.dS.g X.dS.kp X.dS.b .nil pass0 (pa_cons (pv 5) (pa_cons (pv 6) pa_nil))) pa_nil)) (nomark _))))) (pss_one (ps_ret pe_bl)) pss_nil)
    (pss_cons (ps_par (i := 7) (j := 8) (by rfl) nd rfl rfl (by decide) rfl rfl (pa_cons (pe_call X.dN.ok hr2 (by rfl) X.dN.g X.dN.kp X.dN.b .nil pass0 (pa_cons (pv 2) pa_nil)) (pa_cons (pe_call X.dN.ok hr2 (by rfl) X.dN.g X.dN.kp X.dN.b .nil pass0 (pa_cons (pv 2) pa_nil)) pa_nil)) (by rfl))
    (pss_cons (ps_if (PW.pt (pw_or (pt_cmpR (op_neD hr.units) (pe_call X.Y.dL.ok hr6 (by rfl) X.Y.dL.g X.Y.dL.kp X.b0 (show Vals [V.non] [Value.none] from .cons rfl .nil) passL (pa_cons (pv 3) (pa_cons (pv 7) pa_nil)))
        (pe_tup (pa_cons (pv 7) (pa_cons (pe_op op_repA (pe_tup (pa_cons pe_non pa_nil)) (pe_callB call_len_seq (by rfl) X.mlen PySem.boot_len (pa_cons (pe_ix ix_tup (pv 3) pe_int (fun _ _ => rfl)) pa_nil))) pa_nil))) (nomark _))
      (pw_or1 (pt_not (pt_val (pe_call X.dC.ok hr2 (by rfl) X.dC.g X.dC.kp X.dC.b .nil pass0 (pa_cons (pv 5) (pa_cons (pv 5) pa_nil)))))))) (pss_one (ps_ret pe_bl)) pss_nil)
    (pss_cons (ps_if (pt_cmpR (op_neD hr.units) (pe_named X.Y.dL.ok hr6 (by rfl) X.Y.dL.g X.Y.dL.kp X.kR passL (pk_cons (pv 8) (pk_cons (pv 7) (pk_cons (pv 3) pk_nil))))
        (pe_tup (pa_cons (pv 7) (pa_cons (pe_op op_repA (pe_tup (pa_cons (pv 8) pa_nil)) (pe_callB call_len_seq (by rfl) X.mlen PySem.boot_len (pa_cons (pe_ix ix_tup (pv 3) pe_int (fun _ _ => rfl)) pa_nil))) pa_nil))) (nomark _)) (pss_one (ps_ret pe_bl)) pss_nil)
    (pss_cons (ps_set (i := 9) nd rfl (.inr rfl) (pe_call X.dT.ok hr1 (by rfl) X.dT.g X.dT.kp X.dT.b .nil pass0 (pa_cons (pv 2) (pa_cons (pe_callB call_len_seq (by rfl) X.mlen PySem.boot_len (pa_cons (pe_ix ix_tup (pv 3) pe_int (fun _ _ => rfl)) pa_nil)) pa_nil))))
    (pss_cons (ps_set (i := 10) nd rfl (.inl rfl) (pe_callTy call_tuple_of (by rfl) X.mtup (by decide +kernel) (pa_cons (pe_lc (own := [("_law_at", 14), ("_law_part", 15)]) (g := gTup K 2 (gCons (gName 14) (gCons (gName 15) gNil))) (tt := tYes) (by rfl) nd (EN.pi_enumT (by rfl) X.menu (pa_cons (pe_ix ix_tup (pv 5) pe_int (fun _ _ => rfl)) pa_nil))
        (blkOk_by (N := nLaw) (sc := defScope s_law) (by decide +kernel)) (fun _ _ _ _ _ => pg_tup rfl (pgs_cons (pg_name (i := 14) nd rfl (.inl rfl)) (pgs_cons (pg_name (i := 15) nd rfl (.inl rfl)) pgs_nil))) (fun _ _ _ _ _ => pts_nil)
        (fun _ _ _ _ _ => pe_ifExp (pt_cmpR op_eq (pv 14) (pv 9) (nomark _)) (pe_call X.dW.ok hr1 (by rfl) X.dW.g X.dW.kp X.dW.b .nil pass0 (pa_cons (pv 15) pa_nil)) (pv 15))) pa_nil)))
    (pss_cons (ps_if (PW.pt (pw_or (pt_cmpR (op_neD hr.units) (pe_call X.dL.ok hr4 (by rfl) X.dL.g X.dL.kp X.dL.b .nil pass0 (pa_cons (pv 5) (pa_cons (pv 9) pa_nil)))
        (pe_tup (pa_cons (pe_call X.dW.ok hr1 (by rfl) X.dW.g X.dW.kp X.dW.b .nil pass0 (pa_cons (pe_ix ix_tup (pv 5) pe_int (fun _ _ => rfl)) pa_nil)) (pa_cons (pv 10) pa_nil))) (nomark _))
      (pw_or1 (pt_cmpR (op_neD hr.units) (pe_named X.dL.ok hr4 (by rfl) X.dL.g X.dL.kp X.kL pass0 (pk_cons (pv 9) (pk_cons (pv 5) pk_nil))) (pe_call X.dL.ok hr4 (by rfl) X.dL.g X.dL.kp X.dL.b .nil pass0 (pa_cons (pv 5) (pa_cons (pv 9) pa_nil))) (nomark _))))) (pss_one (ps_ret pe_bl)) pss_nil)
    (pss_cons (ps_setLc (i := 11) (own := [("_law_goes", 16)]) (g := gName 16) (tt := tYes) (by rfl) nd rfl rfl (sw_true rfl rfl rfl (by decide +kernel)) (pi_range1 (by rfl) X.mran (pa_cons (pe_call X.dT.ok hr1 (by rfl) X.dT.g X.dT.kp X.dT.b .nil pass0 (pa_cons (pv 2) (pa_cons pe_int pa_nil))) pa_nil))
        (blkOk_by (N := nLaw) (sc := defScope s_law) (by decide +kernel)) (fun _ _ _ _ _ => pg_name (i := 16) nd rfl (.inl rfl)) (fun _ _ _ _ _ => pts_nil)
        (fun _ _ _ _ _ => pe_tup (pa_cons (pe_call X.dT.ok hr1 (by rfl) X.dT.g X.dT.kp X.dT.b .nil pass0 (pa_cons (pv 2) (pa_cons (pe_callB (r := fun xs H Q => ∃ p ys, xs = [.ref p] ∧ (SqL K H p ys ∨ SqT K H p ys) ∧ Q (.int ys.length) H) call_len_seq (by rfl) X.mlen PySem.boot_len (pa_cons (pe_ix (r := rIxT K) ix_tup (pv 3) pe_int (fun _ _ => rfl)) pa_nil)) pa_nil))) (pa_cons (pe_lst (pa_cons pe_non pa_nil)) pa_nil))))
    (pss_cons (ps_set (i := 12) nd rfl (.inr rfl) (pe_call X.dM.ok hr1 (by rfl) X.dM.g X.dM.kp X.dM.b .nil pass0 (pa_cons (pv 11) pa_nil)))
    (pss_cons (ps_set (i := 13) nd rfl (.inl rfl) (pe_tup (pa_cons (pe_callB call_len_seq (by rfl) X.mlen PySem.boot_len (pa_cons (pv 12) pa_nil)) (pa_cons (pe_callTy call_tuple_of (by rfl) X.mtup (by decide +kernel) (pa_cons
        (pe_lc (own := [("_law_number_here", 7)]) (g := gName 7) (tt := tYes) (by rfl) nd (pi_range1 (by rfl) X.mran (pa_cons (pe_callB call_len_seq (by rfl) X.mlen PySem.boot_len (pa_cons (pe_ix ix_tup (pv 3) pe_int (fun _ _ => rfl)) pa_nil)) pa_nil))
          (blkOk_by (N := nLaw) (sc := defScope s_law) (by decide +kernel)) (fun _ _ _ _ _ => pg_name (i := 7) nd rfl (.inl rfl)) (fun _ _ _ _ _ => pts_nil)
          (fun _ _ _ _ _ => (pe_bm (r := rCntI K) PySem.F.plainAttrs_list PySem.F.slot_list_count PySem.F.type_list_count mt_lcount (pv 12) (pa_cons (pv 7) pa_nil) : PE _ _ (tBM K "list" (rCntI K) (tVar 12) (tCons (tVar 7) tNil))))) pa_nil)) pa_nil))))
    (pss_cons (ps_if (pt_cmpR op_ne (pe_callB call_reprBl (by rfl) X.mrep (by decide +kernel) (pa_cons (pe_call X.dI.ok hr3 (by rfl) X.dI.g X.dI.kp X.dI.b .nil pass0 (pa_cons (pv 5) (pa_cons (pv 11) pa_nil))) pa_nil)) (pe_callB call_reprBl (by rfl) X.mrep (by decide +kernel) (pa_cons (pe_call X.dS.ok hr1 (by rfl) X.dS.g X.dS.kp X.dS.b .nil pass0 (pa_cons (pv 5) (pa_cons (pv 13) pa_nil))) pa_nil)) (nomark _)) (pss_one (ps_ret pe_bl)) pss_nil)
    (pss_one (ps_if (PW.pt (pw_or (pt_cmpR op_notBl (pe_named X.dI.ok hr3 (by rfl) X.dI.g X.dI.kp X.kI pass0 (pk_cons (pv 11) (pk_cons (pv 13) pk_nil))) pe_bl (nomark _))
      (pw_or1 (pt_cmpR op_ne (pe_named X.dC.ok hr2 (by rfl) X.dC.g X.dC.kp X.kC pass0 (pk_cons (pv 5) (pk_cons (pv 13) pk_nil))) (pe_call X.dI.ok hr3 (by rfl) X.dI.g X.dI.kp X.dI.b .nil pass0 (pa_cons (pv 5) (pa_cons (pv 11) pa_nil))) (nomark _))))) (pss_one (ps_ret pe_bl)) pss_nil))))))))))))), ?_⟩
  intro D H a p v pr k n y5 y6 y7 y8 y9 y10 y11 y12 y13 pl hv ok q
  have o1 := ok.one
  have o2 := ok.few
  have few : pr.2.length ≤ 100 := by omega
  obtain ⟨va, x1, x2, rfl, hva, d1, d2⟩ := dp2 hv
  obtain ⟨xa, xs, rfl, hxa, hxs⟩ := dp_tup d2
  have hxl : xs.length = pr.2.length := by rw [dpAll_len hxs, List.length_map]
  refine ⟨_, rfl, _, rfl, p, _, pr, rfl, pl, hv, few, fun H1 u1 l pl1 s1 hu1 hl1 hll hl2 => ?_⟩
  refine ⟨_, rfl, _, rfl, p, _, pr, rfl, pl1, dp_same s1 _ _ hv, few, fun H2 u2 m pl2 s2 hu2 hm1 hml hm2 => ⟨_, _, rfl, ?_⟩⟩
  have z2 : Same (off p H) (off p H2) := s1.trans s2
  have hb2 := dp_same s2 _ _ hu1
  refine ⟨_, rfl, _, rfl, _, rfl, p, _, u1, pr, l, rfl, pl2, dp_same z2 _ _ hv, ok, hb2, hll, fun H3 pl3 s3 => ⟨_, rfl, iteF ?_⟩⟩
  have l100 : l.2.length ≤ 100 := by omega
  have hb3 := dp_same s3 _ _ hb2
  have hw3 := dp_same s3 _ _ hu2
  refine ⟨_, rfl, _, rfl, u1, u2, l, m, rfl, dp_same off_sub _ _ hb3, dp_same off_sub _ _ hw3, l100, fun H4 s4 => ⟨_, rfl, ?_⟩⟩
  refine ⟨_, rfl, _, rfl, u1, u2, l, m, rfl, dp_same (off_sub.trans s4) _ _ hb3, dp_same (off_sub.trans s4) _ _ hw3, l100, fun H5 s5 => ⟨_, rfl, rfl, _, rfl, iteNS rfl ?_⟩⟩
  have s35 := s4.trans s5
  have pl5 := pool_same pl3 s35
  have z5 : Same (off p H) (off p H5) := z2.trans (s3.trans (off_mono s35))
  have hb5 := dp_same (off_mono (p := p) s35) _ _ hb3
  clear hw3 hb3 hb2 hu1 hu2 s4 s5 s35 z2 pl1 pl2 pl3 s3 s2 s1
  -- two numbers
  refine ⟨_, rfl, p, rfl, pl5, fun H6 n1 pl6 s6 hn1 => ⟨_, rfl, p, rfl, pl6, fun H7 n2 pl7 s7 hn2 => ⟨_, _, rfl, ?_⟩⟩⟩
  have z7 : Same (off p H) (off p H7) := z5.trans (s6.trans s7)
  have hb7 := dp_same (s6.trans s7) _ _ hb5
  clear s6 s7 z5 hb5 pl5 pl6
  obtain ⟨ba, c1, c2, rfl, hba, e1, e2⟩ := dp2 hb7
  cases dp_num e1
  obtain ⟨na, ns, rfl, hna, hns⟩ := dp_tup e2
  cases dp_nums hns
  -- limit_of
  refine ⟨_, rfl, _, rfl, .ref va, n1.v, .non, pr, rfl, dp_same (z7.trans off_sub) _ _ hv, ok, .inl ⟨n1, none, rfl, rfl, six_num hn1, rfl, fun H8 ux s8 hux => ?_⟩⟩
  refine ⟨_, rfl, lz1, fun t1 nt1 => ?_⟩
  have s9 := same_new (o := .tup [.non]) nt1
  refine ⟨_, rfl, va, _, 1, _, rfl, rfl, same_tup ((z7.trans off_sub).trans (s8.trans s9)) hva, atI_nat (j := 1) rfl, xa, _, rfl, .inr (same_tup ((z7.trans off_sub).trans (s8.trans s9)) hxa), ?_⟩
  rw [hxl]
  refine rep_any (SqT.of upd_same) o1 (by omega) fun ot G hot sG => ⟨lz2, fun t2 nt2 => ?_⟩
  have s10 := same_new (o := .tup [n1.v, .ref ot]) nt2
  have s710 := s8.trans (s9.trans (sG.trans s10))
  refine ⟨_, _, dp_same (s9.trans (sG.trans s10)) _ _ hux, dp_lim (b := none) hot nt2, lim_shaped, lim_shaped, _, rfl, ?_⟩
  rw [same_eqv]
  refine iteF ?_
  refine ⟨_, rfl, _, rfl, .ref ba, .ref ba, l, l, rfl, dp_same (off_sub.trans s710) _ _ hb7, dp_same (off_sub.trans s710) _ _ hb7, l100, fun H11 s11 => ⟨_, rfl, ?_⟩⟩
  rw [covers_refl]
  refine iteF ?_
  have s711 := s710.trans s11
  have pl11 := pool_same pl7 s711
  have z11 : Same (off p H) (off p H11) := z7.trans (off_mono s711)
  have hb11 := dp_same (off_mono (p := p) s711) _ _ hb7
  have hba11 := same_tup (off_mono (p := p) s711) hba
  have hna11 := same_tup (off_mono (p := p) s711) hna
  clear s8 s9 sG s10 s710 s711 s11 hux hot nt1 nt2 hb7 hba hna e2 hns pl7 z7
  -- limit_of by names
  refine ⟨_, rfl, _, rfl, _, rfl, .ref va, n1.v, n2.v, pr, rfl, dp_same (z11.trans off_sub) _ _ hv, ok, .inl ⟨n1, n2, rfl, rfl, six_num hn1, six_num hn2, fun H12 uy s12 huy => ?_⟩⟩
  refine ⟨_, rfl, _, rfl, lz1, fun t3 nt3 => ?_⟩
  have s13 := same_new (o := .tup [n2.v]) nt3
  refine ⟨_, rfl, va, _, 1, _, rfl, rfl, same_tup ((z11.trans off_sub).trans (s12.trans s13)) hva, atI_nat (j := 1) rfl, xa, _, rfl, .inr (same_tup ((z11.trans off_sub).trans (s12.trans s13)) hxa), ?_⟩
  rw [hxl]
  refine rep_any (SqT.of upd_same) o1 (by omega) fun ot2 G2 hot2 sG2 => ⟨lz2, fun t4 nt4 => ?_⟩
  have s14 := same_new (o := .tup [n1.v, .ref ot2]) nt4
  refine ⟨_, _, dp_same (s13.trans (sG2.trans s14)) _ _ huy, dp_lim (b := n2) hot2 nt4, lim_shaped, lim_shaped, _, rfl, ?_⟩
  rw [same_eqv]
  refine iteF ?_
  have sJ := s12.trans (s13.trans (sG2.trans s14))
  have plJ := pool_same pl11 sJ
  have zJ : Same (off p H) (off p (upd G2 t4 (.tup [n1.v, .ref ot2]))) := z11.trans (off_mono sJ)
  have hbJ := dp_same (off_mono (p := p) sJ) _ _ hb11
  have hbaJ := same_tup (off_mono (p := p) sJ) hba11
  have hnaJ := same_tup (off_mono (p := p) sJ) hna11
  generalize upd G2 t4 (.tup [n1.v, .ref ot2]) = J at plJ zJ hbJ hbaJ hnaJ ⊢
  clear s12 s13 sG2 s14 sJ huy hot2 nt3 nt4 hb11 hba11 hna11 pl11 z11
  -- whose turn
  refine ⟨_, rfl, _, rfl, va, _, 1, _, rfl, rfl, same_tup (zJ.trans off_sub) hva, atI_nat (j := 1) rfl, xa, _, rfl, .inr (same_tup (zJ.trans off_sub) hxa), p, _, rfl, plJ, by omega, by omega, fun J1 r plA oA r0 r1 => ?_⟩
  obtain ⟨wh, rfl⟩ : ∃ wh : Nat, r = (wh : Int) := ⟨r.toNat, by omega⟩
  have hh : wh < l.2.length := by omega
  rw [← oA] at zJ hbJ hbaJ hnaJ
  clear oA plJ
  -- what is due
  refine ⟨_, rfl, ba, _, 1, _, rfl, rfl, same_tup off_sub hbaJ, atI_nat (j := 1) rfl, na, l.2.map Num.v, rfl, same_tup off_sub hnaJ, fun L nL => ?_⟩
  refine lc_it (walk_enumT (a := na) (xs := l.2.map Num.v) (K := K)) (fun i G => Same J1 G ∧ G L = some (.lst (((lessL l wh).2.take i).map Num.v))) ⟨same_new nL, upd_same⟩ (fun i G _ h => same_tup (off_sub.trans h.1) hnaJ) (fun i x G G' hi h y => ?_) (fun G h => ?_)
  · obtain ⟨T, k1, k2, rfl, nT, rfl, hk1, hk2⟩ := y
    cases hk1
    rw [List.length_map] at hi
    simp only [List.getElem?_map, List.getElem?_eq_getElem hi, Option.map_some] at hk2
    cases hk2
    have sT : Same G (upd G T (.tup [.int (i : Nat), (l.2[i]).v])) := same_new nT
    refine ⟨T, _, rfl, .inl (.inl upd_same), rfl, _, _, rfl, _, _, rfl, rfl, rfl, ?_⟩
    dsimp only [tYes]
    rw [if_pos rfl]
    have tk := less_take (l := l) hh hi
    have al : (((lessL l wh).2.take i).map Num.v).length ≤ 1000 := by
      rw [List.length_map, List.length_take]
      omega
    have hL := sT _ _ h.2
    have sL := same_put (o := .lst (((lessL l wh).2.take i).map Num.v ++ [(if i = wh then oneLess l.2[i] else l.2[i]).v])) (h.1.trans sT) nL
    refine ⟨_, rfl, _, rfl, rfl, _, rfl, ite2 (fun e => ?_) (fun e => ?_)⟩
    · have e2 : i = wh := by
        have z := V.int.inj (of_decide_eq_true e)
        omega
      rw [if_pos e2] at tk sL
      refine ⟨_, rfl, l.2[i], rfl, _, hL, LC.small_line (by omega), sL, ?_⟩
      rw [upd_same, tk, List.map_append]
      rfl
    · have e2 : ¬ i = wh := fun z => e (decide_eq_true (by rw [z]))
      rw [if_neg e2] at tk sL
      refine ⟨_, rfl, _, hL, LC.small_line (by omega), sL, ?_⟩
      rw [upd_same, tk, List.map_append]
      rfl
  obtain ⟨sG, hL⟩ := h
  have e3 : (lessL l wh).2.take (l.2.map Num.v).length = (lessL l wh).2 := List.take_of_length_le (by rw [less_len hh, List.length_map]; exact Nat.le_refl _)
  rw [e3] at hL
  refine ⟨L, _, rfl, .inl ⟨SqL.of hL, fun t nt => ?_⟩⟩
  have s1 := same_new (o := .tup ((lessL l wh).2.map Num.v)) nt
  have hdue : SqT K (upd G t (.tup ((lessL l wh).2.map Num.v))) t ((lessL l wh).2.map Num.v) := SqT.of upd_same
  have s2 := sG.trans s1
  have plB := pool_same plA s2
  have zB := zJ.trans (off_mono (p := p) s2)
  have hbB := dp_same (off_mono (p := p) s2) _ _ hbJ
  have hbaB := same_tup (off_mono (p := p) s2) hbaJ
  generalize upd G t (.tup ((lessL l wh).2.map Num.v)) = M at hdue plB zB hbB hbaB ⊢
  clear s1 s2 sG nt hL hbJ hbaJ hnaJ zJ plA
  -- less
  refine ⟨_, rfl, _, rfl, .ref ba, l, wh, rfl, dp_same off_sub _ _ hbB, hh, l100, fun M1 w1 s1 hw1 => ?_⟩
  refine ⟨_, rfl, ba, _, 0, _, rfl, rfl, same_tup (off_sub.trans s1) hbaB, atI_nat (j := 0) rfl, l.1, rfl, _, rfl, lz2, fun t2 nt2 => ?_⟩
  have s2 := same_new (o := .tup [(oneLess l.1).v, .ref t]) nt2
  refine ⟨_, limD (lessL l wh), dp_same s2 _ _ hw1, .tup (SqT.of upd_same) (.cons (Num.dp (oneLess l.1)) (.cons (.tup (same_tup (s1.trans s2) hdue) (dpAll_map _ fun n _ => Num.dp n)) .nil)), lim_shaped, lim_shaped, _, rfl, ?_⟩
  rw [same_eqv]
  have s12 := s1.trans s2
  generalize upd M1 t2 (.tup [(oneLess l.1).v, .ref t]) = M2 at s12 ⊢
  refine iteF ⟨_, rfl, _, rfl, .ref ba, l, wh, rfl, dp_same (off_sub.trans s12) _ _ hbB, hh, l100, fun M3 w3 s3 hw3 => ?_⟩
  refine ⟨_, rfl, _, rfl, .ref ba, l, wh, rfl, dp_same (off_sub.trans (s12.trans s3)) _ _ hbB, hh, l100, fun M4 w4 s4 hw4 => ?_⟩
  refine ⟨_, _, dp_same s4 _ _ hw3, hw4, lim_shaped, lim_shaped, _, rfl, ?_⟩
  rw [same_eqv]
  refine iteF ?_
  have s5 := s12.trans (s3.trans s4)
  have plC := pool_same plB s5
  have zC := zB.trans (off_mono (p := p) s5)
  have hbC := dp_same (off_mono (p := p) s5) _ _ hbB
  clear s1 s2 s12 s3 s4 s5 hdue hw1 hw3 hw4 nt2 plB zB hbB hbaB
  -- the race
  refine ⟨_, rfl, p, 9, rfl, plC, by decide, by decide, fun R1 rr plD oD g0 g1 => ?_⟩
  rw [← oD] at zC hbC
  refine ⟨_, rfl, by omega, by omega, fun D nD => ?_⟩
  have eD : D ≠ p := pool_ne plD nD
  refine lc_range (n := rr.toNat) (fun i G => Pool G p ∧ Same (off p R1) (off p G) ∧ ∃ (ts : List (Addr × Addr)) (rs : List Tn), off p G D = some (.lst (ts.map fun t => V.ref t.1)) ∧ Tns (off p G) ts rs ∧ rs.length = i ∧ (∀ t ∈ ts, t.2 ≠ D) ∧ ∀ r ∈ rs, r.2 = [V.non])
    ⟨pool_put plD eD, off_mono (same_new nD), [], [], by rw [off_ne eD]; exact upd_same, .nil, rfl, fun _ z => (nomatch z), fun _ z => (nomatch z)⟩ (fun i G hi hP => ?_) (fun G hP => ?_)
  · obtain ⟨plG, sG, ts, rs, hD, hT, hrl, hn, hr0⟩ := hP
    refine ⟨rfl, ?_⟩
    dsimp only [tYes]
    rw [if_pos rfl]
    have zG := (zC.trans sG).trans off_sub
    refine ⟨_, rfl, _, rfl, va, _, 1, _, rfl, rfl, same_tup zG hva, atI_nat (j := 1) rfl, xa, _, rfl, .inr (same_tup zG hxa), p, _, rfl, plG, by omega, by omega, fun G2 r2 pl2 o2 q0 q1 => ⟨lz1, fun c nc => ⟨lz2, fun d ndd => ?_⟩⟩⟩
    have s1 := same_new (o := .lst [.non]) nc
    have s2 := same_new (o := .tup [.int r2, .ref c]) ndd
    have cp : c ≠ p := pool_ne pl2 nc
    have hc1 : upd G2 c (.lst [.non]) c = some (.lst [.non]) := upd_same
    have dp : d ≠ p := pool_ne (pool_same pl2 s1) ndd
    have hc2 := s2 _ _ hc1
    have hd2 : upd (upd G2 c (.lst [.non])) d (.tup [.int r2, .ref c]) d = some (.tup [.int r2, .ref c]) := upd_same
    have s3 := off_mono (p := p) (s1.trans s2)
    rw [o2] at s3
    have pl3 := pool_same pl2 (s1.trans s2)
    have cD : c ≠ D := fun e => by
      have z := off_none (p := p) nc
      rw [o2, e, hD] at z
      cases z
    generalize upd (upd G2 c (.lst [.non])) d (.tup [.int r2, .ref c]) = G4 at hc2 hd2 s3 pl3 ⊢
    have hD4 := s3 _ _ hD
    have tl : ts.length = rs.length := hT.len
    refine ⟨_, off_sub _ _ hD4, ?_, pool_put pl3 eD, ?_, ts ++ [(d, c)], rs ++ [(r2, [.non])], ?_, ?_, ?_, ?_, ?_⟩
    · rw [List.length_map]
      exact LC.small_line (by omega)
    · rw [off_put eD]
      exact same_put (sG.trans s3) (off_none nD)
    · rw [off_ne eD, map_snoc]
      exact upd_same
    · rw [off_put eD]
      have hT4 : Tns (off p G4) (ts ++ [(d, c)]) (rs ++ [(r2, [V.non])]) := Tns.snoc (t := (d, c)) (r := (r2, [V.non])) (by rw [off_ne dp]; exact hd2) (by show off p G4 c = _; rw [off_ne cp]; exact hc2) (hT.same s3)
      refine hT4.put hD4 fun z hz => ?_
      rcases List.mem_append.mp hz with y | y
      · exact hn z y
      · rw [List.mem_singleton.mp y]
        exact cD
    · rw [List.length_append, hrl]
      rfl
    · intro z hz
      rcases List.mem_append.mp hz with y | y
      · exact hn z y
      · rw [List.mem_singleton.mp y]
        exact cD
    · intro z hz
      rcases List.mem_append.mp hz with y | y
      · exact hr0 z y
      · rw [List.mem_singleton.mp y]
  obtain ⟨plG, sG, ts, rs, hD, hT, hrl, _, hr0⟩ := hP
  have zG := zC.trans sG
  have hbG := dp_same sG _ _ hbC
  have hR : RaceAt (off p G) D ts rs := ⟨hD, hT⟩
  have r8 : rs.length ≤ 1000 := by omega
  have t8 : tot rs ≤ 1000 := by
    have : ∀ rs : List Tn, (∀ r ∈ rs, r.2 = [V.non]) → tot rs = rs.length := fun rs h => by
      induction rs with
      | nil => rfl
      | cons r rs ih =>
        show r.2.length + tot rs = rs.length + 1
        rw [ih fun z hz => h z (List.mem_cons_of_mem _ hz), h r List.mem_cons_self]
        show 1 + _ = _
        omega
    rw [this rs hr0]
    exact r8
  clear sG zC hbC plC plD oD hD hT nD hr0
  -- the counts
  refine ⟨_, rfl, D, ts, rs, rfl, hR.same off_sub, r8, fun C1 o s1 no ho => ?_⟩
  have fl := counts_len rs
  have fl2 := len_fold rs
  refine ⟨_, rfl, o, _, rfl, .inl (SqL.of ho), ?_⟩
  refine ⟨_, rfl, va, _, 1, _, rfl, rfl, same_tup ((zG.trans off_sub).trans s1) hva, atI_nat (j := 1) rfl, xa, _, rfl, .inr (same_tup ((zG.trans off_sub).trans s1) hxa), _, rfl, by omega, by omega, fun E nE => ?_⟩
  refine lc_range (n := ((xs.length : Nat) : Int).toNat) (fun j G => Same C1 G ∧ G E = some (.lst ((List.range j).map fun h : Nat => V.int ((((fold rs).filter fun r => decide (r.1 = (h : Int))).length : Nat) : Int))))
    ⟨same_new nE, upd_same⟩ (fun j G2 hj hQ => ?_) (fun G2 hQ => ?_)
  · obtain ⟨sG2, hE⟩ := hQ
    refine ⟨rfl, ?_⟩
    dsimp only [tYes]
    rw [if_pos rfl]
    have ho2 := sG2 _ _ ho
    refine ⟨_, rfl, .inl ⟨rfl, _, SqL.of ho2⟩, _, rfl, o, counts rs, _, rfl, rfl, SqL.of ho2, ?_⟩
    refine ⟨_, hE, ?_, same_put sG2 nE, ?_⟩
    · rw [List.length_map, List.length_range]
      exact LC.small_line (by omega)
    · rw [upd_same, List.range_succ, List.map_append, Int.zero_add, counts_count]
      rfl
  obtain ⟨sG2, hE⟩ := hQ
  have en : ((xs.length : Nat) : Int).toNat = l.2.length := by omega
  rw [en] at hE
  refine ⟨E, _, rfl, .inl ⟨SqL.of hE, fun t nt => ⟨lz2, fun t2 nt2 => ?_⟩⟩⟩
  have s3 := same_new (o := .tup ((List.range l.2.length).map fun h : Nat => V.int ((((fold rs).filter fun r => decide (r.1 = (h : Int))).length : Nat) : Int))) nt
  have s4 := same_new (o := .tup [.int (((counts rs).map V.int).length : Nat), .ref t]) nt2
  obtain ⟨us, hus⟩ : ∃ us : Lim, us = (some (((fold rs).length : Nat) : Int), (List.range l.2.length).map fun h : Nat => (some ((((fold rs).filter fun r => decide (r.1 = (h : Int))).length : Nat) : Int) : Num)) := ⟨_, rfl⟩
  have hu : Dp K (upd (upd G2 t (.tup ((List.range l.2.length).map fun h : Nat => V.int ((((fold rs).filter fun r => decide (r.1 = (h : Int))).length : Nat) : Int)))) t2 (.tup [.int (((counts rs).map V.int).length : Nat), .ref t])) (.ref t2) (limD us) := by
    rw [hus]
    refine .tup (SqT.of upd_same) (.cons ?_ (.cons (.tup (same_tup s4 (SqT.of upd_same)) ?_) .nil))
    · rw [List.length_map, fl]
      exact .int _
    · rw [List.map_map]
      exact dpAll_map (f := fun h : Nat => V.int ((((fold rs).filter fun r => decide (r.1 = (h : Int))).length : Nat) : Int)) _ fun h _ => .int _
  have s5 := s1.trans (sG2.trans (s3.trans s4))
  generalize upd (upd G2 t (.tup ((List.range l.2.length).map fun h : Nat => V.int ((((fold rs).filter fun r => decide (r.1 = (h : Int))).length : Nat) : Int)))) t2 (.tup [.int (((counts rs).map V.int).length : Nat), .ref t]) = N at hu s5 ⊢
  have ul : us.2.length = l.2.length := by rw [hus, List.length_map, List.length_range]
  have hbN := dp_same (off_sub.trans s5) _ _ hbG
  have hRN := (hR.same off_sub).same s5
  have plN := pool_same plG s5
  have zN := zG.trans (off_mono (p := p) s5)
  clear s1 sG2 s3 s4 s5 hE nt nt2 ho no hbG hR plG zG
  -- is_within
  refine ⟨_, rfl, _, rfl, .ref ba, D, ts, rs, l, rfl, hbN, hRN, r8, t8, l100, fun N1 s1 => ⟨_, rfl, ?_⟩⟩
  rw [← hus]
  refine ⟨_, rfl, _, rfl, .ref ba, .ref t2, l, us, rfl, dp_same s1 _ _ hbN, dp_same s1 _ _ hu, l100, fun N2 s2 => ⟨_, rfl, rfl, _, rfl, iteNS rfl ?_⟩⟩
  have s12 := s1.trans s2
  refine ⟨_, rfl, _, rfl, .ref t2, D, ts, rs, us, rfl, dp_same s12 _ _ hu, hRN.same s12, r8, t8, by omega, fun N3 s3 => ⟨_, _, rfl, rfl, _, rfl, ?_⟩⟩
  rw [ul, ← hus, covers_refl]
  refine iteNS rfl ?_
  have s13 := s12.trans s3
  refine ⟨_, rfl, _, rfl, .ref ba, .ref t2, l, us, rfl, dp_same s13 _ _ hbN, dp_same s13 _ _ hu, l100, fun N4 s4 => ?_⟩
  refine ⟨_, rfl, _, rfl, .ref ba, D, ts, rs, l, rfl, dp_same (s13.trans s4) _ _ hbN, hRN.same (s13.trans s4), r8, t8, l100, fun N5 s5 => ⟨rfl, _, rfl, ?_⟩⟩
  rw [← hus]
  refine iteNS rfl ?_
  have sE := s13.trans (s4.trans s5)
  exact q N5 _ _ _ _ _ _ _ _ _ (pool_same plN sE) (zN.trans (off_mono sE))
end
end PP

set_option maxHeartbeats 8000000
namespace PP
open PySem PySem.Spec PyProof.Rows L2 G0 G1 G3 G4 M0 PA EE QA
section
variable {P : Program} {w : World} {K : PySem.W.Frag} {mg : Str → Option Value} {base : Heap}
theorem law_body (X : Facts P w K mg base) {fa : Addr} {cdv : Value} {s : Shared} {H : Hp} {a : Addr} {ns : List Int} (hS : SqL K H a (ns.map V.int)) (hl : ns.length ≤ 63)
    (hr : Room 7 (callerA.deeper (envOfC "law" (defScope s_law) s.heap.objs.size fa cdv))) :
    ∃ t, PSs (cxOf CX0 P w K mg base nLaw "law" (defScope s_law) fa cdv callerA [] s H (fun _ _ _ => False)).nox (defBody s_law) t ∧ t { nx := fun _ _ => False, rt := fun v _ => v = .bl true } (start nLaw [.ref a]) H := by
  have nd := scLaw.nd
  have hr1 := hr.mono (show 1 ≤ 7 by decide)
  have hr5 := hr.mono (show 5 ≤ 7 by decide)
  obtain ⟨tb, hb, rb⟩ := law_turn X (cdv := cdv) (H0 := H) hr
  refine ⟨_, pss_cons (ps_for PassesOwn.never rfl (pi_range1 (by rfl) X.mran (pa_cons (pe_callB (call_max2 rfl) (by rfl) X.mmax (by decide +kernel) (pa_cons pe_int (pa_cons (pe_callB (call_min2 rfl) (by rfl) X.mmin (by decide +kernel) (pa_cons (pe_callB call_len_seq (by rfl) X.mlen PySem.boot_len (pa_cons (pv 0) pa_nil)) (pa_cons pe_int pa_nil))) pa_nil))) pa_nil)) (pg_name (i := 1) nd rfl (.inl rfl))
      (pss_cons (ps_set (i := 2) nd rfl (.inr rfl) (pe_call X.dO.ok hr1 (by rfl) X.dO.g X.dO.kp X.dO.b .nil pass0 (pa_cons (pv 0) (pa_cons (pv 1) pa_nil))))
      (pss_cons (ps_set (i := 3) nd rfl (.inr rfl) (pe_call X.dP.ok hr5 (by rfl) X.dP.g X.dP.kp X.dP.b .nil pass0 (pa_cons (pv 2) (pa_cons pe_int (pa_cons pe_bl pa_nil)))))
      (pss_one (ps_for PassesOwn.never rfl (pi_range1 (by rfl) X.mran (pa_cons pe_int pa_nil)) (pg_name (i := 4) nd rfl (.inl rfl)) hb)))))
    (pss_one (ps_ret pe_bl)), ?_⟩
  refine ⟨_, rfl, a, _, rfl, .inl hS, _, _, rfl, _, _, rfl, ?_⟩
  obtain ⟨n, en, hn⟩ : ∃ n : Nat, (if (if (16 : Int) < ((ns.map V.int).length : Int) then (16 : Int) else ((ns.map V.int).length : Int)) > 1 then (if (16 : Int) < ((ns.map V.int).length : Int) then (16 : Int) else ((ns.map V.int).length : Int)) else 1) = (n : Int) ∧ n ≤ 16 := by
    refine ⟨(if (if (16 : Int) < ((ns.map V.int).length : Int) then (16 : Int) else ((ns.map V.int).length : Int)) > 1 then (if (16 : Int) < ((ns.map V.int).length : Int) then (16 : Int) else ((ns.map V.int).length : Int)) else 1).toNat, ?_, ?_⟩ <;> (split <;> split <;> omega)
  refine ⟨(n : Int), congrArg (fun z => [V.int z]) en, by omega, by omega, ?_⟩
  rw [show ((n : Int)).toNat = n from Int.toNat_natCast n]
  refine for_range (n := n) (fun i σ H3 => ∃ y1 y2 y3 y4 y5 y6 y7 y8 y9 y10 y11 y12 y13, σ = [some (.ref a), y1, y2, y3, y4, y5, y6, y7, y8, y9, y10, y11, y12, y13, none, none, none] ∧ SqL K H3 a (ns.map V.int))
    ⟨none, none, none, none, none, none, none, none, none, none, none, none, none, rfl, hS⟩ (fun i σ H1 hi hP => ?_) (fun σ H3 hP => ?_)
  · obtain ⟨y1, y2, y3, y4, y5, y6, y7, y8, y9, y10, y11, y12, y13, rfl, hS1⟩ := hP
    refine ⟨_, rfl, _, rfl, a, ns, i, congrArg (fun z : Int => [V.ref a, V.int z]) (Int.zero_add (i : Int)), hS1, by omega, fun p x0 y0 np hx0 hy0 hy20 => ?_⟩
    have pl : Pool (upd H1 p (.lst [.int x0, .int y0])) p := ⟨x0, y0, upd_same, hx0, hy0, hy20⟩
    have sO : Same H1 (M0.off p (upd H1 p (.lst [.int x0, .int y0]))) := off_new np
    generalize upd H1 p (.lst [.int x0, .int y0]) = H2 at pl sO ⊢
    refine ⟨_, rfl, p, 3, rfl, pl, by decide, by decide, fun H3 u pr pl3 s3 hu ok few => ?_⟩
    have sP := sO.trans s3
    refine ⟨6, rfl, by decide, by decide, for_range (n := 6) (fun i' σ H6 => ∃ w4 w5 w6 w7 w8 w9 w10 w11 w12 w13, σ = [some (.ref a), some (.int (0 + (i : Int))), some (.ref p), some u, w4, w5, w6, w7, w8, w9, w10, w11, w12, w13, none, none, none] ∧ Same (M0.off p H3) (M0.off p H6) ∧ Pool H6 p)
      ⟨_, _, _, _, _, _, _, _, _, _, rfl, Same.refl _, pl3⟩ (fun i' σ H6 hi' hP => ?_) (fun σ H6 hP => ?_)⟩
    · obtain ⟨w4, w5, w6, w7, w8, w9, w10, w11, w12, w13, rfl, sm, pl6⟩ := hP
      refine rb _ H6 a p u pr _ _ w5 w6 w7 w8 w9 w10 w11 w12 w13 pl6 (dp_same sm _ _ hu) ok fun H7 y5 y6 y7 y8 y9 y10 y11 y12 y13 pl7 s7 => ?_
      exact ⟨_, _, _, _, _, _, _, _, _, _, rfl, sm.trans s7, pl7⟩
    · obtain ⟨w4, w5, w6, w7, w8, w9, w10, w11, w12, w13, rfl, sm, pl6⟩ := hP
      exact ⟨_, _, _, _, _, _, _, _, _, _, _, _, _, rfl, off_sub.seq ((sP.trans sm).seq hS1)⟩
  · exact rfl
end
end PP

set_option maxHeartbeats 8000000
namespace PP
open PySem PySem.Spec PyProof.Rows L2 G0 G1 G3 G4 M0 PA EE QA E2 E3 E4 E5 E7 E8 E9 EB EC
/-- a def with one keyword-only parameter, by default None -/
def AtK (K : PySem.W.Frag) (x : Str) (st : Stmt) (z : Str) (f : Addr) : Prop :=
  PySem.W.nsIn K mainGlobals x = some (some (.ref f)) ∧ ∃ (od an : Option Addr) (sl : Array (Option Value)) (D : Addr) (oc dc pm cd ct : Value),
    K.lookup f = some ⟨oc, od, .func (PySem.W.fnOf x x (defArgs st) (defBody st) (defScope st) .none (.ref D) dc pm an cd ct), sl⟩ ∧ PySem.W.codeIn K cd x = true ∧ PySem.W.keepIn K (.ref f) = true ∧ PySem.W.nsIn K D z = some (some .none)
theorem atk_mk {K : PySem.W.Frag} {x z : Str} {st : Stmt} {f D : Addr} {od an : Option Addr} {sl : Array (Option Value)} {oc dc pm cd ct : Value} (a : PySem.W.nsIn K mainGlobals x = some (some (.ref f)))
    (l : K.lookup f = some ⟨oc, od, .func (PySem.W.fnOf x x (defArgs st) (defBody st) (defScope st) .none (.ref D) dc pm an cd ct), sl⟩) (c : PySem.W.codeIn K cd x = true) (k : PySem.W.keepIn K (.ref f) = true) (d : PySem.W.nsIn K D z = some (some .none)) : AtK K x st z f := ⟨a, od, an, sl, D, oc, dc, pm, cd, ct, l, c, k, d⟩
theorem AtK.fn {K : PySem.W.Frag} {x z : Str} {st : Stmt} {f : Addr} (h : AtK K x st z f) : ∃ fd, FunD K x x (defArgs st) (defBody st) (defScope st) [] [(z, V.non)] f fd := by
  obtain ⟨_, od, an, sl, D, oc, dc, pm, cd, ct, l, c, k, d⟩ := h
  exact ⟨_, ⟨oc, od, .none, .ref D, dc, pm, an, cd, ct, sl, rfl, l, c, .inl ⟨rfl, rfl⟩, .inr ⟨D, rfl, fun q hq => by
    rw [List.mem_singleton.mp hq]
    exact ⟨.none, d, rfl⟩⟩⟩, k⟩
section
variable {P : Program} {w : World} {K : PySem.W.Frag} {mg : Str → Option Value} {base h : Heap} {C fI : Addr} {fd : FuncData}
theorem scNoLim : InitScope ["self"] ["self"] (defScope s_NoLimit) := ⟨rfl, rfl, rfl, by decide +kernel, rfl, by decide +kernel, by decide +kernel, by decide +kernel, rfl, rfl⟩
theorem mkNoLim (X : K.In h) (G : h.Ns mainGlobals mg) (ms : PySem.W.nsIn K mainGlobals "super" = some none) (a : PySem.W.nsIn K mainGlobals "NoLimit" = some (some (.ref C))) (l : lookC K C fI "ValueError" "ValueError.__new__" "ValueError.__init__" [.type "ValueError", .type "Exception", .type "BaseException", .type "object"] [] = true)
    (F : InitFn P K C fI "NoLimit.__init__" (defArgs s_NoLimit) (defBody s_NoLimit) (defScope s_NoLimit) fd) : Nonempty (Err P w K mg base "NoLimit" []) := by
  obtain ⟨T, E, fl⟩ := looked uValue l
  have F0 := F
  obtain ⟨oc, kV, doc, pm, cdv, ct, od, an, osl, cl, cc, ocl, occ, fv, file, tf, efd, _⟩ := F.ex
  subst efd
  have s0 := PySem.W.mg_none_of X G ms
  refine ⟨Err.mk C fI (fnCl "__init__" "NoLimit.__init__" (defArgs s_NoLimit) (defBody s_NoLimit) (defScope s_NoLimit) kV doc pm an cdv ct cl) _ _ _ _ _ (PySem.W.mg_of X G a) T E ?_ (fun f hf => (fl f hf).2) ?_ ?_⟩
  · exact ok0 T F0 scNoLim rfl rfl s0 ⟨fun L => ⟨_, rfl⟩, fun L => rfl, fun L => rfl⟩
  · exact ⟨fun s us ws _ hl => match us, hl with | [a], _ => .of_eq rfl, fun r _ => r⟩
  · exact ⟨fun s us ws _ hl => match us, ws, hl with | [a], _, _ => .of_eq rfl | [], _, h => by simp [kwG] at h | _ :: _ :: _, _, h => by simp [kwG] at h, kw_rel⟩
theorem named2 {x y z : Str} {st : Stmt} {f : Addr} (F : Fun K x x st f fd) {ks : List Str} {g : {α : Type} → List α → List α → List α} (rel : ∀ {vs zs : List V} {us ws : List Value}, Vals vs us → Vals zs ws → Vals (g vs zs) (g us ws))
    (len : ∀ {us ws : List Value}, (g us ws).length = 2 → ∃ c d, us = [] ∧ ws = [c, d])
    (h : ∀ (oc : Value) (od : Option Addr) (kV doc pm cdv ct : Value) (an : Option Addr) (s : Shared) (c d : Value), fd = PySem.W.fnOf x x (defArgs st) (defBody st) (defScope st) .none kV doc pm an cdv ct → BindsTo s fd ⟨[], ks.zip [c, d]⟩ ([y, z].zip (g [] [c, d]))) : KBinds K fd [y, z] ks g g := by
  obtain ⟨oc, od, kV, doc, pm, an, cdv, ct, osl, e, lk, hcd⟩ := F.ex
  refine ⟨fun s us ws _ hl => ?_, rel⟩
  obtain ⟨c, d, rfl, rfl⟩ := len hl
  exact h oc od kV doc pm cdv ct an s c d e
end
theorem all_mk {P : Program} {w : World} {K : PySem.W.Frag} {h : Heap} {mg : Str → Option Value} {tk8 tkc tkg tko tkp tkh tkt tkr : Tok} {fa C fI cT fLIM fWH fBT fTU fNO fSO fWA fRW fBX fSC fAL fLK fHA fPT fNU fLO fLI fOL fLE fNL fCO fWI fPO fTK fLS fLR fLT fLP fLN fLB fIN fIB fOD fLW fSP fCN fZ : Addr} (X : K.In h) (G : h.Ns mainGlobals mg) (hfa : mg "law" = some (.ref fa))
    (qC : CAt P K "NoLimit" "NoLimit.__init__" s_NoLimit "ValueError" "ValueError.__new__" "ValueError.__init__" [.type "ValueError", .type "Exception", .type "BaseException", .type "object"] [] C fI) (xm : PySem.W.exmOne K (.ref C) (.ref C) = some true) (aT : PySem.W.nsIn K mainGlobals "TurnsError" = some (some (.ref cT))) (xt : PySem.W.kitOne K (.ref C) (.ref cT) = some true)
    (aLIM : AtK K "limit_of" s_limit_of "each" fLIM)
    (k8 : PySem.W.nsIn K mainGlobals "LONGEST_NAME" = some (some (.int 8 tk8))) (kc : PySem.W.nsIn K mainGlobals "MOST_COMMON" = some (some (.int 8 tkc))) (kg : PySem.W.nsIn K mainGlobals "GREATEST_COMMON" = some (some (.int 4 tkg))) (ko : PySem.W.nsIn K mainGlobals "MOST_OWN" = some (some (.int 24 tko))) (kp : PySem.W.nsIn K mainGlobals "GREATEST_OWN" = some (some (.int 8 tkp))) (kh : PySem.W.nsIn K mainGlobals "MOST_HANDS" = some (some (.int 4 tkh))) (kt : PySem.W.nsIn K mainGlobals "MOST_TEXTS" = some (some (.int 32 tkt))) (kr : PySem.W.nsIn K mainGlobals "MOST_ROWS" = some (some (.int 2000 tkr)))
    (aWH : At K "is_whole" s_is_whole fWH) (aBT : At K "is_between" s_is_between fBT) (aTU : At K "is_tuple" s_is_tuple fTU) (aNO : At K "is_from_nought" s_is_from_nought fNO) (aSO : At K "is_source" s_is_source fSO) (aWA : At K "are_ways" s_are_ways fWA) (aRW : At K "are_rows" s_are_rows fRW) (aBX : At K "are_boxes" s_are_boxes fBX) (aSC : At K "scopes_of" s_scopes_of fSC) (aAL : At K "are_all_rows" s_are_all_rows fAL) (aLK : At K "look_at_program" s_look_at_program fLK) (aHA : At K "is_hand" s_is_hand fHA) (aPT : At K "put_together" s_put_together fPT) (aNU : At K "is_number" s_is_number fNU) (aLO : At K "is_limit_of" s_is_limit_of fLO) (aLI : At K "is_limit" s_is_limit fLI) (aOL : At K "one_less" s_one_less fOL) (aLE : At K "less" s_less fLE) (aNL : At K "is_no_less" s_is_no_less fNL) (aCO : At K "covers" s_covers fCO) (aWI : At K "is_within" s_is_within fWI) (aPO : At K "_law_pool" s_law_pool fPO) (aTK : At K "_law_take" s_law_take fTK) (aLS : At K "_law_source" s_law_source fLS) (aLR : At K "_law_row" s_law_row fLR) (aLT : At K "_law_texts" s_law_texts fLT) (aLP : At K "_law_program" s_law_program fLP) (aLN : At K "_law_number" s_law_number fLN) (aLB : At K "_law_bound" s_law_bound fLB) (aIN : At K "_law_is_number" s_law_is_number fIN) (aIB : At K "_law_is_bound" s_law_is_bound fIB) (aOD : At K "_law_odd_right" s_law_odd_right fOD) (aLW : At K "_law_lower" s_law_lower fLW) (aSP : At K "_law_spans" s_law_spans fSP) (aCN : At K "_law_counts" s_law_counts fCN) (aZ : At K "law" s_law fZ)
    (z0 : PySem.W.nsIn K mainGlobals "len" = some none) (z1 : PySem.W.nsIn K mainGlobals "max" = some none) (z2 : PySem.W.nsIn K mainGlobals "min" = some none) (z3 : PySem.W.nsIn K mainGlobals "range" = some none) (z4 : PySem.W.nsIn K mainGlobals "repr" = some none) (z5 : PySem.W.nsIn K mainGlobals "isinstance" = some none) (z6 : PySem.W.nsIn K mainGlobals "int" = some none) (z7 : PySem.W.nsIn K mainGlobals "str" = some none) (z8 : PySem.W.nsIn K mainGlobals "all" = some none) (z9 : PySem.W.nsIn K mainGlobals "enumerate" = some none) (z10 : PySem.W.nsIn K mainGlobals "abs" = some none) (z11 : PySem.W.nsIn K mainGlobals "super" = some none) (z12 : PySem.W.nsIn K mainGlobals "tuple" = some none) (z13 : PySem.W.nsIn K mainGlobals "bool" = some none) (z14 : PySem.W.nsIn K mainGlobals "KeyError" = some none) (z15 : PySem.W.nsIn K mainGlobals "list" = some none) (z16 : PySem.W.nsIn K mainGlobals "sorted" = some none) (z17 : PySem.W.nsIn K mainGlobals "set" = some none) (z18 : PySem.W.nsIn K mainGlobals "zip" = some none) :
    LawDef P w K mg 7 fa "_law_script" (fun H a ns => SqL K H a (ns.map V.int) ∧ ns.length ≤ 63) := by
  have e := hfa.symm.trans (PySem.W.mg_of X G aZ.1)
  cases e
  obtain ⟨dWH, FWH⟩ := aWH.fn
  obtain ⟨dBT, FBT⟩ := aBT.fn
  obtain ⟨dTU, FTU⟩ := aTU.fn
  obtain ⟨dNO, FNO⟩ := aNO.fn
  obtain ⟨dSO, FSO⟩ := aSO.fn
  obtain ⟨dWA, FWA⟩ := aWA.fn
  obtain ⟨dRW, FRW⟩ := aRW.fn
  obtain ⟨dBX, FBX⟩ := aBX.fn
  obtain ⟨dSC, FSC⟩ := aSC.fn
  obtain ⟨dAL, FAL⟩ := aAL.fn
  obtain ⟨dLK, FLK⟩ := aLK.fn
  obtain ⟨dHA, FHA⟩ := aHA.fn
  obtain ⟨dPT, FPT⟩ := aPT.fn
  obtain ⟨dNU, FNU⟩ := aNU.fn
  obtain ⟨dLO, FLO⟩ := aLO.fn
  obtain ⟨dLI, FLI⟩ := aLI.fn
  obtain ⟨dOL, FOL⟩ := aOL.fn
  obtain ⟨dLE, FLE⟩ := aLE.fn
  obtain ⟨dNL, FNL⟩ := aNL.fn
  obtain ⟨dCO, FCO⟩ := aCO.fn
  obtain ⟨dWI, FWI⟩ := aWI.fn
  obtain ⟨dPO, FPO⟩ := aPO.fn
  obtain ⟨dTK, FTK⟩ := aTK.fn
  obtain ⟨dLS, FLS⟩ := aLS.fn
  obtain ⟨dLR, FLR⟩ := aLR.fn
  obtain ⟨dLT, FLT⟩ := aLT.fn
  obtain ⟨dLP, FLP⟩ := aLP.fn
  obtain ⟨dLN, FLN⟩ := aLN.fn
  obtain ⟨dLB, FLB⟩ := aLB.fn
  obtain ⟨dIN, FIN⟩ := aIN.fn
  obtain ⟨dIB, FIB⟩ := aIB.fn
  obtain ⟨dOD, FOD⟩ := aOD.fn
  obtain ⟨dLW, FLW⟩ := aLW.fn
  obtain ⟨dSP, FSP⟩ := aSP.fn
  obtain ⟨dCN, FCN⟩ := aCN.fn
  obtain ⟨dLIM, FLIM⟩ := aLIM.fn
  have bWH := FWH.binds (ps := ["thing"]) fun _ _ _ _ _ _ us hl => match us, hl with | [_], _ => rfl
  have bBT := FBT.binds (ps := ["thing", "low", "high"]) fun _ _ _ _ _ _ us hl => match us, hl with | [_, _, _], _ => rfl
  have bTU := FTU.binds (ps := ["thing", "fewest", "most"]) fun _ _ _ _ _ _ us hl => match us, hl with | [_, _, _], _ => rfl
  have bNO := FNO.binds (ps := ["thing"]) fun _ _ _ _ _ _ us hl => match us, hl with | [_], _ => rfl
  have bSO := FSO.binds (ps := ["source", "size", "box", "sizes"]) fun _ _ _ _ _ _ us hl => match us, hl with | [_, _, _, _], _ => rfl
  have bWA := FWA.binds (ps := ["thing", "end"]) fun _ _ _ _ _ _ us hl => match us, hl with | [_, _], _ => rfl
  have bRW := FRW.binds (ps := ["rows", "end", "sizes", "texts", "hands", "name"]) fun _ _ _ _ _ _ us hl => match us, hl with | [_, _, _, _, _, _], _ => rfl
  have bBX := FBX.binds (ps := ["thing", "most", "greatest", "sizes"]) fun _ _ _ _ _ _ us hl => match us, hl with | [_, _, _, _], _ => rfl
  have bSC := FSC.binds (ps := ["common", "hands"]) fun _ _ _ _ _ _ us hl => match us, hl with | [_, _], _ => rfl
  have bAL := FAL.binds (ps := ["scopes"]) fun _ _ _ _ _ _ us hl => match us, hl with | [_], _ => rfl
  have bLK := FLK.binds (ps := ["thing"]) fun _ _ _ _ _ _ us hl => match us, hl with | [_], _ => rfl
  have bHA := FHA.binds (ps := ["hands", "thing"]) fun _ _ _ _ _ _ us hl => match us, hl with | [_, _], _ => rfl
  have bPT := FPT.binds (ps := ["run"]) fun _ _ _ _ _ _ us hl => match us, hl with | [_], _ => rfl
  have bNU := FNU.binds (ps := ["thing"]) fun _ _ _ _ _ _ us hl => match us, hl with | [_], _ => rfl
  have bLO := FLO.binds (ps := ["program", "thing"]) fun _ _ _ _ _ _ us hl => match us, hl with | [_, _], _ => rfl
  have bLI := FLI.binds (ps := ["program", "thing"]) fun _ _ _ _ _ _ us hl => match us, hl with | [_, _], _ => rfl
  have bOL := FOL.binds (ps := ["number"]) fun _ _ _ _ _ _ us hl => match us, hl with | [_], _ => rfl
  have bLE := FLE.binds (ps := ["limit", "hand"]) fun _ _ _ _ _ _ us hl => match us, hl with | [_, _], _ => rfl
  have bNL := FNL.binds (ps := ["one", "other"]) fun _ _ _ _ _ _ us hl => match us, hl with | [_, _], _ => rfl
  have bCO := FCO.binds (ps := ["one", "other"]) fun _ _ _ _ _ _ us hl => match us, hl with | [_, _], _ => rfl
  have bWI := FWI.binds (ps := ["limit", "run"]) fun _ _ _ _ _ _ us hl => match us, hl with | [_, _], _ => rfl
  have bPO := FPO.binds (ps := ["_law_script", "_law_k"]) fun _ _ _ _ _ _ us hl => match us, hl with | [_, _], _ => rfl
  have bTK := FTK.binds (ps := ["_law_pool_here", "_law_total"]) fun _ _ _ _ _ _ us hl => match us, hl with | [_, _], _ => rfl
  have bLS := FLS.binds (ps := ["_law_pool_here", "_law_boxes", "_law_box"]) fun _ _ _ _ _ _ us hl => match us, hl with | [_, _, _], _ => rfl
  have bLR := FLR.binds (ps := ["_law_pool_here", "_law_boxes", "_law_total", "_law_titles", "_law_others"]) fun _ _ _ _ _ _ us hl => match us, hl with | [_, _, _, _, _], _ => rfl
  have bLT := FLT.binds (ps := ["_law_pool_here", "_law_boxes", "_law_others", "_law_deep"]) fun _ _ _ _ _ _ us hl => match us, hl with | [_, _, _, _], _ => rfl
  have bLP := FLP.binds (ps := ["_law_pool_here", "_law_most", "_law_deep"]) fun _ _ _ _ _ _ us hl => match us, hl with | [_, _, _], _ => rfl
  have bLN := FLN.binds (ps := ["_law_pool_here"]) fun _ _ _ _ _ _ us hl => match us, hl with | [_], _ => rfl
  have bLB := FLB.binds (ps := ["_law_pool_here", "_law_prog"]) fun _ _ _ _ _ _ us hl => match us, hl with | [_, _], _ => rfl
  have bIN := FIN.binds (ps := ["_law_item"]) fun _ _ _ _ _ _ us hl => match us, hl with | [_], _ => rfl
  have bIB := FIB.binds (ps := ["_law_prog", "_law_item"]) fun _ _ _ _ _ _ us hl => match us, hl with | [_, _], _ => rfl
  have bOD := FOD.binds (ps := ["_law_pool_here", "_law_prog", "_law_bound_here"]) fun _ _ _ _ _ _ us hl => match us, hl with | [_, _, _], _ => rfl
  have bLW := FLW.binds (ps := ["_law_number_here"]) fun _ _ _ _ _ _ us hl => match us, hl with | [_], _ => rfl
  have bSP := FSP.binds (ps := ["_law_item_a", "_law_item_b"]) fun _ _ _ _ _ _ us hl => match us, hl with | [_, _], _ => rfl
  have bCN := FCN.binds (ps := ["_law_race"]) fun _ _ _ _ _ _ us hl => match us, hl with | [_], _ => rfl
  have gWH := PySem.W.mg_of X G aWH.1
  have gBT := PySem.W.mg_of X G aBT.1
  have gTU := PySem.W.mg_of X G aTU.1
  have gNO := PySem.W.mg_of X G aNO.1
  have gSO := PySem.W.mg_of X G aSO.1
  have gWA := PySem.W.mg_of X G aWA.1
  have gRW := PySem.W.mg_of X G aRW.1
  have gBX := PySem.W.mg_of X G aBX.1
  have gSC := PySem.W.mg_of X G aSC.1
  have gAL := PySem.W.mg_of X G aAL.1
  have gLK := PySem.W.mg_of X G aLK.1
  have gHA := PySem.W.mg_of X G aHA.1
  have gPT := PySem.W.mg_of X G aPT.1
  have gNU := PySem.W.mg_of X G aNU.1
  have gLO := PySem.W.mg_of X G aLO.1
  have gLI := PySem.W.mg_of X G aLI.1
  have gOL := PySem.W.mg_of X G aOL.1
  have gLE := PySem.W.mg_of X G aLE.1
  have gNL := PySem.W.mg_of X G aNL.1
  have gCO := PySem.W.mg_of X G aCO.1
  have gWI := PySem.W.mg_of X G aWI.1
  have gPO := PySem.W.mg_of X G aPO.1
  have gTK := PySem.W.mg_of X G aTK.1
  have gLS := PySem.W.mg_of X G aLS.1
  have gLR := PySem.W.mg_of X G aLR.1
  have gLT := PySem.W.mg_of X G aLT.1
  have gLP := PySem.W.mg_of X G aLP.1
  have gLN := PySem.W.mg_of X G aLN.1
  have gLB := PySem.W.mg_of X G aLB.1
  have gIN := PySem.W.mg_of X G aIN.1
  have gIB := PySem.W.mg_of X G aIB.1
  have gOD := PySem.W.mg_of X G aOD.1
  have gLW := PySem.W.mg_of X G aLW.1
  have gSP := PySem.W.mg_of X G aSP.1
  have gCN := PySem.W.mg_of X G aCN.1
  have gLIM := PySem.W.mg_of X G aLIM.1
  have gT := PySem.W.mg_of X G aT
  have c8 := PySem.W.mg_of X G k8
  have cc := PySem.W.mg_of X G kc
  have cg := PySem.W.mg_of X G kg
  have co := PySem.W.mg_of X G ko
  have cp := PySem.W.mg_of X G kp
  have ch := PySem.W.mg_of X G kh
  have ct0 := PySem.W.mg_of X G kt
  have cr := PySem.W.mg_of X G kr
  have n0 := PySem.W.mg_none_of X G z0
  have n1 := PySem.W.mg_none_of X G z1
  have n2 := PySem.W.mg_none_of X G z2
  have n3 := PySem.W.mg_none_of X G z3
  have n4 := PySem.W.mg_none_of X G z4
  have n5 := PySem.W.mg_none_of X G z5
  have n6 := PySem.W.mg_none_of X G z6
  have n7 := PySem.W.mg_none_of X G z7
  have n8 := PySem.W.mg_none_of X G z8
  have n9 := PySem.W.mg_none_of X G z9
  have n10 := PySem.W.mg_none_of X G z10
  have n11 := PySem.W.mg_none_of X G z11
  have n12 := PySem.W.mg_none_of X G z12
  have n13 := PySem.W.mg_none_of X G z13
  have n14 := PySem.W.mg_none_of X G z14
  have n15 := PySem.W.mg_none_of X G z15
  have n16 := PySem.W.mg_none_of X G z16
  have n17 := PySem.W.mg_none_of X G z17
  have n18 := PySem.W.mg_none_of X G z18
  obtain ⟨_, od, an, sl, oc, kV, dc, pm, cd, ct, l, c, k⟩ := aZ
  obtain ⟨u0, v0, w0, i0⟩ := qC
  obtain ⟨dsL, rL, bL⟩ := FLIM.binds0 (ps := ["program", "many", "each"]) 2 (by simp) rfl fun D doc pm an cdv ct us ks h1 h2 => by
    match us, ks, h1, h2 with
    | [a, b], [c], _, _ => exact ⟨_, _, _, _, _, _, rfl, rfl, rfl⟩
  obtain rfl : dsL = [Value.none] := by
    cases rL with
    | cons r1 r2 =>
      cases r2
      cases r1
      rfl
  have kE : KBinds K dLIM ["program", "many", "each"] ["each"] g21 g21 := by
    obtain ⟨oc, od, dV, kV, doc, pm, an, cdv, ct, osl, e, lk, hcd, hD, _⟩ := FLIM.ex
    refine ⟨fun s us ws _ hl => ?_, g21_rel⟩
    obtain ⟨a, b, c, rfl, rfl⟩ := g21_len hl
    rcases hD with ⟨_, rfl⟩ | ⟨z, _⟩
    · subst e
      exact .of_eq rfl
    · exact absurd rfl z
  have kR : KBinds K dLIM ["program", "many", "each"] ["each", "many", "program"] gR3 gR3 := by
    obtain ⟨oc, od, dV, kV, doc, pm, an, cdv, ct, osl, e, lk, hcd, hD, _⟩ := FLIM.ex
    refine ⟨fun s us ws _ hl => ?_, gR3_rel⟩
    obtain ⟨a, b, c, rfl, rfl⟩ := gR3_len hl
    rcases hD with ⟨_, rfl⟩ | ⟨z, _⟩
    · subst e
      exact .of_eq rfl
    · exact absurd rfl z
  have kL : KBinds K dLE ["limit", "hand"] ["hand", "limit"] gR2 gR2 := named2 FLE gR2_rel gR2_len fun _ _ _ _ _ _ _ _ s c d e => by subst e; exact .of_eq rfl
  have kC : KBinds K dCO ["one", "other"] ["one", "other"] gS2 gS2 := named2 FCO gS2_rel gS2_len fun _ _ _ _ _ _ _ _ s c d e => by subst e; exact .of_eq rfl
  have kI : KBinds K dWI ["limit", "run"] ["run", "limit"] gR2 gR2 := named2 FWI gR2_rel gR2_len fun _ _ _ _ _ _ _ _ s c d e => by subst e; exact .of_eq rfl
  refine ⟨_, "law", "law", defArgs s_law, defBody s_law, defScope s_law, .none, kV, dc, pm, cd, ct, oc, an, od, sl, nLaw, rfl, l, c, scLaw, fun s v => .of_eq rfl, fun base _ _ s H a ns hw hr => ?_⟩
  obtain ⟨e0⟩ := mkNoLim (P := P) (w := w) (base := base) X G z11 u0 v0 i0
  have c0 : e0.C = C := Value.ref.inj (Option.some.inj (e0.g.symm.trans (PySem.W.mg_of X G u0)))
  have ex : PySem.W.exmOne K (.ref e0.C) (.ref e0.C) = some true := by rw [c0]; exact xm
  have et : PySem.W.kitOne K (.ref e0.C) (.ref cT) = some true := by rw [c0]; exact xt
  have WH1 : Def P w K mg base CX0 1 "is_whole" ["thing"] (spAsk K mWhole) := ⟨fWH, dWH, ok_whole (k := 0) FWH n5 n6 n13, gWH, FWH.kp, bWH⟩
  have WH2 : Def P w K mg base CX0 2 "is_whole" ["thing"] (spAsk K mWhole) := ⟨fWH, dWH, ok_whole (k := 1) FWH n5 n6 n13, gWH, FWH.kp, bWH⟩
  have WH3 : Def P w K mg base CX0 3 "is_whole" ["thing"] (spAsk K mWhole) := ⟨fWH, dWH, ok_whole (k := 2) FWH n5 n6 n13, gWH, FWH.kp, bWH⟩
  have WD2 : Def P w K mg base CX0 2 "is_whole" ["thing"] spDictNo := ⟨fWH, dWH, ok_wholeD (k := 1) FWH n5 n6, gWH, FWH.kp, bWH⟩
  have WD3 : Def P w K mg base CX0 3 "is_whole" ["thing"] spDictNo := ⟨fWH, dWH, ok_wholeD (k := 2) FWH n5 n6, gWH, FWH.kp, bWH⟩
  have NO3 : Def P w K mg base CX0 3 "is_from_nought" ["thing"] (spAsk K mNought) := ⟨fNO, dNO, ok_nought (k := 1) FNO WH2.ok WH2.g WH2.kp WH2.b, gNO, FNO.kp, bNO⟩
  have NO4 : Def P w K mg base CX0 4 "is_from_nought" ["thing"] (spAsk K mNought) := ⟨fNO, dNO, ok_nought (k := 2) FNO WH3.ok WH3.g WH3.kp WH3.b, gNO, FNO.kp, bNO⟩
  have ND4 : Def P w K mg base CX0 4 "is_from_nought" ["thing"] spDictNo := ⟨fNO, dNO, ok_noughtD (k := 2) FNO WD3, gNO, FNO.kp, bNO⟩
  have NU4 : Def P w K mg base CX0 4 "is_number" ["thing"] (spAsk K mNumber) := ⟨fNU, dNU, ok_number (k := 2) FNU NO3, gNU, FNU.kp, bNU⟩
  have NU5 : Def P w K mg base CX0 5 "is_number" ["thing"] (spAsk K mNumber) := ⟨fNU, dNU, ok_number (k := 3) FNU NO4, gNU, FNU.kp, bNU⟩
  have NUD5 : Def P w K mg base CX0 5 "is_number" ["thing"] spDictNo := ⟨fNU, dNU, ok_numberD (k := 3) FNU ND4, gNU, FNU.kp, bNU⟩
  have NUA5 : Def P w K mg base CX0 5 "is_number" ["thing"] (spNumA K) := ⟨fNU, dNU, fn_or (ok_number (k := 3) FNU NO4) (ok_numberD (k := 3) FNU ND4), gNU, FNU.kp, bNU⟩
  have TU4 : Def P w K mg base CX0 4 "is_tuple" ["thing", "fewest", "most"] (spTuple K) := ⟨fTU, dTU, ok_tuple (k := 3) FTU n5 n12 n0, gTU, FTU.kp, bTU⟩
  have LO5 : Def P w K mg base CX0 5 "is_limit_of" ["program", "thing"] (spLimit K) := ⟨fLO, dLO, ok_limit_of (k := 3) FLO TU4 NU4 n0 n8, gLO, FLO.kp, bLO⟩
  have SO2 : Def P w K mg base CX0 2 "is_source" ["source", "size", "box", "sizes"] (spSource K) := ⟨fSO, dSO, ok_source (k := 1) FSO n5 n7 n6 n0, gSO, FSO.kp, bSO⟩
  have WA2 : Def P w K mg base CX0 2 "are_ways" ["thing", "end"] (spWays K) := ⟨fWA, dWA, ok_ways (k := 1) FWA n5 n12 n6 n0, gWA, FWA.kp, bWA⟩
  have RW3 : Def P w K mg base CX0 3 "are_rows" ["rows", "end", "sizes", "texts", "hands", "name"] (spRows K) := ⟨fRW, dRW, ok_rows (k := 1) FRW SO2 WA2 n5 n12 n7 n6 n0, gRW, FRW.kp, bRW⟩
  have AL4 : Def P w K mg base CX0 4 "are_all_rows" ["scopes"] (spAll K) := ⟨fAL, dAL, ok_all (k := 2) FAL RW3 n0 n14, gAL, FAL.kp, bAL⟩
  have BX3 : Def P w K mg base CX0 3 "are_boxes" ["thing", "most", "greatest", "sizes"] (spBoxes K) := ⟨fBX, dBX, ok_boxes (k := 2) FBX n5 n12 n7 n6 n0 c8, gBX, FBX.kp, bBX⟩
  have BX4 : Def P w K mg base CX0 4 "are_boxes" ["thing", "most", "greatest", "sizes"] (spBoxes K) := ⟨fBX, dBX, ok_boxes (k := 3) FBX n5 n12 n7 n6 n0 c8, gBX, FBX.kp, bBX⟩
  have SC4 : Def P w K mg base CX0 4 "scopes_of" ["common", "hands"] (spScopes K) := ⟨fSC, dSC, ok_scopes (k := 2) FSC BX3 n5 n12 n7 n0 c8 co cp ct0 cr, gSC, FSC.kp, bSC⟩
  have LK5 : Def P w K mg base CX0 5 "look_at_program" ["thing"] (spLook K) := ⟨fLK, dLK, ok_look (k := 3) FLK BX4 SC4 AL4 n5 n12 n0 ch cc cg, gLK, FLK.kp, bLK⟩
  have LI6 : Def P w K mg base CX0 6 "is_limit" ["program", "thing"] (spLimit K) := ⟨fLI, dLI, ok_limit (k := 4) FLI LK5 LO5, gLI, FLI.kp, bLI⟩
  have IN5 : Def P w K mg base CX0 5 "_law_is_number" ["_law_item"] (spAsk K mNumber) := ⟨fIN, dIN, ok_lisnum (k := 4) FIN n5 n6 n13, gIN, FIN.kp, bIN⟩
  have IB6 : Def P w K mg base CX0 6 "_law_is_bound" ["_law_prog", "_law_item"] (spLimit K) := ⟨fIB, dIB, ok_lbound (k := 4) FIB IN5 n5 n12 n0, gIB, FIB.kp, bIB⟩
  have TK1 : Def P w K mg base CX0 1 "_law_take" ["_law_pool_here", "_law_total"] spTake := ⟨fTK, dTK, ok_take (k := 0) FTK, gTK, FTK.kp, bTK⟩
  have TK2 : Def P w K mg base CX0 2 "_law_take" ["_law_pool_here", "_law_total"] spTake := ⟨fTK, dTK, ok_take (k := 1) FTK, gTK, FTK.kp, bTK⟩
  have TK3 : Def P w K mg base CX0 3 "_law_take" ["_law_pool_here", "_law_total"] spTake := ⟨fTK, dTK, ok_take (k := 2) FTK, gTK, FTK.kp, bTK⟩
  have TK4 : Def P w K mg base CX0 4 "_law_take" ["_law_pool_here", "_law_total"] spTake := ⟨fTK, dTK, ok_take (k := 3) FTK, gTK, FTK.kp, bTK⟩
  have TK6 : Def P w K mg base CX0 6 "_law_take" ["_law_pool_here", "_law_total"] spTake := ⟨fTK, dTK, ok_take (k := 5) FTK, gTK, FTK.kp, bTK⟩
  have LS2 : Def P w K mg base CX0 2 "_law_source" ["_law_pool_here", "_law_boxes", "_law_box"] (spSrc K) := ⟨fLS, dLS, ok_src (k := 0) FLS TK1 n0, gLS, FLS.kp, bLS⟩
  have LR3 : Def P w K mg base CX0 3 "_law_row" ["_law_pool_here", "_law_boxes", "_law_total", "_law_titles", "_law_others"] (spRow K) := ⟨fLR, dLR, ok_row (k := 1) FLR TK2 LS2 n0 n12 n16 n17 n6, gLR, FLR.kp, bLR⟩
  have LT4 : Def P w K mg base CX0 4 "_law_texts" ["_law_pool_here", "_law_boxes", "_law_others", "_law_deep"] (spTexts K) := ⟨fLT, dLT, ok_texts (k := 2) FLT TK3 LR3 n9 n12 n3, gLT, FLT.kp, bLT⟩
  have LP5 : Def P w K mg base CX0 5 "_law_program" ["_law_pool_here", "_law_most", "_law_deep"] (spProg K) := ⟨fLP, dLP, ok_prog (k := 3) FLP TK4 LT4 n6 n12 n15, gLP, FLP.kp, bLP⟩
  have LN2 : Def P w K mg base CX0 2 "_law_number" ["_law_pool_here"] spLNumber := ⟨fLN, dLN, ok_lnumber (k := 0) FLN TK1, gLN, FLN.kp, bLN⟩
  have LB3 : Def P w K mg base CX0 3 "_law_bound" ["_law_pool_here", "_law_prog"] (spLBnd K) := ⟨fLB, dLB, ok_lbnd (k := 1) FLB LN2 n12, gLB, FLB.kp, bLB⟩
  have LW1 : Def P w K mg base CX0 1 "_law_lower" ["_law_number_here"] spOneLess := ⟨fLW, dLW, ok_llower (k := 0) FLW n1, gLW, FLW.kp, bLW⟩
  have SP1 : Def P w K mg base CX0 1 "_law_spans" ["_law_item_a", "_law_item_b"] (spCovers K) := ⟨fSP, dSP, ok_lspans (k := 0) FSP n15 n18, gSP, FSP.kp, bSP⟩
  have NL1 : Def P w K mg base CX0 1 "is_no_less" ["one", "other"] spNoLess := ⟨fNL, dNL, ok_noless (k := 0) FNL, gNL, FNL.kp, bNL⟩
  have CO2 : Def P w K mg base CX0 2 "covers" ["one", "other"] (spCovers K) := ⟨fCO, dCO, ok_covers (k := 0) FCO NL1 n8 n18, gCO, FCO.kp, bCO⟩
  have PT2 : Def P w K mg base CX0 2 "put_together" ["run"] spPut := ⟨fPT, dPT, ok_put (k := 1) FPT n15, gPT, FPT.kp, bPT⟩
  have BT2 : Def P w K mg base CX0 2 "is_between" ["thing", "low", "high"] spBetween := ⟨fBT, dBT, ok_between (k := 0) FBT WH1, gBT, FBT.kp, bBT⟩
  have HA3 : Def P w K mg base CX0 3 "is_hand" ["hands", "thing"] (spHand K) := ⟨fHA, dHA, ok_hand (k := 1) FHA BT2 n0, gHA, FHA.kp, bHA⟩
  have OL3 : Def P w K mg base CX0 3 "one_less" ["number"] spOneLess := ⟨fOL, dOL, ok_oneless (k := 2) FOL n1, gOL, FOL.kp, bOL⟩
  have CN1 : Def P w K mg base CX0 1 "_law_counts" ["_law_race"] spLCounts := ⟨fCN, dCN, ok_lcounts (k := 0) FCN, gCN, FCN.kp, bCN⟩
  have PO1 : Def P w K mg base CX0 1 "_law_pool" ["_law_script", "_law_k"] (spPool K) := ⟨fPO, dPO, ok_pool (k := 0) FPO n0 n10 n6, gPO, FPO.kp, bPO⟩
  obtain ⟨t, h1, h2⟩ := law_body (P := P) (w := w) (K := K) (mg := mg) (base := base)
    { Y := { S := e0, cT := cT, gT := gT, ex := ex, kt := et, dL := ⟨fLIM, dLIM, ok_limitof (k := 3) FLIM e0 LK5 NUA5 n0, gLIM, FLIM.kp⟩, kL := kE },
      dO := PO1, dP := LP5, dT := TK1, dN := LN2, dB := LB3, dW := LW1, dS := SP1, dC := ⟨fCO, dCO, ok_covers (k := 0) FCO NL1 n8 n18, gCO, FCO.kp, bCO⟩, dL := ⟨fLE, dLE, ok_less (k := 2) FLE HA3 OL3, gLE, FLE.kp, bLE⟩, dM := CN1, dI := ⟨fWI, dWI, ok_within (k := 1) FWI PT2 CO2 n0 n3 n12, gWI, FWI.kp, bWI⟩,
      dD := ⟨fOD, dOD, ok_odd FOD { S := e0, cT := cT, gT := gT, ex := ex, kt := et, dL := ⟨fLIM, dLIM, ok_limitof (k := 3) FLIM e0 LK5 NUA5 n0, gLIM, FLIM.kp⟩, kL := kE } TK6 LI6 IB6 n15 n4 n5, gOD, FOD.kp, bOD⟩,
      b0 := bL, kR := kR, kL := kL, kC := kC, kI := kI,
      mlen := n0, mmax := n1, mmin := n2, mran := n3, mrep := n4, mtup := n12, menu := n9 } hw.1 hw.2 hr
  exact ⟨t, h1.nox, h2⟩
end PP

set_option maxHeartbeats 0
open PySem PySem.W PyProof.Rows
open_top head27 for PySem.Challenge.rw_fewturnsover_k27_limits_told

open PySem PySem.W PyProof.Rows
set_option maxHeartbeats 0 in
theorem PySem.Challenge.cw_fewturnsover_k27_limits_told_holds : PySem.Challenge.rw_fewturnsover_k27_limits_told.Holds := by
  exact head27 (by
  k_fill
  refine G2.walk_G (l := PySem.Challenge.rw_fewturnsover_k27_limits_told) (n := 63) (k := 7) (x := "_law_script") (fun K H a ns => L2.SqL K H a (ns.map L2.V.int) ∧ ns.length ≤ 63) rfl (by decide) rfl ⟨rfl, by decide, by decide⟩ (fun w h Y => PySem.W.kIn_of Y) ?F (fun _ _ _ _ hl _ hS => ⟨hS, hl⟩)
  case F =>
    intro w mg fa h KX G hmg
    refine' PP.all_mk KX G hmg (EE.cat_mk ?ca ?ci ?cl ?cc ?cm ?cn ?co ?cp ?cs ?cq) ?xm ?aT ?xt (PP.atk_mk ?ka ?kl ?kc ?kk ?kd) ?m8 ?mc ?mg ?mo ?mp ?mh ?mt ?mr (EE.at_mk ?a0 ?b0 ?c0 ?d0) (EE.at_mk ?a1 ?b1 ?c1 ?d1) (EE.at_mk ?a2 ?b2 ?c2 ?d2) (EE.at_mk ?a3 ?b3 ?c3 ?d3) (EE.at_mk ?a4 ?b4 ?c4 ?d4) (EE.at_mk ?a5 ?b5 ?c5 ?d5) (EE.at_mk ?a6 ?b6 ?c6 ?d6) (EE.at_mk ?a7 ?b7 ?c7 ?d7) (EE.at_mk ?a8 ?b8 ?c8 ?d8) (EE.at_mk ?a9 ?b9 ?c9 ?d9) (EE.at_mk ?a10 ?b10 ?c10 ?d10) (EE.at_mk ?a11 ?b11 ?c11 ?d11) (EE.at_mk ?a12 ?b12 ?c12 ?d12) (EE.at_mk ?a13 ?b13 ?c13 ?d13) (EE.at_mk ?a14 ?b14 ?c14 ?d14) (EE.at_mk ?a15 ?b15 ?c15 ?d15) (EE.at_mk ?a16 ?b16 ?c16 ?d16) (EE.at_mk ?a17 ?b17 ?c17 ?d17) (EE.at_mk ?a18 ?b18 ?c18 ?d18) (EE.at_mk ?a19 ?b19 ?c19 ?d19) (EE.at_mk ?a20 ?b20 ?c20 ?d20) (EE.at_mk ?a21 ?b21 ?c21 ?d21) (EE.at_mk ?a22 ?b22 ?c22 ?d22) (EE.at_mk ?a23 ?b23 ?c23 ?d23) (EE.at_mk ?a24 ?b24 ?c24 ?d24) (EE.at_mk ?a25 ?b25 ?c25 ?d25) (EE.at_mk ?a26 ?b26 ?c26 ?d26) (EE.at_mk ?a27 ?b27 ?c27 ?d27) (EE.at_mk ?a28 ?b28 ?c28 ?d28) (EE.at_mk ?a29 ?b29 ?c29 ?d29) (EE.at_mk ?a30 ?b30 ?c30 ?d30) (EE.at_mk ?a31 ?b31 ?c31 ?d31) (EE.at_mk ?a32 ?b32 ?c32 ?d32) (EE.at_mk ?a33 ?b33 ?c33 ?d33) (EE.at_mk ?a34 ?b34 ?c34 ?d34) (EE.at_mk ?a35 ?b35 ?c35 ?d35) ?z0 ?z1 ?z2 ?z3 ?z4 ?z5 ?z6 ?z7 ?z8 ?z9 ?z10 ?z11 ?z12 ?z13 ?z14 ?z15 ?z16 ?z17 ?z18
    (case ca => k_is)
    (case ci => k_is)
    (case cl => k_is)
    (case cc => k_is)
    (case cm => k_is)
    (case cn => k_is)
    (case co => rfl)
    (case cp => first | rfl | decide +kernel)
    (case cs => decide +kernel)
    (case cq => kernel_rfl)
    (case xm => first | kernel_rfl | k_is)
    (case aT => k_is)
    (case xt => first | kernel_rfl | k_is)
    (case ka => k_is)
    (case kl => k_is)
    (case kc => k_is)
    (case kk => k_is)
    (case kd => k_is)
    (case m8 => k_is)
    (case mc => k_is)
    (case mg => k_is)
    (case mo => k_is)
    (case mp => k_is)
    (case mh => k_is)
    (case mt => k_is)
    (case mr => k_is)
    (case a0 => k_is); (case b0 => k_is); (case c0 => k_is); (case d0 => k_is)
    (case a1 => k_is); (case b1 => k_is); (case c1 => k_is); (case d1 => k_is)
    (case a2 => k_is); (case b2 => k_is); (case c2 => k_is); (case d2 => k_is)
    (case a3 => k_is); (case b3 => k_is); (case c3 => k_is); (case d3 => k_is)
    (case a4 => k_is); (case b4 => k_is); (case c4 => k_is); (case d4 => k_is)
    (case a5 => k_is); (case b5 => k_is); (case c5 => k_is); (case d5 => k_is)
    (case a6 => k_is); (case b6 => k_is); (case c6 => k_is); (case d6 => k_is)
    (case a7 => k_is); (case b7 => k_is); (case c7 => k_is); (case d7 => k_is)
    (case a8 => k_is); (case b8 => k_is); (case c8 => k_is); (case d8 => k_is)
    (case a9 => k_is); (case b9 => k_is); (case c9 => k_is); (case d9 => k_is)
    (case a10 => k_is); (case b10 => k_is); (case c10 => k_is); (case d10 => k_is)
    (case a11 => k_is); (case b11 => k_is); (case c11 => k_is); (case d11 => k_is)
    (case a12 => k_is); (case b12 => k_is); (case c12 => k_is); (case d12 => k_is)
    (case a13 => k_is); (case b13 => k_is); (case c13 => k_is); (case d13 => k_is)
    (case a14 => k_is); (case b14 => k_is); (case c14 => k_is); (case d14 => k_is)
    (case a15 => k_is); (case b15 => k_is); (case c15 => k_is); (case d15 => k_is)
    (case a16 => k_is); (case b16 => k_is); (case c16 => k_is); (case d16 => k_is)
    (case a17 => k_is); (case b17 => k_is); (case c17 => k_is); (case d17 => k_is)
    (case a18 => k_is); (case b18 => k_is); (case c18 => k_is); (case d18 => k_is)
    (case a19 => k_is); (case b19 => k_is); (case c19 => k_is); (case d19 => k_is)
    (case a20 => k_is); (case b20 => k_is); (case c20 => k_is); (case d20 => k_is)
    (case a21 => k_is); (case b21 => k_is); (case c21 => k_is); (case d21 => k_is)
    (case a22 => k_is); (case b22 => k_is); (case c22 => k_is); (case d22 => k_is)
    (case a23 => k_is); (case b23 => k_is); (case c23 => k_is); (case d23 => k_is)
    (case a24 => k_is); (case b24 => k_is); (case c24 => k_is); (case d24 => k_is)
    (case a25 => k_is); (case b25 => k_is); (case c25 => k_is); (case d25 => k_is)
    (case a26 => k_is); (case b26 => k_is); (case c26 => k_is); (case d26 => k_is)
    (case a27 => k_is); (case b27 => k_is); (case c27 => k_is); (case d27 => k_is)
    (case a28 => k_is); (case b28 => k_is); (case c28 => k_is); (case d28 => k_is)
    (case a29 => k_is); (case b29 => k_is); (case c29 => k_is); (case d29 => k_is)
    (case a30 => k_is); (case b30 => k_is); (case c30 => k_is); (case d30 => k_is)
    (case a31 => k_is); (case b31 => k_is); (case c31 => k_is); (case d31 => k_is)
    (case a32 => k_is); (case b32 => k_is); (case c32 => k_is); (case d32 => k_is)
    (case a33 => k_is); (case b33 => k_is); (case c33 => k_is); (case d33 => k_is)
    (case a34 => k_is); (case b34 => k_is); (case c34 => k_is); (case d34 => k_is)
    (case a35 => k_is); (case b35 => k_is); (case c35 => k_is); (case d35 => k_is)
    (case z0 => k_is); (case z1 => k_is); (case z2 => k_is); (case z3 => k_is); (case z4 => k_is); (case z5 => k_is); (case z6 => k_is); (case z7 => k_is); (case z8 => k_is); (case z9 => k_is); (case z10 => k_is); (case z11 => k_is); (case z12 => k_is); (case z13 => k_is); (case z14 => k_is); (case z15 => k_is); (case z16 => k_is); (case z17 => k_is); (case z18 => k_is))
